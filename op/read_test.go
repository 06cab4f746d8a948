package op_test

import (
	"bytes"
	"strings"
	"testing"

	"interrex/api"
	"interrex/op"
)

// refused tells whether of these bytes there is no operation, by that error;
// they stay as they are.
func refused(t *testing.T, what string, b string, want api.Errno) {
	t.Helper()
	given := []byte(b)
	if o, e := op.Read(given); o != (op.Op{}) || e != want {
		t.Errorf("%s, %.90q: %s, error %d, not %d", what, b, shown(o), e, want)
	}
	if string(given) != b {
		t.Errorf("%s: the bytes were %.90q, and are %.90q", what, b, given)
	}
}

// isRead tells whether these bytes are those of an operation.
func isRead(t *testing.T, b string, want op.Op) {
	t.Helper()
	if o, e := op.Read([]byte(b)); o != want || e != api.OK {
		t.Errorf("%.90q: %s, error %d, not %s", b, shown(o), e, shown(want))
	}
}

// cutText takes the text with which bytes begin.
func cutText(b string) (string, string, bool) {
	if len(b) < 2 {
		return "", "", false
	}
	n := int(b[0]) + 256*int(b[1])
	if len(b)-2 < n {
		return "", "", false
	}
	return b[2 : 2+n], b[2+n:], true
}

// retold tells the operation of bytes anew, kind by kind.
func retold(b string) (op.Op, api.Errno) {
	if len(b) > 64 {
		return op.Op{}, api.ErrLong
	}
	if b == "" {
		return op.Op{}, api.ErrShort
	}
	o, b := op.Op{Kind: b[0]}, b[1:]
	s, is := signs(o.Kind)
	if !is {
		return op.Op{}, api.ErrForm
	}
	if s == "n r" {
		return retoldAdvert(o, b)
	}
	if s != "" {
		if o.A, b, is = cutText(b); !is {
			return op.Op{}, api.ErrShort
		}
	}
	if s == "a b" {
		if o.B, b, is = cutText(b); !is {
			return op.Op{}, api.ErrShort
		}
	}
	if b != "" {
		return op.Op{}, api.ErrLong
	}
	return o, api.OK
}

// retoldAdvert tells what a node says of itself.
func retoldAdvert(o op.Op, b string) (op.Op, api.Errno) {
	switch {
	case len(b) < 1:
		return op.Op{}, api.ErrShort
	case b[0] > 6:
		return op.Op{}, api.ErrForm
	case len(b) < 2:
		return op.Op{}, api.ErrShort
	case b[1] < 1 || b[1] > 3:
		return op.Op{}, api.ErrForm
	case len(b) > 2:
		return op.Op{}, api.ErrLong
	}
	o.Node, o.Release = b[0], api.Release(b[1])
	return o, api.OK
}

// asRetold holds what is read against what is told anew.
func asRetold(t *testing.T, b string) {
	t.Helper()
	if o, e := retold(b); e == api.OK {
		isRead(t, b, o)
	} else {
		refused(t, "told anew", b, e)
	}
}

func TestP14_1ReadExample(t *testing.T) {
	isRead(t, "\x00\x01\x00a\x01\x001", op.Op{Kind: op.Create, A: "a", B: "1"})
}

func TestP14_1Read(t *testing.T) {
	each(func(o op.Op) { isRead(t, spelt(o), o) })
}

func TestP14_1ReadNoBytes(t *testing.T) {
	for _, b := range [][]byte{nil, {}, make([]byte, 0, 8), []byte{15}[:0]} {
		if o, e := op.Read(b); o != (op.Op{}) || e != api.ErrShort {
			t.Error("no bytes", o, e)
		}
	}
}

// More than 64 bytes are told ahead of whatever they are.
func TestP14_1ReadTooManyBytes(t *testing.T) {
	for _, x := range told {
		for _, n := range []int{65, 66, 100, 255, 256, 321, 65536, 1 << 17} {
			refused(t, "zeros", string([]byte{x.kind})+strings.Repeat("\x00", n-1), api.ErrLong)
			refused(t, "a text that is there", string([]byte{x.kind, byte(n - 3), byte((n - 3) >> 8)})+strings.Repeat("x", n-3), api.ErrLong)
			refused(t, "a text that wants bytes", string([]byte{x.kind})+strings.Repeat("\xff", n-1), api.ErrLong)
		}
	}
	refused(t, "no such kind", strings.Repeat("\xff", 65), api.ErrLong)
	refused(t, "no such kind", strings.Repeat("\xff", 64), api.ErrForm)
	isRead(t, "\x04\x3d\x00"+strings.Repeat("x", 61), op.Op{Kind: op.List, A: strings.Repeat("x", 61)})
	refused(t, "a byte more", "\x04\x3e\x00"+strings.Repeat("x", 62), api.ErrLong)
	refused(t, "a byte less than it says", "\x04\x3e\x00"+strings.Repeat("x", 61), api.ErrShort)
	refused(t, "a byte behind it", "\x04\x3c\x00"+strings.Repeat("x", 61), api.ErrLong)
}

// Each beginning wants bytes.
func TestP14_1ReadShort(t *testing.T) {
	each(func(o op.Op) {
		b := spelt(o)
		for n := range len(b) {
			refused(t, "a beginning", b[:n], api.ErrShort)
		}
	})
}

// A text that says more than there is wants bytes, however much it says.
func TestP14_1ReadTextWantsBytes(t *testing.T) {
	for _, x := range told {
		if !has(x.kind, "a") {
			continue
		}
		for _, n := range []int{1, 2, 59, 60, 61, 62, 63, 64, 65, 127, 128, 255, 256, 257, 512, 1 << 15, 1<<16 - 1} {
			says := string([]byte{byte(n), byte(n >> 8)})
			kind := string([]byte{x.kind})
			refused(t, "nothing of A", kind+says, api.ErrShort)
			refused(t, "not all of A", kind+says+strings.Repeat("x", min(n-1, 61)), api.ErrShort)
			if has(x.kind, "b") {
				refused(t, "nothing of B", kind+text("a")+says, api.ErrShort)
				refused(t, "not all of B", kind+text("a")+says+strings.Repeat("x", min(n-1, 58)), api.ErrShort)
			}
		}
	}
}

func TestP14_1ReadNoKind(t *testing.T) {
	for k := 17; k < 256; k++ {
		for _, behind := range []string{"", "\x00", "\x00\x00", "\x01\x00a", "\x00\x00\x00\x00", "\x00\x01", "\xff\xff"} {
			refused(t, "no such kind", string([]byte{byte(k)})+behind, api.ErrForm)
		}
	}
}

// A node that may not be is told ahead of a release that is wanting, and that
// ahead of what stands behind it.
func TestP14_1ReadAdvertise(t *testing.T) {
	for n := range 256 {
		asRetold(t, string([]byte{16, byte(n)}))
		for r := range 256 {
			asRetold(t, string([]byte{16, byte(n), byte(r)}))
			asRetold(t, string([]byte{16, byte(n), byte(r), 0}))
		}
	}
	refused(t, "a node that may not be, nothing behind it", "\x10\x07", api.ErrForm)
	refused(t, "a release that is wanting", "\x10\x06", api.ErrShort)
	refused(t, "a release that may not be, and a byte behind it", "\x10\x06\x04\x00", api.ErrForm)
	refused(t, "a byte behind a release", "\x10\x06\x03\x00", api.ErrLong)
}

func TestP14_1ReadBytesLeft(t *testing.T) {
	each(func(o op.Op) {
		b := spelt(o)
		for _, behind := range []string{"\x00", "\x01", "\xff", "\x00\x00", b} {
			refused(t, "bytes are left", b+behind, api.ErrLong)
		}
	})
}

// All bytes of up to 3, and those of 4 and more that say few things.
func TestP14_1ReadAnyBytes(t *testing.T) {
	asRetold(t, "")
	for a := range 256 {
		asRetold(t, string([]byte{byte(a)}))
		for b := range 256 {
			asRetold(t, string([]byte{byte(a), byte(b)}))
		}
	}
	small := []byte{0, 1, 2, 3, 4, 7, 255}
	var grow func(b []byte)
	grow = func(b []byte) {
		asRetold(t, string(b))
		if len(b) == 6 {
			return
		}
		for _, x := range small {
			grow(append(bytes.Clone(b), x))
		}
	}
	for k := range 20 {
		grow([]byte{byte(k)})
	}
}

// Random bytes, and those of operations in which some are others.
func TestP14_1ReadSpoilt(t *testing.T) {
	d := dice(14)
	for range 20000 {
		b := make([]byte, d.below(70))
		for i := range b {
			b[i] = byte(d.below(256) >> d.below(9))
		}
		asRetold(t, string(b))
	}
	each(func(o op.Op) {
		b := spelt(o)
		for range 20 {
			s := []byte(b)
			s[d.below(len(s))] = byte(d.below(256) >> d.below(9))
			asRetold(t, string(s))
			i := d.below(len(b))
			asRetold(t, b[:i]+b[i+1:])
			asRetold(t, b[:i]+string([]byte{byte(d.below(4))})+b[i:])
		}
	})
}

// dice is numbers that come about as if by chance, but each time the same.
type dice uint64

// below tells the next one, below n.
func (d *dice) below(n int) int {
	*d = *d*6364136223846793005 + 1442695040888963407
	return int(uint64(*d) >> 33 % uint64(n))
}

package frame_test

import (
	"bytes"
	"encoding/binary"
	"hash/crc32"
	"math"
	"testing"

	"interrex/api"
	"interrex/frame"
)

// dice is a row of numbers that look thrown, the same each time.
type dice uint64

func (d *dice) next(n int) int {
	*d = *d*6364136223846793005 + 1442695040888963407
	return int(uint64(*d) >> 33 % uint64(n))
}

func (d *dice) bytes(n int) []byte {
	b := make([]byte, n)
	for i := range b {
		b[i] = byte(d.next(256))
	}
	return b
}

// claimed is bytes of a frame's form, whose parts need not fit each other,
// under a sum that does.
func claimed(version, kind uint8, size uint32, body []byte) []byte {
	b := binary.LittleEndian.AppendUint32([]byte{version, kind}, size)
	b = append(b, body...)
	return binary.LittleEndian.AppendUint32(b, crc32.ChecksumIEEE(b))
}

// plain is the frame as the document's words tell it.
func plain(kind uint8, body []byte) []byte {
	return claimed(1, kind, uint32(len(body)), body)
}

// unsummed is the same under another sum.
func unsummed(b []byte) []byte {
	c := bytes.Clone(b)
	c[len(c)-1] ^= 1
	return c
}

// longestBody is how many bytes a body has at most.
const longestBody = 65526

func TestP3_1PutOfKnownFrames(t *testing.T) {
	cases := []struct {
		kind uint8
		body string
		want []byte
	}{
		{7, "", []byte{1, 7, 0, 0, 0, 0, 0x16, 0xae, 0xbe, 0xc8}},
		{0, "", []byte{1, 0, 0, 0, 0, 0, 0x06, 0x72, 0x9e, 0x7a}},
		{3, "abc", []byte{1, 3, 3, 0, 0, 0, 'a', 'b', 'c', 0x43, 0x85, 0x70, 0x84}},
		{255, "\x00", []byte{1, 255, 1, 0, 0, 0, 0, 0xb6, 0x56, 0xbf, 0xe2}},
	}
	for _, c := range cases {
		b, e := frame.New().Put(c.kind, []byte(c.body))
		if e != api.OK || !bytes.Equal(b, c.want) {
			t.Errorf("%d, %q: %x, %d; not %x", c.kind, c.body, b, e, c.want)
		}
	}
	if frame.Format != 1 {
		t.Error(frame.Format)
	}
}

func TestP3_1PutOfAnyKindAndBody(t *testing.T) {
	var d dice
	f := frame.New()
	for kind := range 256 {
		body := d.bytes(d.next(40))
		if b, e := f.Put(uint8(kind), body); e != api.OK || !bytes.Equal(b, plain(uint8(kind), body)) {
			t.Errorf("%d, %v: %v, %d", kind, body, b, e)
		}
	}
	for _, n := range []int{0, 1, 255, 256, 257, 65525, longestBody} {
		body := d.bytes(n)
		if b, e := f.Put(9, body); e != api.OK || !bytes.Equal(b, plain(9, body)) {
			t.Errorf("%d bytes: %d, %d", n, len(b), e)
		}
	}
}

func TestP3_1PutTooLong(t *testing.T) {
	f := frame.New()
	b, e := f.Put(1, make([]byte, longestBody))
	if e != api.OK || len(b) != api.MaxFrame {
		t.Errorf("the longest one: %d bytes, %d", len(b), e)
	}
	for _, n := range []int{longestBody + 1, 65535, 65536, 65537, 1 << 20} {
		if b, e := f.Put(1, make([]byte, n)); e != api.ErrLong || len(b) != 0 {
			t.Errorf("%d bytes: %d, %d", n, len(b), e)
		}
	}
}

// A framer that is made and one that is zero tell the same, whatever each was
// asked before.
func TestP3_1NewAndZero(t *testing.T) {
	var d dice
	var zero frame.Framer
	made := frame.New()
	for range 300 {
		body := d.bytes(d.next(20))
		fresh, e := frame.New().Put(5, body)
		b, g := zero.Put(5, body)
		c, h := made.Put(5, body)
		if !bytes.Equal(b, fresh) || !bytes.Equal(c, fresh) || e != api.OK || g != api.OK || h != api.OK {
			t.Fatalf("%v: %v, %v, %v", body, fresh, b, c)
		}
		fresh[d.next(len(fresh))] ^= byte(d.next(2))
		var first frame.Framer
		k, x, e := first.Get(fresh)
		l, y, g := zero.Get(fresh)
		m, z, h := made.Get(fresh)
		if k != l || k != m || !bytes.Equal(x, y) || !bytes.Equal(x, z) || e != g || e != h {
			t.Fatalf("%v: %d, %d, %d", fresh, e, g, h)
		}
	}
	if frame.New() == frame.New() {
		t.Error("two framers are one")
	}
}

// got holds what Get tells against what it should; beside an error all else
// must be zero.
func got(t *testing.T, b []byte, kind uint8, body []byte, want api.Errno) {
	t.Helper()
	k, x, e := frame.New().Get(b)
	if k != kind || !bytes.Equal(x, body) || e != want {
		t.Errorf("%d bytes that begin with %v: %d, %d bytes, %d; not %d, %d bytes, %d",
			len(b), b[:min(len(b), 16)], k, len(x), e, kind, len(body), want)
	}
}

func TestP3_1Get(t *testing.T) {
	var d dice
	for kind := range 256 {
		body := d.bytes(d.next(40))
		got(t, plain(uint8(kind), body), uint8(kind), body, api.OK)
	}
	for _, n := range []int{0, 1, 255, 256, 65525, longestBody} {
		body := d.bytes(n)
		got(t, plain(200, body), 200, body, api.OK)
	}
}

func TestP3_1GetTooLong(t *testing.T) {
	long := make([]byte, longestBody+1)
	got(t, plain(1, long), 0, nil, api.ErrLong)
	got(t, claimed(2, 1, longestBody+1, long), 0, nil, api.ErrLong)      // ahead of the version
	got(t, claimed(1, 1, math.MaxUint32, long), 0, nil, api.ErrLong)     // ahead of what is wanting
	got(t, unsummed(claimed(1, 1, 0, long)), 0, nil, api.ErrLong)        // ahead of the sum
	got(t, append(plain(1, long[1:]), 0), 0, nil, api.ErrLong)           // a whole frame, and a byte
	got(t, make([]byte, 1<<20), 0, nil, api.ErrLong)                     // zeros
	got(t, claimed(2, 1, longestBody, long[1:]), 0, nil, api.ErrVersion) // as many as may be
}

func TestP3_1GetTooShort(t *testing.T) {
	got(t, nil, 0, nil, api.ErrShort)
	whole := plain(7, nil)
	for n := range len(whole) {
		got(t, whole[:n], 0, nil, api.ErrShort)
		got(t, make([]byte, n), 0, nil, api.ErrShort)                              // ahead of the version
		got(t, bytes.Repeat([]byte{255}, n), 0, nil, api.ErrShort)                 // likewise
		got(t, append([]byte{1, 7}, make([]byte, n)...)[:n], 0, nil, api.ErrShort) // its sum is wanting
	}
}

func TestP3_1GetOfOtherVersion(t *testing.T) {
	body := []byte("abc")
	for version := range 256 {
		if version == frame.Format {
			continue
		}
		v := uint8(version)
		for _, size := range []uint32{0, 2, 3, 4, math.MaxUint32} {
			got(t, claimed(v, 3, size, body), 0, nil, api.ErrVersion)
			got(t, unsummed(claimed(v, 3, size, body)), 0, nil, api.ErrVersion)
		}
	}
	got(t, make([]byte, 10), 0, nil, api.ErrVersion)
}

// A length near the end of 32 bits must not come round to one that fits.
var roundLengths = []uint32{1 << 16, 1 << 24, 1 << 31, 1<<31 + 3, math.MaxUint32 - 10, math.MaxUint32 - 9, math.MaxUint32 - 6, math.MaxUint32 - 3, math.MaxUint32}

func TestP3_1GetOfWrongLength(t *testing.T) {
	body := []byte("abc")
	for _, size := range append([]uint32{4, 5, 255, 256, longestBody, longestBody + 1}, roundLengths...) {
		got(t, claimed(1, 3, size, body), 0, nil, api.ErrShort)
		got(t, unsummed(claimed(1, 3, size, body)), 0, nil, api.ErrShort)
		got(t, claimed(1, 3, size, nil), 0, nil, api.ErrShort)
	}
	for size := range uint32(3) {
		got(t, claimed(1, 3, size, body), 0, nil, api.ErrLong)
		got(t, unsummed(claimed(1, 3, size, body)), 0, nil, api.ErrLong)
	}
	whole := plain(3, body)
	for n := 10; n < len(whole); n++ {
		got(t, whole[:n], 0, nil, api.ErrShort)
	}
	for n := range 20 {
		got(t, append(bytes.Clone(whole), make([]byte, n+1)...), 0, nil, api.ErrLong)
	}
	got(t, append(bytes.Clone(whole), whole...), 0, nil, api.ErrLong)
}

func TestP3_1GetOfWrongSum(t *testing.T) {
	for _, body := range [][]byte{nil, []byte("abc"), make([]byte, longestBody)} {
		whole := plain(3, body)
		got(t, unsummed(whole), 0, nil, api.ErrSum)
		spoilt := bytes.Clone(whole)
		spoilt[1] = 4 // another kind
		got(t, spoilt, 0, nil, api.ErrSum)
		if len(body) > 0 {
			spoilt = bytes.Clone(whole)
			spoilt[6+len(body)/2] ^= 128
			got(t, spoilt, 0, nil, api.ErrSum)
		}
	}
	// The sum is of the head too, not of the body alone.
	b := append([]byte{1, 3, 3, 0, 0, 0}, "abc"...)
	got(t, binary.LittleEndian.AppendUint32(b, crc32.ChecksumIEEE([]byte("abc"))), 0, nil, api.ErrSum)
	got(t, binary.BigEndian.AppendUint32(b, crc32.ChecksumIEEE(b)), 0, nil, api.ErrSum)
}

package op_test

import (
	"strings"
	"testing"

	"interrex/api"
	"interrex/op"
)

// may tells whether an operation may be, and is told as these bytes.
func may(t *testing.T, o op.Op, want string) {
	t.Helper()
	if e := op.Check(o); e != api.OK {
		t.Errorf("%s: Check: error %d", shown(o), e)
	}
	if b, e := op.Bytes(o); e != api.OK || string(b) != want {
		t.Errorf("%s: %q, error %d, not %q", shown(o), b, e, want)
	}
}

// mayNot tells whether an operation is refused by that error.
func mayNot(t *testing.T, what string, o op.Op, want api.Errno) {
	t.Helper()
	if e := op.Check(o); e != want {
		t.Errorf("%s, %s: Check: error %d, not %d", what, shown(o), e, want)
	}
	if b, e := op.Bytes(o); b != nil || e != want {
		t.Errorf("%s, %s: Bytes: %q, error %d, not %d", what, shown(o), b, e, want)
	}
}

func TestP14_1Example(t *testing.T) {
	may(t, op.Op{Kind: op.Create, A: "a", B: "1"}, "\x00\x01\x00a\x01\x001")
}

func TestP14_1Bytes(t *testing.T) {
	for _, x := range []struct {
		o    op.Op
		want string
	}{
		{op.Op{}, "\x00\x00\x00\x00\x00"},
		{op.Op{Kind: op.Delete, A: "ann"}, "\x01\x03\x00ann"},
		{op.Op{Kind: op.SetHash, A: "ann", B: "0f"}, "\x02\x03\x00ann\x02\x000f"},
		{op.Op{Kind: op.Lookup, A: "ann"}, "\x03\x03\x00ann"},
		{op.Op{Kind: op.List}, "\x04\x00\x00"},
		{op.Op{Kind: op.List, A: "a"}, "\x04\x01\x00a"},
		{op.Op{Kind: op.SetMail, A: "ann"}, "\x05\x03\x00ann\x00\x00"},
		{op.Op{Kind: op.SetMail, A: "ann", B: "A@b.c"}, "\x05\x03\x00ann\x05\x00A@b.c"},
		{op.Op{Kind: op.Disable, A: "ann"}, "\x06\x03\x00ann"},
		{op.Op{Kind: op.Enable, A: "ann"}, "\x07\x03\x00ann"},
		{op.Op{Kind: op.Rename, A: "ann", B: "bob"}, "\x08\x03\x00ann\x03\x00bob"},
		{op.Op{Kind: op.Make, A: "dev"}, "\x09\x03\x00dev"},
		{op.Op{Kind: op.Drop, A: "dev"}, "\x0a\x03\x00dev"},
		{op.Op{Kind: op.Join, A: "dev", B: "ann"}, "\x0b\x03\x00dev\x03\x00ann"},
		{op.Op{Kind: op.Leave, A: "dev", B: "ann"}, "\x0c\x03\x00dev\x03\x00ann"},
		{op.Op{Kind: op.Leave, B: "ann"}, "\x0c\x00\x00\x03\x00ann"},
		{op.Op{Kind: op.Find, A: "a@b.c"}, "\x0d\x05\x00a@b.c"},
		{op.Op{Kind: op.Members, A: "dev"}, "\x0e\x03\x00dev"},
		{op.Op{Kind: op.Upgrade}, "\x0f"},
		{op.Op{Kind: op.Advertise, Node: 0, Release: api.Old}, "\x10\x00\x01"},
		{op.Op{Kind: op.Advertise, Node: 3, Release: api.New}, "\x10\x03\x02"},
		{op.Op{Kind: op.Advertise, Node: 6, Release: api.Both}, "\x10\x06\x03"},
	} {
		may(t, x.o, x.want)
	}
	each(func(o op.Op) { may(t, o, spelt(o)) })
}

// A kind that there isn't may not be, whatever else it has.
func TestP14_1NoKindMayBe(t *testing.T) {
	long := strings.Repeat("x", 70)
	for k := 17; k < 256; k++ {
		for _, o := range []op.Op{{}, {A: "a"}, {A: "a", B: "b"}, {Node: 1, Release: 1}, {A: long}, {A: "a", B: long, Node: 9}} {
			o.Kind = uint8(k)
			mayNot(t, "no such kind", o, api.ErrForm)
		}
	}
}

// What doesn't belong to a kind is told ahead of what is too long.
func TestP14_1NotItsOwn(t *testing.T) {
	long := strings.Repeat("x", 70)
	for _, x := range told {
		o := op.Op{Kind: x.kind}
		if x.signs == "n r" {
			o.Release = api.Both
		}
		may(t, o, spelt(o))
		for _, s := range []string{"a", "\x00", strings.Repeat("x", 61), long, strings.Repeat("x", 1<<16)} {
			if p := o; !has(x.kind, "a") {
				p.A = s
				mayNot(t, "a text A", p, api.ErrForm)
			}
			if p := o; !has(x.kind, "b") {
				p.B = s
				mayNot(t, "a text B", p, api.ErrForm)
				if has(x.kind, "a") {
					p.A = long
					mayNot(t, "a text B, and a long A", p, api.ErrForm)
				}
			}
		}
		if has(x.kind, "n") {
			continue
		}
		for n := 1; n < 256; n++ {
			for _, p := range []op.Op{{Node: uint8(n)}, {Release: api.Release(n)}, {Node: 1, Release: api.Release(n)}} {
				p.Kind = x.kind
				mayNot(t, "a node or a release", p, api.ErrForm)
				if has(x.kind, "a") {
					p.A = long
					mayNot(t, "a node or a release, and a long A", p, api.ErrForm)
				}
			}
		}
	}
}

func TestP14_1NodesAndReleases(t *testing.T) {
	for n := range 256 {
		for r := range 256 {
			o := op.Op{Kind: op.Advertise, Node: uint8(n), Release: api.Release(r)}
			if n < 7 && r >= 1 && r <= 3 {
				may(t, o, string([]byte{16, byte(n), byte(r)}))
			} else {
				mayNot(t, "an advertisement", o, api.ErrForm)
			}
		}
	}
}

// An operation has at most 64 bytes, whichever of its texts is the long one.
func TestP14_1TooLong(t *testing.T) {
	for _, x := range told {
		if !has(x.kind, "a") {
			continue
		}
		for _, n := range []int{0, 1, 58, 59, 60, 61, 62, 63, 64, 65, 66, 255, 256, 257, 300, 65534, 65535, 65536, 65537, 65540, 1 << 17, 1<<17 + 3} {
			s := strings.Repeat("x", n)
			l := []op.Op{{Kind: x.kind, A: s}}
			if has(x.kind, "b") {
				l = []op.Op{{Kind: x.kind, A: s}, {Kind: x.kind, B: s}, {Kind: x.kind, A: s[n/2:], B: s[:n/2]}, {Kind: x.kind, A: s[:n/3], B: s[n/3:]}}
			}
			for _, o := range l {
				size := 1 + 2 + len(o.A)
				if has(x.kind, "b") {
					size += 2 + len(o.B)
				}
				if size <= 64 {
					may(t, o, spelt(o))
				} else {
					mayNot(t, "a long one", o, api.ErrLong)
				}
			}
		}
	}
}

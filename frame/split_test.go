package frame_test

import (
	"bytes"
	"math"
	"testing"

	"interrex/api"
	"interrex/frame"
)

// parted holds what Split tells against what it should; beside an error all
// else must be zero.
func parted(t *testing.T, b, first, rest []byte, want api.Errno) {
	t.Helper()
	x, y, e := frame.New().Split(b)
	if !bytes.Equal(x, first) || !bytes.Equal(y, rest) || e != want {
		t.Errorf("%d bytes that begin with %v: %d and %d bytes, %d; not %d and %d bytes, %d",
			len(b), b[:min(len(b), 16)], len(x), len(y), e, len(first), len(rest), want)
	}
}

func TestP3_2Split(t *testing.T) {
	var d dice
	for _, n := range []int{0, 1, 3, 255, 256, 65525, longestBody} {
		first := plain(uint8(n), d.bytes(n))
		parted(t, first, first, nil, api.OK)
		for _, m := range []int{1, 2, 9, 10, 11, 100, 65536, 200000} {
			rest := d.bytes(m)
			parted(t, append(bytes.Clone(first), rest...), first, rest, api.OK)
		}
	}
}

func TestP3_2SplitOfARow(t *testing.T) {
	var d dice
	f := frame.New()
	var frames [][]byte
	for i := range 50 {
		frames = append(frames, plain(uint8(i), d.bytes(d.next(300))))
	}
	rest := bytes.Join(frames, nil)
	for i, want := range frames {
		first, behind, e := f.Split(rest)
		if e != api.OK || !bytes.Equal(first, want) {
			t.Fatalf("frame %d: %v, %d", i, first, e)
		}
		if kind, body, e := f.Get(first); e != api.OK || kind != uint8(i) || !bytes.Equal(body, want[6:len(want)-4]) {
			t.Fatalf("frame %d is got as %d, %v, %d", i, kind, body, e)
		}
		rest = behind
	}
	parted(t, rest, nil, nil, api.ErrShort)
}

func TestP3_2SumIsNotLookedAt(t *testing.T) {
	for _, body := range []string{"", "abc"} {
		first := unsummed(plain(3, []byte(body)))
		parted(t, first, first, nil, api.OK)
		parted(t, append(bytes.Clone(first), 9, 9), first, []byte{9, 9}, api.OK)
	}
	zeros := append([]byte{1, 0, 2, 0, 0, 0}, make([]byte, 9)...)
	parted(t, zeros, zeros[:12], zeros[12:], api.OK)
}

func TestP3_2TooShort(t *testing.T) {
	parted(t, nil, nil, nil, api.ErrShort)
	whole := plain(7, nil)
	for n := range len(whole) {
		parted(t, whole[:n], nil, nil, api.ErrShort)
		parted(t, make([]byte, n), nil, nil, api.ErrShort)              // ahead of the version
		parted(t, bytes.Repeat([]byte{255}, n), nil, nil, api.ErrShort) // likewise
		parted(t, claimed(1, 7, math.MaxUint32, nil)[:n], nil, nil, api.ErrShort)
	}
}

func TestP3_2OtherVersion(t *testing.T) {
	for version := range 256 {
		if version == frame.Format {
			continue
		}
		for _, size := range []uint32{0, 2, 3, 4, longestBody + 1, math.MaxUint32} {
			parted(t, claimed(uint8(version), 3, size, []byte("abc")), nil, nil, api.ErrVersion)
		}
	}
	parted(t, make([]byte, 1<<17), nil, nil, api.ErrVersion)
}

// That a frame would be too long is told ahead of bytes that are wanting.
func TestP3_2TooLong(t *testing.T) {
	for _, size := range append([]uint32{longestBody + 1, longestBody + 2}, roundLengths...) {
		parted(t, claimed(1, 3, size, nil), nil, nil, api.ErrLong)
		parted(t, claimed(1, 3, size, []byte("abc")), nil, nil, api.ErrLong)
		parted(t, claimed(1, 3, size, make([]byte, longestBody+1)), nil, nil, api.ErrLong)
		parted(t, claimed(1, 3, size, make([]byte, 200000)), nil, nil, api.ErrLong)
	}
}

func TestP3_2FewerThanItSays(t *testing.T) {
	for _, size := range []uint32{4, 5, 255, 256, 65525, longestBody} {
		parted(t, claimed(1, 3, size, []byte("abc")), nil, nil, api.ErrShort)
		parted(t, claimed(1, 3, size, nil), nil, nil, api.ErrShort)
		parted(t, claimed(1, 3, size, make([]byte, size-1)), nil, nil, api.ErrShort)
		all := claimed(1, 3, size, make([]byte, size))
		parted(t, all, all, nil, api.OK)
	}
}

package octet_test

import (
	"bytes"
	"math"
	"slices"
	"strings"
	"testing"

	"interrex/api"
	"interrex/octet"
)

// stands tells whether a Reader has that error, and has so many bytes left.
func stands(t *testing.T, what string, r *octet.Reader, e api.Errno, left int) {
	t.Helper()
	if r.Err() != e || r.Left() != left {
		t.Errorf("%s: error %d, left %d; not %d, %d", what, r.Err(), r.Left(), e, left)
	}
}

// readsNothing tells whether each thing is zero, and the error stays.
func readsNothing(t *testing.T, what string, r *octet.Reader, e api.Errno) {
	t.Helper()
	for range 2 {
		if r.Byte() != 0 || r.Two() != 0 || r.Four() != 0 || r.Eight() != 0 || r.Truth() {
			t.Errorf("%s: a number or a truth isn't zero", what)
		}
		for _, n := range []int{math.MinInt, -1, 0, 1, math.MaxInt} {
			if r.Text(n) != "" || len(r.Row(n, n)) != 0 || len(r.Raw(n)) != 0 {
				t.Errorf("%s: a text, a row or bytes aren't zero (%d)", what, n)
			}
		}
		stands(t, what, r, e, 0)
		if r.End() != e {
			t.Errorf("%s: End %d", what, r.End())
		}
	}
}

// numbers reads one of each size.
var numbers = []struct {
	size int
	read func(r *octet.Reader) uint64
}{
	{1, func(r *octet.Reader) uint64 { return uint64(r.Byte()) }},
	{2, func(r *octet.Reader) uint64 { return uint64(r.Two()) }},
	{4, func(r *octet.Reader) uint64 { return uint64(r.Four()) }},
	{8, func(r *octet.Reader) uint64 { return r.Eight() }},
}

func TestP1_2Numbers(t *testing.T) {
	b := []byte{0x88, 0x97, 0xa6, 0xb5, 0xc4, 0xd3, 0xe2, 0xf1, 9}
	want := map[int]uint64{1: 0x88, 2: 0x9788, 4: 0xb5a69788, 8: 0xf1e2d3c4b5a69788}
	for _, n := range numbers {
		r := octet.Of(b)
		if x := n.read(r); x != want[n.size] {
			t.Errorf("number of %d: %x", n.size, x)
		}
		stands(t, "behind a number", r, api.OK, len(b)-n.size)
		if x := r.Byte(); x != b[n.size] {
			t.Errorf("behind a number of %d: %d", n.size, x)
		}
		r = octet.Of(bytes.Repeat([]byte{255}, n.size))
		if x := n.read(r); x != math.MaxUint64>>(64-8*n.size) {
			t.Errorf("greatest of %d: %x", n.size, x)
		}
		stands(t, "at the end", r, api.OK, 0)
	}
}

func TestP1_2NumbersShort(t *testing.T) {
	for _, n := range numbers {
		for have := range n.size {
			r := octet.Of(bytes.Repeat([]byte{255}, have))
			if x := n.read(r); x != 0 {
				t.Errorf("%d of %d bytes: %x", have, n.size, x)
			}
			stands(t, "short number", r, api.ErrShort, 0)
			readsNothing(t, "short number", r, api.ErrShort)
		}
	}
}

func TestP1_2Truth(t *testing.T) {
	for x := range 256 {
		r := octet.Of([]byte{byte(x), 1, 1})
		is := r.Truth()
		if is != (x == 1) {
			t.Errorf("truth %d: %v", x, is)
		}
		if x <= 1 {
			stands(t, "truth", r, api.OK, 2)
			continue
		}
		stands(t, "no truth", r, api.ErrForm, 0)
		readsNothing(t, "no truth", r, api.ErrForm)
	}
	r := octet.Of(nil)
	if r.Truth() {
		t.Error("a truth of no bytes")
	}
	stands(t, "truth of no bytes", r, api.ErrShort, 0)
}

func TestP1_2Text(t *testing.T) {
	cases := []struct {
		name string
		b    []byte
		most int
		want string
		e    api.Errno
		left int
	}{
		{"ordinary", []byte{2, 0, 'a', 'b', 9}, 10, "ab", api.OK, 1},
		{"just most", []byte{2, 0, 'a', 'b', 9}, 2, "ab", api.OK, 1},
		{"one above most", []byte{2, 0, 'a', 'b', 9}, 1, "", api.ErrLong, 0},
		{"greatest most", []byte{2, 0, 'a', 'b'}, math.MaxInt, "ab", api.OK, 0},
		{"empty", []byte{0, 0, 9}, 5, "", api.OK, 1},
		{"empty, most 0", []byte{0, 0, 9}, 0, "", api.OK, 1},
		{"empty, most -1", []byte{0, 0, 9}, -1, "", api.OK, 1},
		{"empty, least most", []byte{0, 0, 9}, math.MinInt, "", api.OK, 1},
		{"one, most 0", []byte{1, 0, 'a'}, 0, "", api.ErrLong, 0},
		{"one, most -1", []byte{1, 0, 'a'}, -1, "", api.ErrLong, 0},
		{"one, least most", []byte{1, 0, 'a'}, math.MinInt, "", api.ErrLong, 0},
		{"high byte of the length", append([]byte{0, 1}, make([]byte, 257)...), 256, strings.Repeat("\x00", 256), api.OK, 1},
		{"any bytes", []byte{3, 0, 0xff, 0, 0xc3}, 3, "\xff\x00\xc3", api.OK, 0},
		{"no length", nil, 5, "", api.ErrShort, 0},
		{"half a length", []byte{9}, 0, "", api.ErrShort, 0},
		{"bytes wanting", []byte{3, 0, 'a', 'b'}, 3, "", api.ErrShort, 0},
		{"all bytes wanting", []byte{1, 0}, 1, "", api.ErrShort, 0},
		{"long ahead of short", []byte{3, 0, 'a', 'b'}, 2, "", api.ErrLong, 0},
		{"long ahead of short, none there", []byte{255, 255}, 65534, "", api.ErrLong, 0},
		{"not long, but short", []byte{255, 255}, 65535, "", api.ErrShort, 0},
	}
	for _, c := range cases {
		r := octet.Of(c.b)
		if s := r.Text(c.most); s != c.want {
			t.Errorf("%s: %q", c.name, s)
		}
		stands(t, c.name, r, c.e, c.left)
		if c.e != api.OK {
			readsNothing(t, c.name, r, c.e)
		}
	}
}

func TestP1_2Row(t *testing.T) {
	row := []byte{2, 0, 1, 0, 'x', 2, 0, 'y', 'z', 9}
	two := []string{"x", "yz"}
	cases := []struct {
		name       string
		b          []byte
		most, long int
		want       []string
		e          api.Errno
		left       int
	}{
		{"ordinary", row, 5, 5, two, api.OK, 1},
		{"just most and long", row, 2, 2, two, api.OK, 1},
		{"greatest most and long", row, math.MaxInt, math.MaxInt, two, api.OK, 1},
		{"one above most", row, 1, 2, nil, api.ErrLong, 0},
		{"one above long", row, 2, 1, nil, api.ErrLong, 0},
		{"most 0", row, 0, 2, nil, api.ErrLong, 0},
		{"most below 0", row, -1, 2, nil, api.ErrLong, 0},
		{"long 0", row, 2, 0, nil, api.ErrLong, 0},
		{"long below 0", row, 2, -1, nil, api.ErrLong, 0},
		{"least most and long", row, math.MinInt, math.MinInt, nil, api.ErrLong, 0},
		{"one text of one byte", []byte{1, 0, 1, 0, 'x', 9}, 1, 1, []string{"x"}, api.OK, 1},
		{"one text, most below 0", []byte{1, 0, 1, 0, 'x', 9}, -1, 1, nil, api.ErrLong, 0},
		{"one byte, long 0", []byte{1, 0, 1, 0, 'x', 9}, 1, 0, nil, api.ErrLong, 0},
		{"one byte, long below 0", []byte{1, 0, 1, 0, 'x', 9}, 1, -1, nil, api.ErrLong, 0},
		{"empty", []byte{0, 0, 9}, 3, 3, nil, api.OK, 1},
		{"empty, most and long below 0", []byte{0, 0, 9}, -1, -1, nil, api.OK, 1},
		{"empty, least most and long", []byte{0, 0, 9}, math.MinInt, math.MinInt, nil, api.OK, 1},
		{"empty texts, long below 0", []byte{2, 0, 0, 0, 0, 0, 9}, 2, -1, []string{"", ""}, api.OK, 1},
		{"no number", nil, 3, 3, nil, api.ErrShort, 0},
		{"half a number", []byte{9}, 0, 0, nil, api.ErrShort, 0},
		{"texts wanting", []byte{2, 0, 1, 0, 'x'}, 2, 2, nil, api.ErrShort, 0},
		{"half a length wanting", []byte{2, 0, 1, 0, 'x', 1}, 2, 2, nil, api.ErrShort, 0},
		{"bytes of a text wanting", []byte{1, 0, 2, 0, 'x'}, 2, 2, nil, api.ErrShort, 0},
		{"too many ahead of wanting", []byte{3, 0}, 2, 2, nil, api.ErrLong, 0},
		{"too many ahead of a long text", []byte{3, 0, 9, 0}, 2, 2, nil, api.ErrLong, 0},
		{"not too many, but wanting", []byte{255, 255}, 65535, 2, nil, api.ErrShort, 0},
		{"long text ahead of its bytes wanting", []byte{1, 0, 3, 0, 'x'}, 1, 2, nil, api.ErrLong, 0},
		{"long text ahead of a later one wanting", []byte{2, 0, 3, 0, 'x', 'y', 'z'}, 2, 2, nil, api.ErrLong, 0},
	}
	for _, c := range cases {
		r := octet.Of(c.b)
		if l := r.Row(c.most, c.long); !slices.Equal(l, c.want) {
			t.Errorf("%s: %q", c.name, l)
		}
		stands(t, c.name, r, c.e, c.left)
		if c.e != api.OK {
			readsNothing(t, c.name, r, c.e)
		}
	}
}

func TestP1_2Raw(t *testing.T) {
	b := []byte{5, 6, 7}
	cases := []struct {
		n    int
		want []byte
		e    api.Errno
		left int
	}{
		{math.MinInt, nil, api.OK, 3},
		{-1, nil, api.OK, 3},
		{0, nil, api.OK, 3},
		{1, b[:1], api.OK, 2},
		{3, b, api.OK, 0},
		{4, nil, api.ErrShort, 0},
		{math.MaxInt, nil, api.ErrShort, 0},
	}
	for _, c := range cases {
		r := octet.Of(b)
		if x := r.Raw(c.n); !bytes.Equal(x, c.want) {
			t.Errorf("raw %d: %v", c.n, x)
		}
		stands(t, "raw", r, c.e, c.left)
		if c.e != api.OK {
			readsNothing(t, "raw", r, c.e)
		}
	}
	r := octet.Of(nil)
	if x := r.Raw(0); len(x) != 0 {
		t.Error(x)
	}
	stands(t, "no bytes of none", r, api.OK, 0)
}

func TestP1_2FirstErrorCounts(t *testing.T) {
	r := octet.Of([]byte{7, 2, 0})
	if x := r.Byte(); x != 7 {
		t.Error(x)
	}
	r.Truth()
	r.Eight()
	r.Fail(api.ErrSum)
	stands(t, "ErrForm first", r, api.ErrForm, 0)
	r = octet.Of([]byte{1})
	r.Two()
	r.Fail(api.ErrForm)
	stands(t, "ErrShort first", r, api.ErrShort, 0)
	r = octet.Of([]byte{2, 0, 'a', 'b'})
	r.Text(1)
	r.Byte()
	stands(t, "ErrLong first", r, api.ErrLong, 0)
}

func TestP1_3Fail(t *testing.T) {
	for _, e := range []api.Errno{api.ErrArg, api.ErrShort, api.ErrBusy, 19, -1, math.MaxInt, math.MinInt} {
		r := octet.Of([]byte{1, 0, 'a', 1})
		r.Byte()
		r.Fail(e)
		stands(t, "failed", r, e, 0)
		r.Fail(api.ErrFull)
		r.Fail(api.OK)
		stands(t, "failed again", r, e, 0)
		readsNothing(t, "failed", r, e)
	}
	r := octet.Of([]byte{1, 2})
	r.Fail(api.OK)
	stands(t, "failed by OK", r, api.OK, 2)
	if x := r.Two(); x != 0x201 {
		t.Error(x)
	}
	r.Fail(api.OK)
	stands(t, "failed by OK at the end", r, api.OK, 0)
	r.Fail(api.ErrState)
	readsNothing(t, "failed at the end", r, api.ErrState)
}

func TestP1_3Left(t *testing.T) {
	r := octet.Of(make([]byte, 1+2+4+8+1+2+2+3))
	left := r.Left()
	deeds := []struct {
		size int
		deed func()
	}{
		{1, func() { r.Byte() }},
		{2, func() { r.Two() }},
		{4, func() { r.Four() }},
		{8, func() { r.Eight() }},
		{1, func() { r.Truth() }},
		{2, func() { r.Text(1) }},
		{2, func() { r.Row(1, 1) }},
		{3, func() { r.Raw(3) }},
		{0, func() { r.Raw(0) }},
	}
	if left != 23 {
		t.Fatal(left)
	}
	for i, d := range deeds {
		d.deed()
		left -= d.size
		stands(t, "deed "+string(rune('0'+i)), r, api.OK, left)
	}
	stands(t, "of no bytes", octet.Of(nil), api.OK, 0)
	stands(t, "of empty bytes", octet.Of([]byte{}), api.OK, 0)
}

func TestP1_3End(t *testing.T) {
	r := octet.Of([]byte{3, 4})
	for range 2 {
		if e := r.End(); e != api.ErrLong {
			t.Error("bytes are left", e)
		}
		stands(t, "asked for the end", r, api.OK, 2)
	}
	if x := r.Byte(); x != 3 || r.End() != api.ErrLong {
		t.Error("one byte is left", x, r.End())
	}
	if x := r.Byte(); x != 4 || r.End() != api.OK {
		t.Error("none is left", x, r.End())
	}
	r.Byte()
	if e := r.End(); e != api.ErrShort {
		t.Error("beyond the end", e)
	}
	if e := octet.Of(nil).End(); e != api.OK {
		t.Error("of no bytes", e)
	}
	r = octet.Of([]byte{1, 2, 3})
	r.Fail(api.ErrSum)
	if e := r.End(); e != api.ErrSum {
		t.Error("the error, not what was left", e)
	}
}

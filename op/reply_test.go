package op_test

import (
	"fmt"
	"math"
	"slices"
	"strings"
	"testing"

	"interrex/api"
	"interrex/op"
)

// number is a number of 2.
func number(n int) string { return string([]byte{byte(n), byte(n >> 8)}) }

// reply is the bytes of one with no error.
func reply(l ...string) string {
	b := []byte("\x00" + number(len(l)))
	for _, x := range l {
		b = append(b, text(x)...)
	}
	return string(b)
}

// lists is rows of texts of many kinds that a reply may have.
func lists() [][]string {
	many := make([]string, api.MaxReply)
	for i := range many {
		many[i] = fmt.Sprint("user", i)
	}
	return [][]string{
		nil, {""}, {"a"}, {"x", "y"}, {"y", "x"}, {"a", "a"}, {"", "", ""}, {"\x00"}, {"\xff", "ä\n"}, {"xy"},
		{"ann", "1", "a@b.c", "0", "dev", "ops"}, odd, many, many[:399], make([]string, 400),
		{strings.Repeat("z", 399)}, {strings.Repeat("z", 400)}, {"a", strings.Repeat("z", 400), "b", strings.Repeat("\xff", 256)},
	}
}

// noReply tells whether of these bytes there is no reply, by that error; they
// stay as they are.
func noReply(t *testing.T, what, b string, want api.Errno) {
	t.Helper()
	given := []byte(b)
	if r, e := op.Get(given); r.E != 0 || r.L != nil || e != want {
		t.Errorf("%s, %.90q: error %d, %.90q, error %d, not %d", what, b, r.E, r.L, e, want)
	}
	if string(given) != b {
		t.Errorf("%s: the bytes were %.90q, and are %.90q", what, b, given)
	}
}

// isReply tells whether these bytes are those of a reply.
func isReply(t *testing.T, b string, e api.Errno, l []string) {
	t.Helper()
	if r, err := op.Get([]byte(b)); err != api.OK || r.E != e || !slices.Equal(r.L, l) {
		t.Errorf("%.90q: error %d, %.90q, error %d, not %d, %.90q", b, r.E, r.L, err, e, l)
	}
}

func TestP14_2Put(t *testing.T) {
	for _, x := range []struct {
		r    op.Reply
		want string
	}{
		{op.Reply{}, "\x00\x00\x00"},
		{op.Reply{L: []string{}}, "\x00\x00\x00"},
		{op.Reply{L: []string{""}}, "\x00\x01\x00\x00\x00"},
		{op.Reply{L: []string{"x", "y"}}, "\x00\x02\x00\x01\x00x\x01\x00y"},
		{op.Reply{E: api.ErrNone}, "\x08\x00\x00"},
		{op.Reply{E: api.ErrBusy, L: []string{}}, "\x12\x00\x00"},
	} {
		if b := op.Put(x.r); string(b) != x.want {
			t.Errorf("error %d, %q: %q, not %q", x.r.E, x.r.L, b, x.want)
		}
	}
	for _, l := range lists() {
		if b := op.Put(op.Reply{L: l}); string(b) != reply(l...) {
			t.Errorf("%.90q: %.90q", l, b)
		}
	}
}

// With an error there are no texts, whichever they were.
func TestP14_2PutError(t *testing.T) {
	for e := api.ErrArg; e <= api.ErrBusy; e++ {
		for _, l := range lists() {
			if b := op.Put(op.Reply{E: e, L: l}); string(b) != string([]byte{byte(e), 0, 0}) {
				t.Errorf("error %d: %.90q", e, b)
			}
		}
	}
	for _, e := range []api.Errno{19, 255, 256, 257, -1, math.MaxInt, math.MinInt} {
		if b := op.Put(op.Reply{E: e, L: []string{"x"}}); len(b) != 3 || b[1] != 0 || b[2] != 0 {
			t.Errorf("an error that there isn't, %d: %q", e, b)
		}
	}
}

// What no reply may have is written as a row is.
func TestP14_2PutMuch(t *testing.T) {
	for _, n := range []int{401, 500, 65535, 65536, 70000} {
		b := op.Put(op.Reply{L: make([]string, n)})
		if w := min(n, 65535); string(b) != "\x00"+number(w)+strings.Repeat("\x00\x00", w) {
			t.Errorf("%d texts: %d bytes", n, len(b))
		}
		b = op.Put(op.Reply{L: []string{strings.Repeat("x", n)}})
		if w := min(n, 65535); string(b) != "\x00\x01\x00"+number(w)+strings.Repeat("x", w) {
			t.Errorf("a text of %d: %d bytes", n, len(b))
		}
	}
}

func TestP14_2Get(t *testing.T) {
	for _, l := range lists() {
		isReply(t, reply(l...), api.OK, l)
	}
	for e := api.OK; e <= api.ErrBusy; e++ {
		isReply(t, string([]byte{byte(e), 0, 0}), e, nil)
	}
}

// Each beginning wants bytes.
func TestP14_2GetShort(t *testing.T) {
	noReply(t, "no bytes", "", api.ErrShort)
	for _, l := range lists() {
		b := reply(l...)
		step := max(1, len(b)/500)
		for n := 0; n < len(b); n += step {
			noReply(t, "a beginning", b[:n], api.ErrShort)
		}
		noReply(t, "all but a byte", b[:len(b)-1], api.ErrShort)
	}
	for e := range 19 {
		noReply(t, "an error alone", string([]byte{byte(e)}), api.ErrShort)
		noReply(t, "half of how many there are", string([]byte{byte(e), 0}), api.ErrShort)
		noReply(t, "texts beside an error that are wanting", string([]byte{byte(e), 1, 0}), api.ErrShort)
		noReply(t, "one of two", string([]byte{byte(e), 2, 0, 0, 0}), api.ErrShort)
		noReply(t, "half of a length", string([]byte{byte(e), 1, 0, 0}), api.ErrShort)
		noReply(t, "400 that are wanting", string([]byte{byte(e)})+number(400), api.ErrShort)
		noReply(t, "a text of 400 that is wanting", string([]byte{byte(e), 1, 0})+number(400), api.ErrShort)
	}
}

// An error that there isn't is told ahead of all that stands behind it.
func TestP14_2GetNoError(t *testing.T) {
	for e := 19; e < 256; e++ {
		for _, behind := range []string{"", "\x00", "\x00\x00", "\x00\x00\x00", number(401), number(65535), number(1), number(1) + text("x"), number(1) + number(401)} {
			noReply(t, "no such error", string([]byte{byte(e)})+behind, api.ErrForm)
		}
	}
}

// tooMany is numbers of 2 above 400: the next ones, those whose lower or upper
// byte alone is small, and the last one.
var tooMany = []int{401, 402, 511, 512, 513, 656, 1000, 1<<15 + 1, 400 << 7, 1<<16 - 1}

// Too many texts are told ahead of what they are, and of the error beside them.
func TestP14_2GetTooManyTexts(t *testing.T) {
	for _, n := range tooMany {
		for e := range 19 {
			for _, behind := range []string{"", "\x01", text("a"), number(401), number(400)} {
				noReply(t, "too many texts", string([]byte{byte(e)})+number(n)+behind, api.ErrLong)
			}
		}
		noReply(t, "all of them are there", reply(make([]string, n)...), api.ErrLong)
	}
}

// A text that is too long is told ahead of its bytes, and of the error beside it.
func TestP14_2GetTooLongText(t *testing.T) {
	for _, n := range tooMany {
		for e := range 19 {
			for i := range 4 {
				b := string([]byte{byte(e)}) + number(i+1) + strings.Repeat(text("abc"), i) + number(n)
				noReply(t, "a long text, nothing behind it", b, api.ErrLong)
				noReply(t, "a long text, some of it", b+"abc", api.ErrLong)
			}
		}
		noReply(t, "all of it is there", reply("a", strings.Repeat("x", n)), api.ErrLong)
		noReply(t, "all of it is there, and one more", reply("a", strings.Repeat("x", n), "b"), api.ErrLong)
	}
	noReply(t, "a long text ahead of a short one", "\x00"+number(2)+number(401)+number(400), api.ErrLong)
	noReply(t, "a short text ahead of a long one", "\x00"+number(2)+number(400)+number(401), api.ErrShort)
}

// Texts beside an error are told ahead of bytes that are left.
func TestP14_2GetTextsBesideError(t *testing.T) {
	for e := 1; e < 19; e++ {
		for _, l := range lists()[1:] {
			b := string([]byte{byte(e)}) + reply(l...)[1:]
			noReply(t, "texts beside an error", b, api.ErrForm)
			noReply(t, "texts beside an error, and a byte behind them", b+"\x00", api.ErrForm)
		}
	}
}

func TestP14_2GetBytesLeft(t *testing.T) {
	for _, behind := range []string{"\x00", "\x01", "\xff", "\x00\x00", "\x00\x00\x00"} {
		for _, l := range lists() {
			noReply(t, "bytes are left", reply(l...)+behind, api.ErrLong)
		}
		for e := range 19 {
			noReply(t, "bytes behind an error", string([]byte{byte(e), 0, 0})+behind, api.ErrLong)
		}
	}
}

// retoldReply tells the reply of bytes anew.
func retoldReply(b string) (op.Reply, api.Errno) {
	if b == "" {
		return op.Reply{}, api.ErrShort
	}
	if b[0] > 18 {
		return op.Reply{}, api.ErrForm
	}
	r, b := op.Reply{E: api.Errno(b[0])}, b[1:]
	if len(b) < 2 {
		return op.Reply{}, api.ErrShort
	}
	n := int(b[0]) + 256*int(b[1])
	if n > 400 {
		return op.Reply{}, api.ErrLong
	}
	for b = b[2:]; len(r.L) < n; {
		if len(b) > 1 && int(b[0])+256*int(b[1]) > 400 {
			return op.Reply{}, api.ErrLong
		}
		s, left, is := cutText(b)
		if !is {
			return op.Reply{}, api.ErrShort
		}
		r.L, b = append(r.L, s), left
	}
	if r.E != 0 && n > 0 {
		return op.Reply{}, api.ErrForm
	}
	if b != "" {
		return op.Reply{}, api.ErrLong
	}
	return r, api.OK
}

// asReplied holds what is read against what is told anew.
func asReplied(t *testing.T, b string) {
	t.Helper()
	if r, e := retoldReply(b); e == api.OK {
		isReply(t, b, r.E, r.L)
	} else {
		noReply(t, "told anew", b, e)
	}
}

// Bytes that say few things, random ones, and those of replies in which some
// are others.
func TestP14_2GetAnyBytes(t *testing.T) {
	for a := range 256 {
		for b := range 256 {
			for _, c := range []byte{0, 1, 2, 255} {
				asReplied(t, string([]byte{byte(a), byte(b), c}))
				asReplied(t, string([]byte{0, 1, 0, byte(a), byte(b), c}))
			}
		}
	}
	small := []string{"\x00", "\x01", "\x02", "\x12", "\x13", "\x91", "\xff"}
	var grow func(b string)
	grow = func(b string) {
		asReplied(t, b)
		if len(b) == 6 {
			return
		}
		for _, x := range small {
			grow(b + x)
		}
	}
	grow("")
	d := dice(2)
	for range 20000 {
		b := make([]byte, d.below(40))
		for i := range b {
			b[i] = byte(d.below(256) >> d.below(9))
		}
		asReplied(t, string(b))
	}
	for _, l := range lists() {
		b := reply(l...)
		for range 200 {
			s := []byte(b)
			s[d.below(min(len(s), 40))] = byte(d.below(256) >> d.below(9))
			asReplied(t, string(s))
		}
	}
}

func TestP14_2Same(t *testing.T) {
	all := lists()
	for i, a := range all {
		for j, b := range all {
			if op.Same(op.Reply{L: a}, op.Reply{L: b}) != (i == j) {
				t.Errorf("%.90q, %.90q", a, b)
			}
			for e := api.ErrArg; e <= api.ErrBusy; e++ {
				if !op.Same(op.Reply{E: e, L: a}, op.Reply{E: e, L: b}) {
					t.Errorf("error %d: %.90q, %.90q", e, a, b)
				}
				if op.Same(op.Reply{L: a}, op.Reply{E: e, L: b}) || op.Same(op.Reply{E: e, L: a}, op.Reply{L: b}) {
					t.Errorf("error %d and none: %.90q, %.90q", e, a, b)
				}
			}
		}
	}
	if !op.Same(op.Reply{}, op.Reply{L: []string{}}) || !op.Same(op.Reply{L: []string{}}, op.Reply{}) {
		t.Error("nil and an empty row")
	}
}

func TestP14_2SameErrors(t *testing.T) {
	errs := []api.Errno{19, 255, 256, 264, -1, -248, math.MaxInt, math.MinInt}
	for e := range api.ErrBusy + 1 {
		errs = append(errs, e)
	}
	for _, a := range errs {
		for _, b := range errs {
			if op.Same(op.Reply{E: a}, op.Reply{E: b}) != (a == b) {
				t.Errorf("errors %d and %d", a, b)
			}
			if op.Same(op.Reply{E: a, L: []string{"x"}}, op.Reply{E: b, L: []string{"x"}}) != (a == b) {
				t.Errorf("errors %d and %d, with a text", a, b)
			}
		}
	}
}

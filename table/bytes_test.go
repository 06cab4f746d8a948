package table_test

import (
	"strings"
	"testing"

	"interrex/api"
	"interrex/octet"
	"interrex/op"
	"interrex/table"
)

// number is a number of so many bytes.
func number(x uint64, size int) string {
	b := make([]byte, size)
	for i := range b {
		b[i] = byte(x >> (8 * i))
	}
	return string(b)
}

// text is a text's bytes.
func text(s string) string { return number(uint64(len(s)), 2) + s }

// zeros are so many of them.
func zeros(n int) string { return strings.Repeat("\x00", n) }

// spelt is a line's bytes, told by the document alone.
func spelt(l line) string {
	if l.number == 0 {
		return zeros(8)
	}
	reply := number(uint64(l.e), 1) + number(uint64(len(l.texts)), 2)
	for _, s := range l.texts {
		reply += text(s)
	}
	return number(l.number, 8) + text(reply)
}

// speltAll is a table's bytes.
func speltAll(m model) string {
	var all string
	for _, l := range m {
		all += spelt(l)
	}
	return all
}

// put is a table that has what a model has.
func put(t *testing.T, m model) *table.Table {
	t.Helper()
	x := table.New()
	for client, l := range m {
		if l.number > 0 {
			isPut(t, x, uint8(client), l.number, op.Reply{E: l.e, L: l.texts})
		}
	}
	return x
}

// isNone reads bytes that are no table's.
func isNone(t *testing.T, what, b string, want api.Errno) {
	t.Helper()
	r := octet.Of([]byte(b))
	x := table.Read(r)
	if x != nil || r.Err() != want || r.Left() != 0 {
		t.Errorf("%s: a table: %t, error %d, not %d, left %d", what, x != nil, r.Err(), want, r.Left())
	}
}

// isRead reads bytes that are a table's, alone and ahead of others.
func isRead(t *testing.T, what, b string, m model) {
	t.Helper()
	for _, behind := range []string{"", "\x09", zeros(8), b} {
		r := octet.Of([]byte(b + behind))
		x := table.Read(r)
		isTold(t, what, x, m)
		if r.Err() != api.OK || string(r.Raw(len(behind))) != behind || r.End() != api.OK {
			t.Errorf("%s: error %d, left %d", what, r.Err(), r.Left())
		}
	}
}

// filled is a table in which each client has a reply of its own kind.
func filled() model {
	return model{
		{1, api.OK, nil}, {2, api.ErrNone, nil}, {most, api.OK, []string{"a"}}, {255, api.OK, []string{"", "ann", "\xff"}},
		{256, api.ErrBusy, nil}, {most - 1, api.OK, []string{strings.Repeat("x", 400)}}, {1 << 39, api.OK, make([]string, 400)}, {7, api.ErrArg, nil},
	}
}

func TestP15_2WriteByHand(t *testing.T) {
	x := table.New()
	if b := written(x); b != zeros(64) {
		t.Errorf("a new table: %q", b)
	}
	isPut(t, x, 2, 5, op.Reply{L: []string{"a"}})
	want := zeros(16) + "\x05\x00\x00\x00\x00\x00\x00\x00" + "\x06\x00" + "\x00\x01\x00\x01\x00a" + zeros(40)
	if b := written(x); b != want {
		t.Errorf("%q, not %q", b, want)
	}
	isPut(t, x, 0, most, op.Reply{E: api.ErrBusy, L: []string{"a"}})
	want = "\x00\x00\x00\x00\x00\x01\x00\x00" + "\x03\x00" + "\x12\x00\x00" + want[8:]
	if b := written(x); b != want {
		t.Errorf("%q, not %q", b, want)
	}
}

func TestP15_2Write(t *testing.T) {
	for client := range 8 {
		for _, n := range []uint64{1, 255, 256, 1 << 32, most} {
			for _, r := range replies() {
				var m model
				m[client] = line{n, r.E, r.L}
				if b := written(put(t, m)); b != speltAll(m) {
					t.Fatalf("client %d, number %d: %.90q, not %.90q", client, n, b, speltAll(m))
				}
			}
		}
	}
	if b := written(put(t, filled())); b != speltAll(filled()) {
		t.Errorf("%.90q, not %.90q", b, speltAll(filled()))
	}
}

// What was written before stays, and what is written then stands behind.
func TestP15_2WriteBehind(t *testing.T) {
	var w octet.Writer
	w.Text("ahead")
	put(t, filled()).Write(&w)
	table.New().Write(&w)
	w.Byte(9)
	want := text("ahead") + speltAll(filled()) + zeros(64) + "\x09"
	if b := string(w.Bytes()); b != want {
		t.Errorf("%.90q, not %.90q", b, want)
	}
}

func TestP15_2Read(t *testing.T) {
	isRead(t, "a new table", zeros(64), model{})
	isRead(t, "a filled one", speltAll(filled()), filled())
	for client := range 8 {
		for _, n := range []uint64{1, 255, 256, 1 << 32, most - 1, most} {
			for _, r := range replies() {
				var m model
				m[client] = line{n, r.E, r.L}
				isRead(t, "one row", speltAll(m), m)
			}
		}
	}
}

// Behind what was read before, not from the beginning.
func TestP15_2ReadsTheNextOne(t *testing.T) {
	r := octet.Of([]byte(text("ahead") + speltAll(filled()) + zeros(64)))
	if r.Text(5) != "ahead" {
		t.Fatal("the text ahead")
	}
	isTold(t, "the first one", table.Read(r), filled())
	isTold(t, "the second one", table.Read(r), model{})
	if e := r.End(); e != api.OK {
		t.Error(e)
	}
	if table.Read(r) != nil || r.Err() != api.ErrShort {
		t.Error("a third one", r.Err())
	}
}

// Each beginning of a table's bytes wants some.
func TestP15_2ReadShort(t *testing.T) {
	for _, m := range []model{{}, {0: {1, api.OK, nil}}, {7: {1, api.OK, nil}}, {3: {most, api.OK, []string{"ann", "bob"}}}, {0: {2, api.ErrFull, nil}, 7: {9, api.OK, []string{""}}}} {
		b := speltAll(m)
		for n := range len(b) {
			isNone(t, "cut short", b[:n], api.ErrShort)
		}
	}
	isNone(t, "nil", "", api.ErrShort)
}

// A reply's text may say as much as 2 bytes can: bytes are wanting then.
func TestP15_2ReadLongText(t *testing.T) {
	for _, says := range []uint64{1, 401, 65534, 65535} {
		isNone(t, "wanting", number(1, 8)+number(says, 2), api.ErrShort)
		isNone(t, "wanting", number(1, 8)+number(says, 2)+zeros(int(says)-1), api.ErrShort)
	}
}

func TestP15_2ReadNumbers(t *testing.T) {
	for client := range 8 {
		for _, n := range []uint64{most + 1, most + 2, 2 * most, 1 << 48, 1 << 63, 1<<64 - 1} {
			ahead, behind := zeros(8*client), zeros(8*(7-client))
			isNone(t, "a number above", ahead+number(n, 8)+text("\x00\x00\x00")+behind, api.ErrForm)
			isNone(t, "and a reply that is none", ahead+number(n, 8)+text("\x13\x00\x00")+behind, api.ErrForm)
			isNone(t, "and an empty reply", ahead+number(n, 8)+text("")+behind, api.ErrForm)
			isNone(t, "and nothing behind it", ahead+number(n, 8), api.ErrForm)
			isNone(t, "and a reply cut short", ahead+number(n, 8)+"\x09\x00a", api.ErrForm)
			isNone(t, "and another one behind", ahead+number(n, 8)+text("\x00\x00\x00")+number(1, 8)+text("")+behind, api.ErrForm)
		}
	}
}

// wrong is bytes that are no reply's, and what Get says of them.
var wrong = []struct {
	b string
	e api.Errno
}{
	{"", api.ErrShort}, {"\x00", api.ErrShort}, {"\x12", api.ErrShort}, {"\x00\x00", api.ErrShort}, {"\x00\x01\x00", api.ErrShort}, {"\x00\x01\x00\x02\x00a", api.ErrShort},
	{"\x13", api.ErrForm}, {"\x13\x00\x00", api.ErrForm}, {"\xff\x00\x00", api.ErrForm}, {"\x01\x01\x00\x00\x00", api.ErrForm}, {"\x12\x01\x00\x01\x00a", api.ErrForm},
	{"\x00\x91\x01", api.ErrLong}, {"\x00\xff\xff", api.ErrLong}, {"\x00\x01\x00\x91\x01", api.ErrLong}, {"\x00\x00\x00\x00", api.ErrLong}, {"\x00\x01\x00\x01\x00aa", api.ErrLong}, {"\x01\x00\x00\x00", api.ErrLong},
}

func TestP15_2ReadReplies(t *testing.T) {
	for client := range 8 {
		ahead, behind := zeros(8*client), zeros(8*(7-client))
		for _, c := range wrong {
			if _, e := op.Get([]byte(c.b)); e != c.e {
				t.Fatalf("%q: Get tells %d", c.b, e)
			}
			row := number(3, 8) + text(c.b)
			isNone(t, "a reply", ahead+row+behind, c.e)
			isNone(t, "a reply, and nothing behind it", ahead+row, c.e)
			isNone(t, "a reply, and a number above behind it", ahead+row+number(most+1, 8)+behind, c.e)
			for _, d := range wrong {
				isNone(t, "two replies", ahead+row+number(3, 8)+text(d.b)+behind, c.e)
			}
		}
	}
}

// The number 0 has no reply behind it: what stands there is the next number (3,
// with an empty reply).
func TestP15_2ReadZero(t *testing.T) {
	isNone(t, "a reply of number 0", zeros(8)+text("\x00\x00\x00")+zeros(56), api.ErrShort)
	r := octet.Of([]byte(zeros(64) + text("\x00\x00\x00")))
	isTold(t, "zeros", table.Read(r), model{})
	if r.Left() != 5 {
		t.Error("left", r.Left())
	}
}

// An error that the reader has stays, and there is no table.
func TestP15_2ReadersError(t *testing.T) {
	for e := api.ErrArg; e <= api.ErrBusy; e++ {
		for _, b := range []string{"", zeros(64), speltAll(filled()), number(most+1, 8), number(1, 8) + text("")} {
			r := octet.Of([]byte(b))
			r.Fail(e)
			if x := table.Read(r); x != nil || r.Err() != e {
				t.Errorf("error %d: a table: %t, error %d", e, x != nil, r.Err())
			}
		}
	}
}

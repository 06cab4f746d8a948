package table_test

import (
	"fmt"
	"math"
	"strings"
	"testing"

	"interrex/api"
	"interrex/octet"
	"interrex/op"
	"interrex/table"
)

// most is the highest number of a request.
const most = 1 << 40

// dice are numbers that come by no rule that a table could know, the same ones
// each time.
type dice uint64

func (d *dice) below(n int) int {
	*d = *d*6364136223846793005 + 1442695040888963407
	return int(uint64(*d) >> 33 % uint64(n))
}

// line is what is to be told of one client.
type line struct {
	number uint64
	e      api.Errno
	texts  []string
}

// model is what is to be told of all.
type model [8]line

// same tells whether a reply is a line's.
func (l line) same(r op.Reply) bool {
	if r.E != l.e || len(r.L) != len(l.texts) {
		return false
	}
	for i, s := range l.texts {
		if r.L[i] != s {
			return false
		}
	}
	return true
}

// isTold asks a table for all that a model has, and for clients that there
// aren't.
func isTold(t *testing.T, what string, x *table.Table, m model) {
	t.Helper()
	if x == nil {
		t.Fatalf("%s: there is no table", what)
	}
	for client := range 256 {
		var want line
		if client < 8 {
			want = m[client]
		}
		if n, r := x.Last(uint8(client)), x.Reply(uint8(client)); n != want.number || !want.same(r) {
			t.Fatalf("%s: client %d: number %d, error %d, %.60q; not %d, %d, %.60q", what, client, n, r.E, r.L, want.number, want.e, want.texts)
		}
	}
}

// isPut puts a reply that has to be taken.
func isPut(t *testing.T, x *table.Table, client uint8, number uint64, r op.Reply) {
	t.Helper()
	if e := x.Put(client, number, r); e != api.OK {
		t.Fatalf("client %d, number %d: error %d", client, number, e)
	}
}

// written is a table's bytes.
func written(x *table.Table) string {
	var w octet.Writer
	x.Write(&w)
	return string(w.Bytes())
}

// shown is a verdict, for whoever reads what a test says.
func shown(v table.Verdict) string {
	if v < 0 || int(v) >= 4 {
		return fmt.Sprint("no verdict: ", int(v))
	}
	return []string{"none", "stale", "again", "next"}[v]
}

// replies are many of them that Get reads: all errors, no text, one, as many
// and as long ones as may be.
func replies() []op.Reply {
	out := []op.Reply{
		{}, {L: []string{}}, {L: []string{""}}, {L: []string{"a"}}, {L: []string{"a", "b"}}, {L: []string{"b", "a", "a"}},
		{L: []string{"\x00", "\xff", "ä"}}, {L: []string{strings.Repeat("x", 400)}}, {L: make([]string, 400)},
	}
	for e := api.ErrArg; e <= api.ErrBusy; e++ {
		out = append(out, op.Reply{E: e})
	}
	return out
}

func TestP15_1Example(t *testing.T) {
	x := table.New()
	isPut(t, x, 2, 5, op.Reply{L: []string{"a"}})
	for number, want := range map[uint64]table.Verdict{4: table.Stale, 5: table.Again, 6: table.Next} {
		if v := x.Judge(2, number); v != want {
			t.Errorf("number %d: %s, not %s", number, shown(v), shown(want))
		}
	}
}

func TestP15_1Verdicts(t *testing.T) {
	for i, v := range []table.Verdict{table.None, table.Stale, table.Again, table.Next} {
		if int(v) != i {
			t.Errorf("the verdict at %d is %d", i, v)
		}
	}
}

func TestP15_1New(t *testing.T) {
	isTold(t, "a new table", table.New(), model{})
	for client := range uint8(8) {
		for _, number := range []uint64{1, 2, most - 1, most} {
			if v := table.New().Judge(client, number); v != table.Next {
				t.Errorf("client %d, number %d: %s", client, number, shown(v))
			}
		}
	}
}

func TestP15_1NewOnesAreApart(t *testing.T) {
	x, y := table.New(), table.New()
	isPut(t, x, 0, 1, op.Reply{L: []string{"a"}})
	isTold(t, "the other one", y, model{})
	isTold(t, "a later one", table.New(), model{})
}

func TestP15_1LastAndReply(t *testing.T) {
	for client := range uint8(8) {
		for _, number := range []uint64{1, 2, 255, 256, 1 << 32, most - 1, most} {
			for _, r := range replies() {
				x := table.New()
				isPut(t, x, client, number, r)
				var m model
				m[client] = line{number, r.E, r.L}
				isTold(t, "one row", x, m)
			}
		}
	}
}

// A row of its own stands for each client: none is told in another one's place.
func TestP15_1EachClient(t *testing.T) {
	x := table.New()
	var m model
	for client := range uint8(8) {
		l := []string{string(rune('a' + client)), "x"}
		isPut(t, x, client, uint64(client)*3+1, op.Reply{L: l})
		m[client] = line{uint64(client)*3 + 1, api.OK, l}
		isTold(t, "so far", x, m)
	}
}

// judged tells the verdict another way.
func judged(client uint8, number, last uint64) table.Verdict {
	if client > 7 || number < 1 || number > most {
		return table.None
	}
	if number > last {
		return table.Next
	}
	if number == last {
		return table.Again
	}
	return table.Stale
}

func TestP15_1Judge(t *testing.T) {
	edges := []uint64{0, 1, 2, 3, 4, 5, 6, 254, 255, 256, 257, 65535, 65536, 1<<32 - 1, 1 << 32, 1<<32 + 1, most - 2, most - 1, most, most + 1, most + 5, 1 << 41, most + 1<<41, math.MaxInt64, 1 << 63, math.MaxUint64 - 1, math.MaxUint64}
	for _, last := range edges {
		if last > most {
			continue
		}
		for own := range uint8(8) {
			x := table.New()
			if last > 0 {
				isPut(t, x, own, last, op.Reply{})
			}
			for client := range 256 {
				for _, number := range edges {
					var l uint64
					if client == int(own) {
						l = last
					}
					if v, want := x.Judge(uint8(client), number), judged(uint8(client), number, l); v != want {
						t.Fatalf("client %d, number %d behind %d: %s, not %s", client, number, l, shown(v), shown(want))
					}
				}
			}
		}
	}
}

func TestP15_1JudgeChangesNothing(t *testing.T) {
	x := table.New()
	isPut(t, x, 3, 7, op.Reply{L: []string{"a"}})
	for client := range 256 {
		for _, number := range []uint64{0, 6, 7, 8, most, most + 1} {
			x.Judge(uint8(client), number)
			x.Last(uint8(client))
			x.Reply(uint8(client))
		}
	}
	isTold(t, "asked", x, model{3: {7, api.OK, []string{"a"}}})
}

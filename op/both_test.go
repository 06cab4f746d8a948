package op_test

import (
	"bytes"
	"fmt"
	"slices"
	"strings"
	"testing"

	"interrex/api"
	"interrex/op"
)

func TestP14_3OperationsAreRead(t *testing.T) {
	each(func(o op.Op) {
		b, e := op.Bytes(o)
		if e != api.OK {
			t.Fatalf("%s: error %d", shown(o), e)
		}
		isRead(t, string(b), o)
	})
}

func TestP14_3RepliesAreRead(t *testing.T) {
	for _, l := range lists() {
		for e := range api.ErrBusy + 1 {
			r := op.Reply{E: e, L: l}
			again, err := op.Get(op.Put(r))
			if err != api.OK || !op.Same(again, r) || again.E != e {
				t.Errorf("error %d, %.90q: error %d, %.90q, error %d", e, l, again.E, again.L, err)
			}
			if e != api.OK && len(again.L) > 0 {
				t.Errorf("error %d: texts %.90q", e, again.L)
			}
		}
	}
}

// Of any bytes there is at most one operation: two that aren't the same have
// others.
func TestP14_3OneOperation(t *testing.T) {
	seen := map[string]op.Op{}
	each(func(o op.Op) {
		b, _ := op.Bytes(o)
		if p, was := seen[string(b)]; was && p != o {
			t.Errorf("%s and %s: %q", shown(o), shown(p), b)
		}
		seen[string(b)] = o
	})
}

// Of any bytes that are an operation's, or a reply's, that one has just these.
func TestP14_3BytesAgain(t *testing.T) {
	d := dice(3)
	ops, replies := 0, 0
	for range 300000 {
		b := make([]byte, d.below(9))
		for i := range b {
			b[i] = byte(d.below(3))
		}
		if len(b) > 0 {
			b[0] = byte(d.below(20))
		}
		if o, e := op.Read(b); e == api.OK {
			ops++
			if again, e := op.Bytes(o); e != api.OK || !bytes.Equal(again, b) {
				t.Fatalf("%q: %q, error %d", b, again, e)
			}
		}
		if r, e := op.Get(b); e == api.OK {
			replies++
			if again := op.Put(r); !bytes.Equal(again, b) {
				t.Fatalf("%q: %q", b, again)
			}
		}
	}
	if ops < 100 || replies < 100 {
		t.Error("too few", ops, replies)
	}
}

// An operation is the same as another one by ==, and a key of a map.
func TestP14_3Compared(t *testing.T) {
	var all []op.Op
	each(func(o op.Op) { all = append(all, o) })
	count := map[op.Op]int{}
	for _, o := range all {
		again, e := op.Read([]byte(spelt(o)))
		if e != api.OK || again != o {
			t.Errorf("%s isn't %s", shown(again), shown(o))
		}
		count[o]++
		count[again]++
	}
	if len(count)*2 != sum(count) {
		t.Error("operations that should be others are the same", len(count), sum(count))
	}
	a := op.Op{Kind: op.Join, A: "a", B: "b"}
	for _, b := range []op.Op{{Kind: op.Leave, A: "a", B: "b"}, {Kind: op.Join, A: "b", B: "a"}, {Kind: op.Join, A: "a"}, {Kind: op.Join, A: "a", B: "b", Node: 1}, {Kind: op.Join, A: "a", B: "b", Release: 1}} {
		if a == b {
			t.Error("the same", a, b)
		}
	}
}

// sum is all counts together.
func sum(count map[op.Op]int) int {
	n := 0
	for _, c := range count {
		n += c
	}
	return n
}

// The fields stand in this order, and there are no others.
func TestP14_3Fields(t *testing.T) {
	if o := (op.Op{1, "a", "b", 2, 3}); o != (op.Op{Kind: 1, A: "a", B: "b", Node: 2, Release: 3}) {
		t.Error(o)
	}
	if r := (op.Reply{4, []string{"x"}}); r.E != 4 || !slices.Equal(r.L, []string{"x"}) {
		t.Error(r)
	}
}

// What is read has its own memory: bytes that change don't change it.
func TestP14_3ReadKeepsNothing(t *testing.T) {
	each(func(o op.Op) {
		b := append(make([]byte, 0, 200), spelt(o)...)
		spare := b[:cap(b)]
		for i := len(b); i < len(spare); i++ {
			spare[i] = 0xaa
		}
		was := bytes.Clone(spare)
		p, e := op.Read(b)
		if !bytes.Equal(spare, was) {
			t.Errorf("%s: the bytes, or what is behind them, changed", shown(o))
		}
		for i := range spare {
			spare[i] = 0x55
		}
		if p != o || e != api.OK {
			t.Errorf("%s: %s, error %d", shown(o), shown(p), e)
		}
	})
}

func TestP14_3GetKeepsNothing(t *testing.T) {
	for _, l := range lists() {
		b := append(make([]byte, 0, 200000), reply(l...)...)
		spare := b[:cap(b)]
		was := bytes.Clone(spare)
		r, e := op.Get(b)
		if !bytes.Equal(spare, was) {
			t.Errorf("%.90q: the bytes, or what is behind them, changed", l)
		}
		for i := range b {
			b[i] = 0x55
		}
		if e != api.OK || !slices.Equal(r.L, l) {
			t.Errorf("%.90q: error %d, %.90q, error %d", l, r.E, r.L, e)
		}
	}
}

// Each answer is new memory.
func TestP14_3NewMemory(t *testing.T) {
	each(func(o op.Op) {
		a, _ := op.Bytes(o)
		b, _ := op.Bytes(o)
		was := string(b)
		for i := range a {
			a[i]++
		}
		_ = append(a, 7)
		if string(b) != was || was != spelt(o) {
			t.Errorf("%s: one answer's bytes are another one's", shown(o))
		}
	})
	for _, l := range lists() {
		a, b := op.Put(op.Reply{L: l}), op.Put(op.Reply{L: l})
		for i := range a {
			a[i]++
		}
		if string(b) != reply(l...) {
			t.Errorf("%.90q: one answer's bytes are another one's", l)
		}
		p, _ := op.Get(b)
		q, _ := op.Get(b)
		for i := range p.L {
			p.L[i] = "other"
		}
		if !slices.Equal(q.L, l) {
			t.Errorf("%.90q: one answer's texts are another one's", l)
		}
	}
}

// A reply that is handed in stays, its spare room too.
func TestP14_3RepliesStay(t *testing.T) {
	for _, e := range []api.Errno{api.OK, api.ErrNone, 300} {
		l := append(make([]string, 0, 9), "x", "", strings.Repeat("z", 500))
		spare := l[:9]
		for i := 3; i < 9; i++ {
			spare[i] = fmt.Sprint("spare", i)
		}
		was := slices.Clone(spare)
		a, b := op.Reply{E: e, L: l}, op.Reply{E: e, L: spare[:2]}
		op.Put(a)
		op.Same(a, b)
		op.Same(b, a)
		op.Same(a, a)
		if !slices.Equal(spare, was) || a.E != e || len(a.L) != 3 || len(b.L) != 2 {
			t.Error("a reply changed", a, b)
		}
	}
}

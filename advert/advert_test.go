package advert_test

import (
	"math"
	"slices"
	"testing"

	"interrex/advert"
	"interrex/api"
)

// model is what is to be told of a board: each node's release.
type model []api.Release

// sizes are how many nodes a board may have.
var sizes = []int{3, 5, 7}

// dice are numbers that come by no rule that a board could know, the same ones
// each time.
type dice uint64

func (d *dice) below(n int) int {
	*d = *d*6364136223846793005 + 1442695040888963407
	return int(uint64(*d) >> 33 % uint64(n))
}

// each goes through all boards that there are of n nodes.
func each(n int, deed func(m model)) {
	for i := range 1 << (2 * n) {
		m := make(model, n)
		for node := range m {
			m[node] = api.Release(i >> (2 * node) & 3)
		}
		deed(m)
	}
}

// has tells whether all of one are in the other one, bit by bit.
func has(r, all api.Release) bool {
	for bit := range 8 {
		if all>>bit&1 == 1 && r>>bit&1 == 0 {
			return false
		}
	}
	return true
}

// lacking are a model's nodes without all bits of r.
func (m model) lacking(r api.Release) []uint8 {
	out := []uint8{}
	for node := range len(m) {
		if !has(m[node], r) {
			out = append(out, uint8(node))
		}
	}
	return out
}

// isTold asks a board for all that a model has, and for nodes that there
// aren't.
func isTold(t *testing.T, what string, b *advert.Board, m model) {
	t.Helper()
	if b == nil {
		t.Fatalf("%s: there is no board", what)
	}
	if n := b.Nodes(); n != len(m) {
		t.Fatalf("%s: %d nodes, not %d", what, n, len(m))
	}
	for _, node := range []uint8{0, 1, 2, 3, 4, 5, 6, 7, 8, 16, 127, 128, 254, 255} {
		var want api.Release
		if int(node) < len(m) {
			want = m[node]
		}
		if r := b.Of(node); r != want {
			t.Fatalf("%s: node %d: release %d, not %d", what, node, r, want)
		}
	}
	for r := range api.Release(5) {
		want := m.lacking(r)
		if l := b.Lacking(r); !slices.Equal(l, want) || b.All(r) != (len(want) == 0) {
			t.Fatalf("%s: of %d release %d is lacked by %d, not %d; all have it: %t", what, m, r, l, want, b.All(r))
		}
	}
}

// isNoted notes a release that has to be taken.
func isNoted(t *testing.T, b *advert.Board, node int, r api.Release) {
	t.Helper()
	if e := b.Note(uint8(node), r); e != api.OK {
		t.Fatalf("node %d, release %d: error %d", node, r, e)
	}
}

// noted is a board that has what a model has.
func noted(t *testing.T, m model) *advert.Board {
	t.Helper()
	b := advert.New(len(m))
	if b == nil {
		t.Fatalf("of %d nodes there is no board", len(m))
	}
	for node, r := range m {
		if r > 0 {
			isNoted(t, b, node, r)
		}
	}
	return b
}

func TestP16_1Example(t *testing.T) {
	b := noted(t, model{api.Both, api.Both, api.Old})
	if l := b.Lacking(api.New); !slices.Equal(l, []uint8{2}) {
		t.Error(l)
	}
}

func TestP16_1New(t *testing.T) {
	for n := -600; n <= 600; n++ {
		b := advert.New(n)
		if !slices.Contains(sizes, n) {
			if b != nil {
				t.Errorf("of %d nodes there is a board", n)
			}
			continue
		}
		isTold(t, "a new board", b, make(model, n))
	}
	for _, n := range []int{math.MinInt, math.MaxInt, math.MaxInt - 1, 1<<32 + 3, 1<<16 + 5, 1<<8 + 7, -3, -5, -7, -253} {
		if advert.New(n) != nil {
			t.Errorf("of %d nodes there is a board", n)
		}
	}
}

func TestP16_1NewOnesAreApart(t *testing.T) {
	for _, n := range sizes {
		x, y := advert.New(n), advert.New(n)
		for node := range n {
			isNoted(t, x, node, api.Both)
		}
		isTold(t, "the other one", y, make(model, n))
		isTold(t, "a later one", advert.New(n), make(model, n))
	}
}

// Each node has a release of its own, and the one noted last stands.
func TestP16_1Note(t *testing.T) {
	for _, n := range sizes {
		for node := range n {
			b, m := advert.New(n), make(model, n)
			for _, r := range []api.Release{1, 2, 3, 3, 2, 1, 1, 3, 1} {
				isNoted(t, b, node, r)
				m[node] = r
				isTold(t, "noted", b, m)
			}
		}
	}
}

func TestP16_1NoteErrors(t *testing.T) {
	for _, n := range sizes {
		before := make(model, n)
		before[0], before[n-1] = api.New, api.Both
		b := noted(t, before)
		for node := range 256 {
			for r := range 256 {
				if node < n && r >= 1 && r <= 3 {
					continue
				}
				if e := b.Note(uint8(node), api.Release(r)); e != api.ErrArg {
					t.Fatalf("of %d: node %d, release %d: error %d", n, node, r, e)
				}
			}
			isTold(t, "refused", b, before)
		}
	}
}

func TestP16_1Of(t *testing.T) {
	for _, n := range sizes {
		m := model{3, 1, 2, 2, 3, 1, 3}[:n]
		b := noted(t, m)
		for node := range 256 {
			var want api.Release
			if node < n {
				want = m[node]
			}
			if r := b.Of(uint8(node)); r != want {
				t.Errorf("of %d: node %d: release %d, not %d", n, node, r, want)
			}
		}
	}
}

func TestP16_1Has(t *testing.T) {
	for r := range 256 {
		for all := range 256 {
			x, y := api.Release(r), api.Release(all)
			if is, want := advert.Has(x, y), has(x, y); is != want {
				t.Errorf("has %d all of %d? %t, not %t", r, all, is, want)
			}
		}
	}
}

// Of a release that no node can say the bits beyond are asked, too.
func TestP16_1AnyRelease(t *testing.T) {
	for _, n := range sizes {
		for _, m := range []model{make(model, n), model{3, 3, 3, 3, 3, 3, 3}[:n], model{0, 1, 2, 3, 2, 1, 0}[:n]} {
			b := noted(t, m)
			for r := range 256 {
				want := m.lacking(api.Release(r))
				if l := b.Lacking(api.Release(r)); !slices.Equal(l, want) {
					t.Errorf("release %d is lacked by %d, not %d", r, l, want)
				}
				if is := b.All(api.Release(r)); is != (len(want) == 0) {
					t.Errorf("have all release %d? %t", r, is)
				}
			}
		}
	}
}

// Of all boards that there are all is told.
func TestP16_1EachBoard(t *testing.T) {
	for _, n := range sizes {
		each(n, func(m model) { isTold(t, "each one", noted(t, m), m) })
	}
}

package table_test

import (
	"math"
	"testing"

	"interrex/api"
	"interrex/op"
	"interrex/table"
)

func TestP15_2PutErrors(t *testing.T) {
	before := model{1: {5, api.OK, []string{"a"}}, 7: {most, api.ErrNone, nil}}
	for _, c := range []struct {
		client uint8
		number uint64
		e      api.Errno
	}{
		{8, 1, api.ErrArg}, {9, 5, api.ErrArg}, {16, 1, api.ErrArg}, {128, 1, api.ErrArg}, {255, 1, api.ErrArg}, {255, 0, api.ErrArg},
		{0, 0, api.ErrArg}, {1, 0, api.ErrArg}, {7, 0, api.ErrArg},
		{0, most + 1, api.ErrArg}, {1, most + 1, api.ErrArg}, {7, most + 1, api.ErrArg}, {0, math.MaxUint64, api.ErrArg}, {0, 1 << 63, api.ErrArg}, {0, math.MaxUint64 - 4, api.ErrArg},
		{1, 1, api.ErrState}, {1, 4, api.ErrState}, {1, 5, api.ErrState}, {7, 1, api.ErrState}, {7, most - 1, api.ErrState}, {7, most, api.ErrState},
		{0, 1, api.OK}, {0, most, api.OK}, {1, 6, api.OK}, {1, most, api.OK}, {6, 5, api.OK},
	} {
		for _, r := range replies() {
			x := table.New()
			isPut(t, x, 1, 5, op.Reply{L: []string{"a"}})
			isPut(t, x, 7, most, op.Reply{E: api.ErrNone})
			if e := x.Put(c.client, c.number, r); e != c.e {
				t.Fatalf("client %d, number %d: error %d, not %d", c.client, c.number, e, c.e)
			}
			after := before
			if c.e == api.OK {
				after[c.client] = line{c.number, r.E, r.L}
			}
			isTold(t, "behind a Put", x, after)
		}
	}
}

func TestP15_2ErrorsWithoutTexts(t *testing.T) {
	for e := api.ErrArg; e <= api.ErrBusy; e++ {
		for _, l := range [][]string{nil, {}, {"a"}, {"", ""}, make([]string, 400)} {
			x := table.New()
			isPut(t, x, 4, 2, op.Reply{E: e, L: l})
			isTold(t, "with an error", x, model{4: {2, e, nil}})
			isTold(t, "copied", x.Copy(), model{4: {2, e, nil}})
		}
	}
}

// A reply that no bytes can say is told as it was put, an error that there
// isn't without texts too.
func TestP15_2AnyReply(t *testing.T) {
	for _, e := range []api.Errno{-1, 19, 255, 256, math.MinInt, math.MaxInt} {
		x := table.New()
		isPut(t, x, 0, 1, op.Reply{E: e, L: []string{"a"}})
		isTold(t, "any error", x, model{0: {1, e, nil}})
		written(x)
	}
	l := make([]string, 70000)
	l[69999] = "z"
	x := table.New()
	isPut(t, x, 0, 1, op.Reply{L: l})
	isTold(t, "many texts", x, model{0: {1, api.OK, l}})
	written(x)
}

// A later reply stands in the place of the one before, whatever that was.
func TestP15_2PutAgain(t *testing.T) {
	x := table.New()
	number := uint64(0)
	for _, a := range replies() {
		for _, b := range replies() {
			number += 2
			isPut(t, x, 5, number, a)
			isTold(t, "first", x, model{5: {number, a.E, a.L}})
			number++
			isPut(t, x, 5, number, b)
			isTold(t, "then", x, model{5: {number, b.E, b.L}})
		}
	}
}

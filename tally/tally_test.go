package tally_test

import (
	"math"
	"testing"

	"interrex/tally"
)

// both are a new tally and one that is a zero value.
func both() map[string]*tally.Tally {
	return map[string]*tally.Tally{"new": tally.New(), "zero value": new(tally.Tally)}
}

// strange are kinds that there aren't, some of which would be kinds if their
// upper bits or their sign were lost.
var strange = []int{-1, -2, -15, -16, -17, 16, 17, 31, 99, 255, 256, 1 << 16, 1 << 32, 1<<32 + 3, math.MinInt, math.MinInt + 1, math.MaxInt - 1, math.MaxInt}

// holds holds all that a tally tells against counts.
func holds(t *testing.T, x *tally.Tally, want [16]int64) {
	t.Helper()
	if all := x.All(); all != want {
		t.Errorf("all: %v, not %v", all, want)
	}
	var sum int64
	for kind, n := range want {
		sum += n
		if g := x.Get(kind); g != n {
			t.Errorf("count %d: %d, not %d", kind, g, n)
		}
	}
	if s := x.Sum(); s != sum {
		t.Errorf("sum: %d, not %d", s, sum)
	}
}

// dice is a row of numbers that look thrown, the same each time.
type dice uint64

func (d *dice) next(n int) int {
	*d = *d*6364136223846793005 + 1442695040888963407
	return int(uint64(*d) >> 33 % uint64(n))
}

// number is small, or near one of the ends.
func (d *dice) number() int64 {
	n := int64(d.next(7) - 3)
	switch d.next(4) {
	case 0:
		return math.MaxInt64 + n // goes round
	case 1:
		return int64(d.next(1<<31)) << 32 * n
	}
	return n
}

func TestP4_1Kinds(t *testing.T) {
	if tally.Kinds != 16 || len(tally.New().All()) != 16 {
		t.Error(tally.Kinds)
	}
}

func TestP4_1AtFirst(t *testing.T) {
	for name, x := range both() {
		holds(t, x, [16]int64{})
		if x.Raise(5, 0) || x.Raise(5, -1) || x.Swap(5, 1, 2) || !x.Swap(5, 0, 2) {
			t.Errorf("%s: not 0 at first", name)
		}
	}
}

func TestP4_1NewOnesAreApart(t *testing.T) {
	a, b := tally.New(), tally.New()
	a.Add(1, 7)
	holds(t, a, [16]int64{1: 7})
	holds(t, b, [16]int64{})
	holds(t, tally.New(), [16]int64{})
}

func TestP4_1Example(t *testing.T) {
	for name, x := range both() {
		if n := x.Add(2, 5); n != 5 {
			t.Errorf("%s: Add: %d", name, n)
		}
		if x.Raise(2, 4) {
			t.Errorf("%s: raised to less", name)
		}
		if !x.Raise(2, 9) || x.Get(2) != 9 {
			t.Errorf("%s: not raised: %d", name, x.Get(2))
		}
	}
}

// Each kind has a count of its own.
func TestP4_1EachKind(t *testing.T) {
	for _, x := range both() {
		var want [16]int64
		for kind := range 16 {
			by := int64(1) << (3 * kind)
			want[kind] = by
			if n := x.Add(kind, by); n != by {
				t.Errorf("kind %d: %d, not %d", kind, n, by)
			}
			holds(t, x, want)
		}
		for kind := range 16 {
			want[kind] += 2
			if !x.Raise(kind, want[kind]) {
				t.Errorf("kind %d isn't raised", kind)
			}
			holds(t, x, want)
		}
		for kind := range 16 {
			was := want[kind]
			want[kind] = -int64(kind)
			if !x.Swap(kind, was, want[kind]) {
				t.Errorf("kind %d isn't swapped", kind)
			}
			holds(t, x, want)
		}
	}
}

func TestP4_1Add(t *testing.T) {
	const least, most = math.MinInt64, math.MaxInt64
	cases := []struct{ was, by, want int64 }{
		{0, 0, 0},
		{0, 1, 1},
		{5, 3, 8},
		{5, -3, 2},
		{5, -5, 0},
		{5, -8, -3},
		{math.MaxInt32, 1, 1 << 31},
		{math.MaxUint32, 1, 1 << 32},
		{1<<53 + 1, 1, 1<<53 + 2},
		{0, most, most},
		{0, least, least},
		{most, 1, least},
		{least, -1, most},
		{most, most, -2},
		{least, least, 0},
		{most, least, -1},
	}
	for _, c := range cases {
		x := tally.New()
		x.Add(15, c.was)
		if n := x.Add(15, c.by); n != c.want {
			t.Errorf("%d and %d: %d, not %d", c.was, c.by, n, c.want)
		}
		holds(t, x, [16]int64{15: c.want})
	}
}

func TestP4_1Raise(t *testing.T) {
	const least, most = math.MinInt64, math.MaxInt64
	cases := []struct {
		was, to int64
		done    bool
	}{
		{0, 1, true},
		{0, 0, false},
		{0, -1, false},
		{-5, -6, false},
		{-5, -5, false},
		{-5, -4, true},
		{-5, 0, true},
		{7, 6, false},
		{7, 7, false},
		{7, 8, true},
		{7, 1 << 40, true},
		{most - 1, most, true},
		{most, most, false},
		{most, least, false}, // the difference goes round
		{least, least, false},
		{least, least + 1, true},
		{least, most, true},
		{-2, most, true},
		{2, least, false},
	}
	for _, c := range cases {
		x := tally.New()
		x.Add(0, c.was)
		want := c.was
		if c.done {
			want = c.to
		}
		if done := x.Raise(0, c.to); done != c.done {
			t.Errorf("%d raised to %d: %v", c.was, c.to, done)
		}
		holds(t, x, [16]int64{want})
		if x.Raise(0, c.to) {
			t.Errorf("%d raised to %d twice", c.was, c.to)
		}
	}
}

func TestP4_1Swap(t *testing.T) {
	const least, most = math.MinInt64, math.MaxInt64
	cases := []struct {
		was, old, next int64
		done           bool
	}{
		{0, 0, 1, true},
		{0, 0, 0, true},
		{0, 1, 0, false},
		{0, 1, 2, false},
		{7, 7, 3, true}, // less, too
		{7, 7, 7, true},
		{7, 6, 9, false},
		{7, 8, 9, false},
		{7, -7, 9, false},
		{7, 7 + 1<<32, 9, false},
		{most, most, least, true},
		{least, least, most, true},
		{most, least, 5, false},
		{most, -1, 5, false},
	}
	for _, c := range cases {
		x := tally.New()
		x.Add(9, c.was)
		want := c.was
		if c.done {
			want = c.next
		}
		if done := x.Swap(9, c.old, c.next); done != c.done {
			t.Errorf("%d, thought %d, to %d: %v", c.was, c.old, c.next, done)
		}
		holds(t, x, [16]int64{9: want})
	}
}

func TestP4_1KindsThatThereArent(t *testing.T) {
	full := tally.New()
	var counts [16]int64
	for kind := range counts {
		counts[kind] = int64(kind + 1)
		full.Add(kind, counts[kind])
	}
	for _, kind := range strange {
		for _, c := range []struct {
			x    *tally.Tally
			want [16]int64
		}{{tally.New(), [16]int64{}}, {new(tally.Tally), [16]int64{}}, {full, counts}} {
			if n := c.x.Add(kind, 5); n != 0 {
				t.Errorf("kind %d: Add: %d", kind, n)
			}
			if n := c.x.Get(kind); n != 0 {
				t.Errorf("kind %d: Get: %d", kind, n)
			}
			if c.x.Raise(kind, 99) || c.x.Raise(kind, math.MaxInt64) {
				t.Errorf("kind %d is raised", kind)
			}
			for old := range int64(17) {
				if c.x.Swap(kind, old, 99) || c.x.Swap(kind, old, old) {
					t.Errorf("kind %d is swapped", kind)
				}
			}
			holds(t, c.x, c.want)
		}
	}
}

func TestP4_1SumGoesRound(t *testing.T) {
	x := tally.New()
	x.Add(0, math.MaxInt64)
	x.Add(15, 1)
	if s := x.Sum(); s != math.MinInt64 {
		t.Errorf("past the upper end: %d", s)
	}
	x.Add(7, -1)
	if s := x.Sum(); s != math.MaxInt64 {
		t.Errorf("back again: %d", s)
	}
	y := tally.New()
	for kind := range 16 {
		y.Add(kind, math.MinInt64)
	}
	if s := y.Sum(); s != 0 {
		t.Errorf("16 times the least: %d", s)
	}
	y.Swap(3, math.MinInt64, math.MaxInt64)
	if s := y.Sum(); s != -1 {
		t.Errorf("15 times the least, and the most: %d", s)
	}
}

// What All answers is an array of the caller's own.
func TestP4_1AllIsApart(t *testing.T) {
	x := tally.New()
	x.Add(3, 4)
	all := x.All()
	all[3], all[5] = 8, 9
	holds(t, x, [16]int64{3: 4})
	again := x.All()
	x.Add(3, 1)
	if again != [16]int64{3: 4} {
		t.Error(again)
	}
}

func TestP4_1Copy(t *testing.T) {
	for _, x := range both() {
		empty := x.Copy()
		var counts [16]int64
		for kind := range counts {
			counts[kind] = int64(kind-8) << 50
			x.Add(kind, counts[kind])
		}
		c := x.Copy()
		holds(t, empty, [16]int64{})
		holds(t, c, counts)

		c.Add(0, 1)
		c.Raise(1, math.MaxInt64)
		c.Swap(2, counts[2], -1)
		holds(t, x, counts)

		changed := counts
		changed[0], changed[1], changed[2] = counts[0]+1, math.MaxInt64, -1
		holds(t, c, changed)
		x.Add(15, 7)
		x.Raise(14, math.MaxInt64)
		x.Swap(13, counts[13], 0)
		holds(t, c, changed)
		holds(t, c.Copy(), changed)
	}
}

// played is the same deed done to a tally and to plain counts: what each told.
func played(d *dice, x *tally.Tally, counts *[16]int64) (told, want any) {
	kind, a, b := d.next(22)-3, d.number(), d.number()
	there := kind >= 0 && kind < 16
	var n int64
	if there {
		n = counts[kind]
	}
	if there && d.next(2) == 0 {
		b = n
	}
	switch d.next(4) {
	case 0:
		if there {
			counts[kind] += a
			n += a
		}
		return x.Add(kind, a), n
	case 1:
		return x.Get(kind), n
	case 2:
		done := there && n < a
		if done {
			counts[kind] = a
		}
		return x.Raise(kind, a), done
	}
	done := there && n == b
	if done {
		counts[kind] = a
	}
	return x.Swap(kind, b, a), done
}

func TestP4_1ManyDeeds(t *testing.T) {
	var d dice
	for range 50 {
		x := tally.New()
		var counts [16]int64
		for i := range 400 {
			told, want := played(&d, x, &counts)
			if told != want || x.All() != counts {
				t.Fatalf("deed %d: %v, not %v; %v, not %v", i, told, want, x.All(), counts)
			}
			if d.next(10) == 0 {
				x = x.Copy()
			}
		}
		holds(t, x, counts)
	}
}

package tally_test

import (
	"sync"
	"sync/atomic"
	"testing"

	"interrex/tally"
)

const (
	workers = 8
	times   = 5000
)

// together has all workers begin at once, and waits for them.
func together(work func(worker int)) {
	var all sync.WaitGroup
	start := make(chan struct{})
	for worker := range workers {
		all.Go(func() {
			<-start
			work(worker)
		})
	}
	close(start)
	all.Wait()
}

func TestP4_2AllIsAdded(t *testing.T) {
	var x tally.Tally
	together(func(worker int) {
		for i := range times {
			x.Add(3, 1)
			x.Add(i%16, int64(worker))
			x.Add(16, 1)
			x.Add(15, -2)
		}
	})
	var want [16]int64
	for i := range times {
		want[i%16] += workers * (workers - 1) / 2
	}
	want[3] += workers * times
	want[15] -= 2 * workers * times
	holds(t, &x, want)
}

// No two of them are told the same count.
func TestP4_2EachAddTellsItsOwn(t *testing.T) {
	x := tally.New()
	var told [workers * times]atomic.Int32
	together(func(int) {
		for range times {
			told[x.Add(0, 1)-1].Add(1)
		}
	})
	for i := range told {
		if n := told[i].Load(); n != 1 {
			t.Fatalf("%d was told %d times", i+1, n)
		}
	}
}

// What is added beside counts that are asked, raised and swapped is added too.
func TestP4_2AddedBesideOthers(t *testing.T) {
	x := tally.New()
	together(func(worker int) {
		for range times {
			switch worker % 4 {
			case 0:
				x.Raise(1, 0) // never done: the count is at least 0
			case 1:
				n := x.Get(1)
				x.Swap(1, n, n)
			case 2:
				x.All()
				x.Sum()
				x.Copy().Add(1, 100)
			}
			x.Add(1, 1)
		}
	})
	holds(t, x, [16]int64{1: workers * times})
}

// A count that is raised between two additions must not fall back: each Raise
// that is done makes it more, by at least one.
func TestP4_2RaisedBesideAdditions(t *testing.T) {
	x := tally.New()
	var raised atomic.Int64
	together(func(int) {
		for range times {
			if x.Raise(2, x.Get(2)+1) {
				raised.Add(1)
			}
			x.Add(2, 1)
		}
	})
	if n := x.Get(2); n < workers*times+raised.Load() {
		t.Errorf("%d, though %d were added and it was raised %d times", n, workers*times, raised.Load())
	}
}

// A count that is surely less is raised, however often others change it
// meanwhile: what they add never comes near the next height.
func TestP4_2RaisedThoughOthersAdd(t *testing.T) {
	x := tally.New()
	together(func(worker int) {
		for i := range int64(20 * times) {
			if worker > 0 {
				x.Add(6, 1)
			} else if to := (i + 1) << 32; !x.Raise(6, to) {
				t.Errorf("not raised to %d", to)
				return
			}
		}
	})
	if n := x.Get(6); n < 20*times<<32 || n > 20*times<<32+(workers-1)*20*times {
		t.Error(n)
	}
}

// To each height it is raised at most once, and in the end to the highest.
func TestP4_2RaisedOnceToEach(t *testing.T) {
	x := tally.New()
	var done [times + 1]atomic.Int32
	together(func(int) {
		for i := range times {
			if x.Raise(7, int64(i+1)) {
				done[i+1].Add(1)
			}
		}
	})
	for i := range done {
		if n := done[i].Load(); n > 1 {
			t.Errorf("raised to %d %d times", i, n)
		}
	}
	if done[times].Load() != 1 {
		t.Errorf("raised to the highest %d times", done[times].Load())
	}
	holds(t, x, [16]int64{7: times})
}

// Of those who think the same count only one swaps it.
func TestP4_2SwappedByOne(t *testing.T) {
	x := tally.New()
	var done atomic.Int64
	together(func(int) {
		for i := range int64(times) {
			if x.Swap(4, i, i+1) {
				done.Add(1)
			}
		}
	})
	if n := x.Get(4); n != done.Load() || n < 1 {
		t.Errorf("%d, though it was swapped %d times", n, done.Load())
	}
	holds(t, x, [16]int64{4: done.Load()})
}

// Numbers that are added by asking and swapping are added, all of them.
func TestP4_2AddedBySwap(t *testing.T) {
	x := tally.New()
	together(func(int) {
		for range times {
			for {
				n := x.Get(5)
				if x.Swap(5, n, n+1) {
					break
				}
			}
		}
	})
	holds(t, x, [16]int64{5: workers * times})
}

// What is asked of counts that only grow never falls.
func TestP4_2AskedMeanwhile(t *testing.T) {
	x := tally.New()
	together(func(worker int) {
		var last [16]int64
		var lastSum int64
		for i := range times {
			if worker < workers/2 {
				x.Add(i%16, 1)
				continue
			}
			all := x.All()
			for kind := range all {
				if all[kind] < last[kind] {
					t.Errorf("count %d fell from %d to %d", kind, last[kind], all[kind])
				}
			}
			sum := x.Sum()
			if sum < lastSum || x.Copy().Sum() < sum {
				t.Errorf("the sum fell from %d, to %d", lastSum, sum)
			}
			last, lastSum = all, sum
		}
	})
	if s := x.Sum(); s != workers/2*times {
		t.Error(s)
	}
}

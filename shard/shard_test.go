package shard

import (
	"math"
	"testing"
)

// far is the greatest worker, and the greatest k, that the promises speak of.
const far = 1<<31 - 1

// leaves is how many leaves there are at most.
const leaves = 2048

// least and greatest answer the numbers of addresses at both ends of those that have so many
// leaves.
func least(many int) int    { return 32*(many-1) + 1 }
func greatest(many int) int { return 32 * many }

// cuts answers where the shards of so many leaves begin, and where the last one ends. Each is
// told as the greatest number whose shards-fold isn't above s times the leaves, stepped to,
// so that the tests hold the package's divisions against something else.
func cuts(many, shards int) []int {
	l, at := []int{}, 0
	for s := range shards + 1 {
		for (at+1)*shards <= s*many {
			at++
		}
		l = append(l, at)
	}
	return l
}

// each calls look of each number of leaves, and of each number of shards.
func each(look func(many, shards int)) {
	for many := 1; many <= leaves; many++ {
		for shards := 1; shards <= 64; shards++ {
			look(many, shards)
		}
	}
}

// some calls look of a few numbers of addresses, the edges among them, and of each number of
// shards.
func some(look func(n, many, shards int)) {
	for _, x := range []struct{ n, many int }{
		{1, 1}, {31, 1}, {32, 1}, {33, 2}, {64, 2}, {65, 3}, {96, 3}, {160, 5}, {256, 8}, {1000, 32}, {1984, 62}, {2016, 63}, {2017, 64},
		{2048, 64}, {2049, 65}, {2080, 65}, {2112, 66}, {4096, 128}, {4097, 129}, {30000, 938}, {65504, 2047}, {65535, 2048}, {65536, 2048},
	} {
		for shards := 1; shards <= 64; shards++ {
			look(x.n, x.many, shards)
		}
	}
}

func TestRangeByHand(t *testing.T) { // P12.1, the chapter's example among them
	for _, x := range []struct {
		n, shards int
		cuts      []int
	}{
		{1, 1, []int{0, 1}}, {32, 1, []int{0, 1}}, {33, 1, []int{0, 2}}, {65535, 1, []int{0, 2048}}, {65536, 1, []int{0, 2048}},
		{96, 2, []int{0, 1, 3}}, {65, 2, []int{0, 1, 3}}, {64, 2, []int{0, 1, 2}}, {33, 2, []int{0, 1, 2}}, {160, 2, []int{0, 2, 5}},
		{96, 3, []int{0, 1, 2, 3}}, {128, 3, []int{0, 1, 2, 4}}, {160, 3, []int{0, 1, 3, 5}}, {224, 3, []int{0, 2, 4, 7}},
		{320, 4, []int{0, 2, 5, 7, 10}}, {352, 4, []int{0, 2, 5, 8, 11}}, {256, 7, []int{0, 1, 2, 3, 4, 5, 6, 8}}, {256, 8, []int{0, 1, 2, 3, 4, 5, 6, 7, 8}},
		{256, 9, []int{0, 0, 1, 2, 3, 4, 5, 6, 7, 8}}, {1, 2, []int{0, 0, 1}}, {32, 3, []int{0, 0, 0, 1}}, {33, 3, []int{0, 0, 1, 2}},
		{33, 4, []int{0, 0, 1, 1, 2}}, {33, 5, []int{0, 0, 0, 1, 1, 2}}, {96, 5, []int{0, 0, 1, 1, 2, 3}},
		{65535, 3, []int{0, 682, 1365, 2048}}, {65536, 3, []int{0, 682, 1365, 2048}}, {65504, 3, []int{0, 682, 1364, 2047}}, {65536, 5, []int{0, 409, 819, 1228, 1638, 2048}},
	} {
		for s := range x.shards {
			if from, to := Range(x.n, x.shards, s); from != x.cuts[s] || to != x.cuts[s+1] {
				t.Errorf("%d addresses, %d shards: %d has %d to %d, not %d to %d", x.n, x.shards, s, from, to, x.cuts[s], x.cuts[s+1])
			}
		}
	}
}

func TestRangeOfSixtyFourShards(t *testing.T) { // P12.1
	for _, x := range []struct{ n, s, from, to int }{
		{1, 0, 0, 0}, {1, 62, 0, 0}, {1, 63, 0, 1}, {32, 63, 0, 1}, {33, 30, 0, 0}, {33, 31, 0, 1}, {33, 32, 1, 1}, {33, 62, 1, 1}, {33, 63, 1, 2},
		{2016, 0, 0, 0}, {2016, 1, 0, 1}, {2016, 62, 61, 62}, {2016, 63, 62, 63}, {2048, 0, 0, 1}, {2048, 31, 31, 32}, {2048, 63, 63, 64},
		{2049, 0, 0, 1}, {2049, 62, 62, 63}, {2049, 63, 63, 65}, {65535, 0, 0, 32}, {65535, 63, 2016, 2048}, {65536, 0, 0, 32}, {65536, 1, 32, 64}, {65536, 63, 2016, 2048},
		{65504, 0, 0, 31}, {65504, 1, 31, 63}, {65504, 63, 2015, 2047},
	} {
		if from, to := Range(x.n, 64, x.s); from != x.from || to != x.to {
			t.Errorf("%d addresses: the shard %d has %d to %d, not %d to %d", x.n, x.s, from, to, x.from, x.to)
		}
	}
}

func TestRangeOfEachShard(t *testing.T) { // P12.1
	each(func(many, shards int) {
		l := cuts(many, shards)
		for s := range shards {
			for _, n := range []int{least(many), greatest(many)} {
				if from, to := Range(n, shards, s); from != l[s] || to != l[s+1] {
					t.Fatalf("%d addresses, %d shards: %d has %d to %d, not %d to %d", n, shards, s, from, to, l[s], l[s+1])
				}
			}
		}
	})
}

// What counts is how many leaves there are, not how many addresses the last one has.
func TestRangeOfEachNumberOfAddresses(t *testing.T) { // P12.1
	for n := 1; n <= 65536; n++ {
		many := (n-1)/32 + 1
		for _, shards := range []int{1, 2, 63, 64} {
			if from, to := Range(n, shards, shards-1); from != many-(many-1)/shards-1 || to != many {
				t.Fatalf("%d addresses, %d shards: the last one has %d to %d", n, shards, from, to)
			}
		}
	}
}

func TestOfByHand(t *testing.T) { // P12.1, the chapter's example among them
	for _, x := range []struct{ n, shards, leaf, s int }{
		{1, 1, 0, 0}, {1, 2, 0, 1}, {1, 64, 0, 63}, {32, 64, 0, 63}, {33, 1, 0, 0}, {33, 1, 1, 0}, {33, 2, 0, 0}, {33, 2, 1, 1},
		{33, 4, 0, 1}, {33, 4, 1, 3}, {33, 64, 0, 31}, {33, 64, 1, 63}, {96, 2, 0, 0}, {96, 2, 1, 1}, {96, 2, 2, 1},
		{160, 3, 0, 0}, {160, 3, 1, 1}, {160, 3, 2, 1}, {160, 3, 3, 2}, {160, 3, 4, 2}, {256, 9, 0, 1}, {256, 9, 7, 8}, {256, 7, 5, 5}, {256, 7, 6, 6}, {256, 7, 7, 6},
		{2016, 64, 0, 1}, {2016, 64, 62, 63}, {2048, 64, 0, 0}, {2048, 64, 63, 63}, {2049, 64, 63, 63}, {2049, 64, 64, 63}, {2049, 64, 62, 62},
		{65536, 3, 681, 0}, {65536, 3, 682, 1}, {65536, 3, 1364, 1}, {65536, 3, 1365, 2}, {65535, 3, 2047, 2},
		{65536, 1, 2047, 0}, {65536, 64, 0, 0}, {65536, 64, 31, 0}, {65536, 64, 32, 1}, {65536, 64, 2015, 62}, {65536, 64, 2016, 63}, {65536, 64, 2047, 63},
	} {
		if s := Of(x.n, x.shards, x.leaf); s != x.s {
			t.Errorf("%d addresses, %d shards: the leaf %d is of %d, not of %d", x.n, x.shards, x.leaf, s, x.s)
		}
	}
}

// beside answers the shard of the leaf whose shards begin at those cuts.
func beside(cuts []int, leaf int) int {
	s := 0
	for cuts[s+1] <= leaf {
		s++
	}
	return s
}

// Each shard's first leaf and its last one are looked at, and the ones beside them, which are
// of another shard.
func TestOfAtTheEndsOfEachShard(t *testing.T) { // P12.1
	for many := 1; many <= leaves; many += 1 + many/64 {
		for shards := 1; shards <= 64; shards++ {
			l := cuts(many, shards)
			for _, cut := range l {
				for leaf := max(0, cut-2); leaf <= min(cut+1, many-1); leaf++ {
					if s, want := Of(greatest(many), shards, leaf), beside(l, leaf); s != want {
						t.Fatalf("%d leaves, %d shards: the leaf %d is of %d, not of %d", many, shards, leaf, s, want)
					}
				}
			}
		}
	}
}

func TestOfTellsTheOneWhoseRangeHasTheLeaf(t *testing.T) { // P12.1
	some(func(n, _, shards int) {
		for s := range shards {
			from, to := Range(n, shards, s)
			for leaf := from; leaf < to; leaf++ {
				if got := Of(n, shards, leaf); got != s {
					t.Fatalf("%d addresses, %d shards: the leaf %d is of %d, not of %d", n, shards, leaf, got, s)
				}
			}
		}
	})
}

func TestEachLeafIsOfJustOneShard(t *testing.T) { // P12.3
	some(func(n, many, shards int) {
		times := make([]int, many)
		for s := range shards {
			from, to := Range(n, shards, s)
			for leaf := from; leaf < to; leaf++ {
				if leaf < 0 || leaf >= many {
					t.Fatalf("%d addresses, %d shards: %d has the leaf %d", n, shards, s, leaf)
				}
				times[leaf]++
			}
		}
		for leaf, of := range times {
			if of != 1 {
				t.Fatalf("%d addresses, %d shards: the leaf %d is of %d shards", n, shards, leaf, of)
			}
		}
	})
}

func TestRangesFollowOneAnother(t *testing.T) { // P12.3
	each(func(many, shards int) {
		next := 0
		for s := range shards {
			from, to := Range(greatest(many), shards, s)
			if from != next || to < from {
				t.Fatalf("%d leaves, %d shards: %d has %d to %d, behind %d", many, shards, s, from, to, next)
			}
			next = to
		}
		if next != many {
			t.Fatalf("%d leaves, %d shards: the last one ends at %d", many, shards, next)
		}
	})
}

func TestShardsDifferByOneLeafAtMost(t *testing.T) { // P12.3
	each(func(many, shards int) {
		low, high := many, 0
		for s := range shards {
			from, to := Range(least(many), shards, s)
			low, high = min(low, to-from), max(high, to-from)
		}
		if high-low > 1 || low < 0 || (many%shards == 0) != (high == low) {
			t.Fatalf("%d leaves, %d shards: they have %d to %d", many, shards, low, high)
		}
	})
}

func TestAsManyShardsAsLeavesAndThereabouts(t *testing.T) { // P12.3
	for many := 1; many <= 63; many++ {
		for s := range many {
			if from, to := Range(greatest(many), many, s); from != s || to != s+1 || Of(greatest(many), many, s) != s {
				t.Errorf("%d leaves, as many shards: %d has %d to %d", many, s, from, to)
			}
		}
		if from, to := Range(greatest(many), many+1, 0); from != 0 || to != 0 {
			t.Errorf("%d leaves, one shard more: the first one has %d to %d", many, from, to)
		}
		if from, to := Range(greatest(many+1), many, many-1); from != many-1 || to != many+1 {
			t.Errorf("%d shards, one leaf more: the last one has %d to %d", many, from, to)
		}
	}
}

func TestHomeByHand(t *testing.T) { // P12.2
	for _, x := range []struct{ shards, worker, home int }{
		{1, 0, 0}, {1, 1, 0}, {1, 63, 0}, {1, far, 0}, {2, 0, 0}, {2, 1, 1}, {2, 2, 0}, {2, 3, 1}, {2, far, 1}, {2, far - 1, 0},
		{3, 0, 0}, {3, 2, 2}, {3, 3, 0}, {3, 4, 1}, {3, 63, 0}, {3, far, 1}, {5, 7, 2}, {5, far, 2}, {7, far, 1}, {10, far, 7},
		{63, 0, 0}, {63, 62, 62}, {63, 63, 0}, {63, far, 1}, {64, 0, 0}, {64, 63, 63}, {64, 64, 0}, {64, 65, 1}, {64, far, 63}, {64, far - 63, 0},
	} {
		if home := Home(x.shards, x.worker); home != x.home {
			t.Errorf("%d shards: the home of %d is %d, not %d", x.shards, x.worker, home, x.home)
		}
	}
}

// Workers take turns at the shards: the first one behind the last shard's begins again.
func TestHomeOfEachWorker(t *testing.T) { // P12.2
	for shards := 1; shards <= 64; shards++ {
		home := 0
		for worker := range 1000 {
			if got := Home(shards, worker); got != home {
				t.Fatalf("%d shards: the home of %d is %d, not %d", shards, worker, got, home)
			}
			if home++; home == shards {
				home = 0
			}
		}
	}
}

func TestFromByHand(t *testing.T) { // P12.2
	for _, x := range []struct{ shards, home, k, s int }{
		{1, 0, 0, 0}, {1, 0, 1, 0}, {1, 0, far, 0}, {2, 0, 0, 0}, {2, 0, 1, 1}, {2, 0, 2, 0}, {2, 1, 0, 1}, {2, 1, 1, 0}, {2, 1, 2, 1}, {2, 0, far, 1}, {2, 1, far, 0},
		{3, 0, 2, 2}, {3, 0, 3, 0}, {3, 1, 1, 2}, {3, 1, 2, 0}, {3, 2, 0, 2}, {3, 2, 1, 0}, {3, 2, 2, 1}, {3, 2, 3, 2}, {3, 2, 4, 0}, {3, 0, far, 1}, {3, 2, far, 0},
		{5, 3, 4, 2}, {10, 0, far, 7}, {10, 9, far, 6}, {63, 62, far, 0}, {63, 61, far, 62},
		{64, 0, 0, 0}, {64, 0, 63, 63}, {64, 0, 64, 0}, {64, 0, far, 63}, {64, 63, 0, 63}, {64, 63, 1, 0}, {64, 63, 63, 62}, {64, 63, 64, 63}, {64, 63, far, 62}, {64, 1, far, 0},
	} {
		if s := From(x.shards, x.home, x.k); s != x.s {
			t.Errorf("%d shards: from %d on the %d-th is %d, not %d", x.shards, x.home, x.k, s, x.s)
		}
	}
}

func TestFromOfEachHome(t *testing.T) { // P12.2
	for shards := 1; shards <= 64; shards++ {
		for home := range shards {
			s := home
			for k := range 200 {
				if got := From(shards, home, k); got != s {
					t.Fatalf("%d shards: from %d on the %d-th is %d, not %d", shards, home, k, got, s)
				}
				if s++; s == shards {
					s = 0
				}
			}
		}
	}
}

func TestFromTellsEachShardOnce(t *testing.T) { // P12.2
	for shards := 1; shards <= 64; shards++ {
		for home := range shards {
			for _, k := range []int{0, 1, shards - 1, shards, 1000, far - 2*shards, far - shards + 1} {
				told := make([]bool, shards)
				for more := range shards {
					s := From(shards, home, k+more)
					if s < 0 || s >= shards || told[s] {
						t.Fatalf("%d shards: from %d on the %d-th is %d", shards, home, k+more, s)
					}
					told[s] = true
				}
			}
		}
	}
}

func TestAnswersHangOnArgumentsAlone(t *testing.T) { // P12.1, P12.2
	for range 3 {
		from, to := Range(160, 3, 1)
		Range(65536, 64, 63)
		if s, home, next := Of(160, 3, 4), Home(3, 5), From(3, 2, 2); from != 1 || to != 3 || s != 2 || home != 2 || next != 1 {
			t.Error(from, to, s, home, next)
		}
	}
}

func TestNothingPanics(t *testing.T) { // P1
	odd := []int{
		0, 1, -1, 2, -2, 3, 31, 32, 33, 63, 64, 65, -63, -64, -65, 2047, 2048, 2049, 65535, 65536, 65537, -65536, far, far - 1, -far,
		math.MaxInt, math.MaxInt - 1, math.MaxInt / 64, math.MinInt, math.MinInt + 1, math.MinInt / 64,
	}
	for _, a := range odd {
		for _, b := range odd {
			Home(a, b)
			for _, c := range odd {
				Range(a, b, c)
				Of(a, b, c)
				From(a, b, c)
			}
		}
	}
}

package model

import (
	"math"
	"slices"
	"testing"

	"lodger/api"
	"lodger/word"
)

// of answers a configuration of that prefix and those reserved offsets.
func of(prefix int, held ...int) api.Conf {
	return api.Conf{Block: api.Block{Base: 0x0a010000, Prefix: prefix}, Held: held, Shards: 2, Workers: 3, Queue: 4, Tries: 5}
}

// at answers that configuration with another Base.
func at(base uint32, prefix int, held ...int) api.Conf {
	c := of(prefix, held...)
	c.Block.Base = base
	return c
}

// upTo are the numbers from 0 on, below n.
func upTo(n int) []int {
	l := make([]int, n)
	for i := range l {
		l[i] = i
	}
	return l
}

// shape is a configuration with what it has, written down by hand: how many addresses,
// leaves and cells.
type shape struct {
	c                api.Conf
	n, leaves, cells int
}

func shapes() []shape {
	return []shape{
		{of(32), 1, 1, 3},
		{of(32, 0), 1, 1, 3},
		{of(31, 1), 2, 1, 3},
		{of(30, 0, 3), 4, 1, 3},
		{of(28), 16, 1, 3},
		{of(27, 0, 31), 32, 1, 3},
		{of(26, 0, 31, 32, 40, 63), 64, 2, 4},
		{of(26, upTo(64)...), 64, 2, 4},
		{of(24, 7), 256, 8, 10},
		{of(20, 0, 2047, 2048, 4095), 4096, 128, 131},
		{of(16), 65536, 2048, 2081},
		{at(0xffff0000, 16, 0, 1, 32, 65534), 65536, 2048, 2081},
		{at(0xffffffff, 32), 1, 1, 3},
	}
}

// usable are the offsets of the shape that aren't reserved.
func (s shape) usable() []int {
	return slices.DeleteFunc(upTo(s.n), func(off int) bool { return slices.Contains(s.c.Held, off) })
}

// words are as many cells as there are, of a fixed rule, each another word.
func (s shape) words(w uint64) []uint64 {
	l := make([]uint64, s.cells)
	for i := range l {
		w = w*6364136223846793005 + 1442695040888963407
		l[i] = w ^ w>>31
	}
	return l
}

// bit tells whether the bit of the word is set, by division alone, so that the tests hold the
// package against something else.
func bit(w uint64, at int) bool {
	for range at {
		w /= 2
	}
	return w%2 == 1
}

// set is what the cells of the shape tell, worked out offset by offset.
func (s shape) set(l []uint64) []int {
	return slices.DeleteFunc(s.usable(), func(off int) bool { return !bit(l[off/32], off%32) })
}

// roomy is the list with room behind its length, all of it the number x.
func roomy[T any](l []T, x T) []T {
	r := make([]T, 0, len(l)+3)
	r = append(r, l...)
	for range 3 {
		r = append(r, x)
	}
	return r[:len(l)]
}

// whole is the list with the room behind its length, copied.
func whole[T any](l []T) []T { return slices.Clone(l[:cap(l)]) }

// share tells whether a write into one list, or into the room behind it, is seen in the other
// one, or in its room. The numbers are put back.
func share[T comparable](a, b []T, x T) bool {
	a, b = a[:cap(a)], b[:cap(b)]
	for i := range a {
		was, before := a[i], slices.Clone(b)
		a[i] = x
		seen := !slices.Equal(before, b)
		a[i] = was
		if seen {
			return true
		}
	}
	return false
}

// sets are sets of all kinds: none, one number, several, such as no configuration may have.
func sets() [][]int {
	return [][]int{
		nil, {}, {0}, {5}, {-1}, {math.MinInt}, {math.MaxInt}, {1, 5}, {1, 5, 9}, {0, 1, 2, 3},
		{-7, -3, 0, 4}, {math.MinInt, 0, math.MaxInt}, {30, 31, 32, 33, 63, 64}, {65534, 65535, 65536, 1 << 40}, upTo(100),
	}
}

// numbers are those that are put into the sets and taken away.
func numbers() []int {
	l := []int{math.MinInt, math.MinInt + 1, -65536, -8, -7, -3, -1, 99, 100, 65533, 65534, 65535, 65536, 1 << 39, 1 << 40, 1<<40 + 1, math.MaxInt - 1, math.MaxInt}
	return append(l, upTo(66)...)
}

func TestMayByHand(t *testing.T) { // P9.1
	c := of(26, 0, 40, 63)
	for i, x := range []struct {
		c    api.Conf
		s    []int
		want bool
	}{
		{c, nil, true}, {c, []int{}, true}, {c, []int{1}, true}, {c, []int{1, 2, 62}, true}, {c, []int{39, 41}, true},
		{c, []int{0}, false}, {c, []int{40}, false}, {c, []int{63}, false}, {c, []int{39, 40, 41}, false}, {c, []int{1, 63}, false},
		{c, []int{64}, false}, {c, []int{1, 64}, false}, {c, []int{math.MaxInt}, false}, {c, []int{1, math.MaxInt}, false},
		{c, []int{-1}, false}, {c, []int{-1, 1}, false}, {c, []int{math.MinInt}, false}, {c, []int{math.MinInt, 5}, false},
		{c, []int{2, 2}, false}, {c, []int{1, 2, 2}, false}, {c, []int{3, 2}, false}, {c, []int{1, 5, 4}, false}, {c, []int{5, 1, 9}, false}, {c, []int{62, 1}, false},
		{of(32), nil, true}, {of(32), []int{0}, true}, {of(32), []int{1}, false}, {of(32), []int{-1}, false}, {of(32), []int{0, 0}, false},
		{of(32, 0), nil, true}, {of(32, 0), []int{0}, false},
		{of(30, 0, 1, 2, 3), nil, true}, {of(30, 0, 1, 2, 3), []int{2}, false},
		{of(16), []int{0, 65535}, true}, {of(16), []int{0, 65536}, false}, {of(16), upTo(65536), true}, {of(16), upTo(65537), false},
		{of(16, 65535), upTo(65536), false}, {of(16, 65535), upTo(65535), true},
		{at(0xffff0000, 16), []int{0, 65535}, true}, {at(0xffff0000, 16), []int{65536}, false},
	} {
		if May(x.c, x.s) != x.want {
			t.Errorf("%d: not %v", i, x.want)
		}
	}
}

// Each list of one and of two numbers at the edges of each block is held against the words of
// the chapter.
func TestMayOfShapes(t *testing.T) { // P9.1
	for i, s := range shapes() {
		usable := s.usable()
		if !May(s.c, usable) || !May(s.c, nil) {
			t.Errorf("shape %d: all, or none", i)
		}
		some := append([]int{-1, 0, 1, 31, 32, s.n / 2, s.n - 2, s.n - 1, s.n, s.n + 1}, s.c.Held...)
		for _, a := range some {
			_, ok := slices.BinarySearch(usable, a)
			if May(s.c, []int{a}) != ok {
				t.Errorf("shape %d, %d: not %v", i, a, ok)
			}
			for _, b := range some {
				_, second := slices.BinarySearch(usable, b)
				if want := ok && second && a < b; May(s.c, []int{a, b}) != want {
					t.Errorf("shape %d, %d and %d: not %v", i, a, b, want)
				}
			}
		}
	}
}

func TestHas(t *testing.T) { // P9.1
	for _, s := range sets() {
		for _, off := range append(numbers(), s...) {
			if want := slices.Contains(s, off); Has(s, off) != want {
				t.Errorf("%v, %d: not %v", s, off, want)
			}
		}
	}
}

func TestWithAndWithoutByHand(t *testing.T) { // P9.1
	for _, x := range []struct {
		s             []int
		off           int
		with, without []int
	}{
		{[]int{1, 5}, 3, []int{1, 3, 5}, []int{1, 5}}, // the chapter's example
		{nil, 3, []int{3}, nil},
		{[]int{}, 3, []int{3}, nil},
		{nil, 0, []int{0}, nil},
		{nil, -1, []int{-1}, nil},
		{[]int{3}, 3, []int{3}, nil},
		{[]int{3}, 2, []int{2, 3}, []int{3}},
		{[]int{3}, 4, []int{3, 4}, []int{3}},
		{[]int{1, 5, 9}, 0, []int{0, 1, 5, 9}, []int{1, 5, 9}},
		{[]int{1, 5, 9}, 1, []int{1, 5, 9}, []int{5, 9}},
		{[]int{1, 5, 9}, 5, []int{1, 5, 9}, []int{1, 9}},
		{[]int{1, 5, 9}, 9, []int{1, 5, 9}, []int{1, 5}},
		{[]int{1, 5, 9}, 7, []int{1, 5, 7, 9}, []int{1, 5, 9}},
		{[]int{1, 5, 9}, 10, []int{1, 5, 9, 10}, []int{1, 5, 9}},
		{[]int{1, 5, 9}, -4, []int{-4, 1, 5, 9}, []int{1, 5, 9}},
		{[]int{1, 5, 9}, 1 << 40, []int{1, 5, 9, 1 << 40}, []int{1, 5, 9}},
		{[]int{-4, 1}, -4, []int{-4, 1}, []int{1}},
		{[]int{1, 65536}, 65536, []int{1, 65536}, []int{1}},
		{[]int{0}, math.MinInt, []int{math.MinInt, 0}, []int{0}},
		{[]int{0}, math.MaxInt, []int{0, math.MaxInt}, []int{0}},
		{[]int{math.MinInt, math.MaxInt}, math.MinInt, []int{math.MinInt, math.MaxInt}, []int{math.MaxInt}},
		{[]int{math.MinInt, math.MaxInt}, math.MaxInt, []int{math.MinInt, math.MaxInt}, []int{math.MinInt}},
	} {
		if got := With(x.s, x.off); !slices.Equal(got, x.with) {
			t.Errorf("%v with %d: %v", x.s, x.off, got)
		}
		if got := Without(x.s, x.off); !slices.Equal(got, x.without) {
			t.Errorf("%v without %d: %v", x.s, x.off, got)
		}
	}
}

// meant is the set with the number, or without it, by a map and a sort.
func meant(s []int, off int, in bool) []int {
	m := map[int]bool{}
	for _, x := range s {
		m[x] = true
	}
	m[off] = in
	var l []int
	for x, is := range m {
		if is {
			l = append(l, x)
		}
	}
	slices.Sort(l)
	return l
}

func TestWithAndWithout(t *testing.T) { // P9.1
	for _, s := range sets() {
		for _, off := range append(numbers(), s...) {
			if got, want := With(s, off), meant(s, off, true); !slices.Equal(got, want) {
				t.Errorf("%v with %d: %v", s, off, got)
			}
			if got, want := Without(s, off), meant(s, off, false); !slices.Equal(got, want) {
				t.Errorf("%v without %d: %v", s, off, got)
			}
		}
	}
}

func TestFull(t *testing.T) { // P9.2
	for i, s := range shapes() {
		all := s.usable()
		if !Full(s.c, all) {
			t.Errorf("shape %d: all aren't all", i)
		}
		if Full(s.c, nil) != (len(all) == 0) || Full(s.c, []int{}) != (len(all) == 0) {
			t.Errorf("shape %d: none", i)
		}
		for at := range all {
			if at > 70 && at < len(all)-70 {
				continue
			}
			if Full(s.c, slices.Delete(slices.Clone(all), at, at+1)) {
				t.Errorf("shape %d: full without %d", i, all[at])
			}
		}
	}
}

func TestFullByHand(t *testing.T) { // P9.2
	for i, x := range []struct {
		c    api.Conf
		s    []int
		want bool
	}{
		{of(30, 0, 3), []int{1, 2}, true}, {of(30, 0, 3), []int{1}, false}, {of(30, 0, 3), []int{2}, false}, {of(30, 0, 3), nil, false},
		{of(30), []int{0, 1, 2, 3}, true}, {of(30), []int{0, 1, 2}, false}, {of(30), []int{1, 2, 3}, false},
		{of(30, 0, 1, 2, 3), nil, true}, {of(30, 0, 1, 2, 3), []int{}, true},
		{of(32), nil, false}, {of(32), []int{0}, true}, {of(32, 0), nil, true},
	} {
		if Full(x.c, x.s) != x.want {
			t.Errorf("%d: not %v", i, x.want)
		}
	}
}

func TestOfByHand(t *testing.T) { // P9.2
	all := uint64(math.MaxUint64)
	for i, x := range []struct {
		c    api.Conf
		l    []uint64
		want []int
	}{
		{of(32), []uint64{0, all, all}, nil},
		{of(32), []uint64{1, 0, 0}, []int{0}},
		{of(32), []uint64{0xfffffffe, 0, 0}, nil},
		{of(32), []uint64{all, 0, 0}, []int{0}},
		{of(32, 0), []uint64{all, all, all}, nil},
		{of(30, 0, 3), []uint64{0xfffffff9, 0, 0}, nil},
		{of(30, 0, 3), []uint64{0x3_fffffffb, 0, 0}, []int{1}},
		{of(30, 0, 3), []uint64{all, 0, 0}, []int{1, 2}},
		{of(30, 0, 3), []uint64{0b0010, 0, 0}, []int{1}},
		{of(28), []uint64{0xffff_ffff_ffff_8001, all, all}, []int{0, 15}},
		{of(27), []uint64{0xffffffff_80000001, 0, 0}, []int{0, 31}},
		{of(27, 31), []uint64{0xffffffff_80000001, 0, 0}, []int{0}},
		{of(26), []uint64{0xffffffff_00000000, 0xffffffff_00000000, all, all}, nil},
		{of(26), []uint64{1 << 31, 1, all, all}, []int{31, 32}},
		{of(26, 31), []uint64{1 << 31, 1 | 1<<31, 0, 0}, []int{32, 63}},
		{of(26, 32, 63), []uint64{1 << 31, 1 | 1<<31 | 1<<30, 0, 0}, []int{31, 62}},
		{at(0xfffffffc, 30, 3), []uint64{all, 0, 0}, []int{0, 1, 2}},
	} {
		if got := Of(x.c, x.l); !slices.Equal(got, x.want) {
			t.Errorf("%d: %v, not %v", i, got, x.want)
		}
	}
}

// Whatever stands in the cells, the set is of the leaves' lowest bits alone.
func TestOfShapes(t *testing.T) { // P9.2
	for i, s := range shapes() {
		if got := Of(s.c, make([]uint64, s.cells)); len(got) != 0 {
			t.Errorf("shape %d, nothing set: %v", i, got)
		}
		if got := Of(s.c, word.Cells(s.c)); len(got) != 0 {
			t.Errorf("shape %d, the first cells: %v", i, got)
		}
		if got := Of(s.c, slices.Repeat([]uint64{math.MaxUint64}, s.cells)); !slices.Equal(got, s.usable()) || !Full(s.c, got) {
			t.Errorf("shape %d, all set: %d", i, len(got))
		}
		for seed := range uint64(5) {
			l := s.words(seed)
			got := Of(s.c, l)
			if !slices.Equal(got, s.set(l)) || !May(s.c, got) {
				t.Errorf("shape %d, seed %d: %d numbers", i, seed, len(got))
			}
		}
	}
}

func TestAddrsByHand(t *testing.T) { // P9.2
	for i, x := range []struct {
		c    api.Conf
		s    []int
		want []uint32
	}{
		{of(24), nil, nil}, {of(24), []int{}, nil},
		{of(24), []int{0, 1, 255}, []uint32{0x0a010000, 0x0a010001, 0x0a0100ff}},
		{of(26, 0, 40, 63), []int{1, 62}, []uint32{0x0a010001, 0x0a01003e}},
		{at(0x0a000004, 30), []int{3}, []uint32{0x0a000007}},
		{at(0, 16), []int{0, 65535}, []uint32{0, 65535}},
		{at(0xffff0000, 16), []int{0, 1, 65534, 65535}, []uint32{0xffff0000, 0xffff0001, 0xfffffffe, 0xffffffff}},
		{at(0xffffffff, 32), []int{0}, []uint32{0xffffffff}},
		{at(0x80000000, 31), []int{0, 1}, []uint32{0x80000000, 0x80000001}},
	} {
		if got := Addrs(x.c, x.s); !slices.Equal(got, x.want) {
			t.Errorf("%d: %x, not %x", i, got, x.want)
		}
	}
}

func TestAddrsOfShapes(t *testing.T) { // P9.2
	for i, s := range shapes() {
		all := s.usable()
		got := Addrs(s.c, all)
		if len(got) != len(all) || !slices.IsSorted(got) {
			t.Fatalf("shape %d: %d addresses of %d", i, len(got), len(all))
		}
		for at, a := range got {
			if int(a)-int(s.c.Block.Base) != all[at] {
				t.Errorf("shape %d, %d: %x", i, all[at], a)
			}
		}
	}
}

// Bit by bit at the leaves' edges, from cells of all kinds, and from all used to none.
func TestAClaimAndADropMakeTheSet(t *testing.T) { // P9.3
	for i, s := range shapes() {
		for seed := range uint64(3) {
			l := s.words(seed)
			for _, off := range s.usable() {
				if off > 65 && off < s.n-33 && off%4093 != 0 {
					continue
				}
				changed, set := slices.Clone(l), Of(s.c, l)
				if bit(l[off/32], off%32) {
					changed[off/32] = word.Drop(l[off/32], off%32)
					set = Without(set, off)
				} else {
					changed[off/32] = word.Claim(l[off/32], off%32)
					set = With(set, off)
				}
				if got := Of(s.c, changed); !slices.Equal(got, set) {
					t.Fatalf("shape %d, seed %d, the offset %d", i, seed, off)
				}
			}
		}
	}
}

// From the first cells on all offsets are claimed, then all are dropped, in another order.
func TestClaimsAndDropsAlong(t *testing.T) { // P9.3
	for i, s := range shapes() {
		if s.n > 256 {
			continue
		}
		l, set, all := word.Cells(s.c), []int(nil), s.usable()
		for at := range all {
			off := all[(at*37+5)%len(all)]
			if slices.Contains(set, off) {
				continue
			}
			l[off/32] = word.Claim(l[off/32], off%32)
			set = With(set, off)
			if !slices.Equal(Of(s.c, l), set) || !May(s.c, set) || Full(s.c, set) != (len(set) == len(all)) {
				t.Fatalf("shape %d, the offset %d claimed: %v", i, off, set)
			}
		}
		for len(set) > 0 {
			off := set[len(set)/2]
			l[off/32] = word.Drop(l[off/32], off%32)
			set = Without(set, off)
			if !slices.Equal(Of(s.c, l), set) || !May(s.c, set) || Full(s.c, set) {
				t.Fatalf("shape %d, the offset %d dropped: %v", i, off, set)
			}
		}
	}
}

func TestSetsHandedInStay(t *testing.T) { // P9.4
	c := of(26, 0, 40)
	for _, given := range sets() {
		for _, off := range append(numbers(), given...) {
			s := roomy(given, -99)
			before := whole(s)
			May(c, s)
			Has(s, off)
			With(s, off)
			Without(s, off)
			Full(c, s)
			Addrs(c, s)
			if !slices.Equal(whole(s), before) {
				t.Fatalf("%v, %d: %v", given, off, whole(s))
			}
		}
	}
}

func TestConfigurationsAndCellsHandedInStay(t *testing.T) { // P9.4
	for i, s := range shapes() {
		s.c.Held = roomy(s.c.Held, 1)
		l := roomy(s.words(7), math.MaxUint64)
		held, cells := whole(s.c.Held), whole(l)
		set := Of(s.c, l)
		May(s.c, set)
		Full(s.c, set)
		Addrs(s.c, set)
		if !slices.Equal(whole(s.c.Held), held) || !slices.Equal(whole(l), cells) {
			t.Errorf("shape %d is changed", i)
		}
		if share(set, s.c.Held, -5) {
			t.Errorf("shape %d: the set is Held's", i)
		}
	}
}

// A set that is another one is new memory: nothing that is written into it, or behind it, is
// seen in the one that was handed in, or in another answer.
func TestChangedSetsAreNew(t *testing.T) { // P9.4
	for _, given := range sets() {
		if len(given) > 10 {
			given = given[:10]
		}
		s := roomy(given, -99)
		var answers [][]int
		for _, off := range append([]int{-8, 2, 7, 31, 200}, given...) {
			if slices.Contains(given, off) {
				answers = append(answers, Without(s, off), Without(s, off))
			} else {
				answers = append(answers, With(s, off), With(s, off))
			}
		}
		for i, a := range answers {
			if share(a, s, -5) {
				t.Errorf("%v, the answer %v: shared", given, a)
			}
			for _, b := range answers[:i] {
				if share(a, b, -5) {
					t.Errorf("%v, the answers %v and %v: shared", given, a, b)
				}
			}
		}
	}
}

func TestAnswersOfCellsAndSetsAreNew(t *testing.T) { // P9.4
	for i, s := range shapes() {
		if s.n > 256 {
			continue
		}
		l := s.words(3)
		a, b := Of(s.c, l), Of(s.c, l)
		if share(a, b, -5) {
			t.Errorf("shape %d: sets are shared", i)
		}
		if x, y := Addrs(s.c, a), Addrs(s.c, a); share(x, y, 5) {
			t.Errorf("shape %d: addresses are shared", i)
		}
	}
}

// The same is answered a second time, and whatever room there is.
func TestAnswersHangOnArgumentsAlone(t *testing.T) { // P9.4
	s := []int{1, 5, 9}
	first := With(s, 7)
	With(s, 6)
	Without(first, 7)
	Without(first, 9)
	if !slices.Equal(first, []int{1, 5, 7, 9}) || !slices.Equal(With(roomy(s, 0), 7), first) || !slices.Equal(Without(roomy(s, 0), 9), []int{1, 5}) {
		t.Error(first)
	}
}

// Nothing is promised of these but that each call ends, and none panics.
func TestNothingPanics(t *testing.T) { // P1
	confs := []api.Conf{{}, of(-1), of(33), of(math.MinInt), of(math.MaxInt), of(15), of(30, -1, 4, math.MinInt, math.MaxInt), of(16, upTo(100)...), at(0xffffffff, 16)}
	for _, s := range shapes() {
		confs = append(confs, s.c)
	}
	lists := append(sets(), []int{3, 2, 1}, []int{2, 2}, []int{math.MaxInt, math.MinInt})
	for _, c := range confs {
		for _, l := range [][]uint64{nil, {}, {math.MaxUint64}, {1, 2, 3}, make([]uint64, 3000)} {
			Of(c, l)
		}
		for _, s := range lists {
			May(c, s)
			Full(c, s)
			Addrs(c, s)
		}
	}
	for _, s := range lists {
		for _, off := range numbers() {
			Has(s, off)
			With(s, off)
			Without(s, off)
		}
	}
}

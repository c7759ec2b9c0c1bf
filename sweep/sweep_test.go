package sweep

import (
	"math"
	"reflect"
	"slices"
	"testing"

	"lodger/api"
	"lodger/block"
	"lodger/word"
)

// low are a leaf's bits, all set; once is one change of it.
const (
	low  = uint64(1)<<32 - 1
	once = uint64(1) << 32
)

// base is where the tests' blocks begin, if nothing else is said.
const base = uint32(0x0a010000)

// of answers a configuration of that prefix, of so many tries, and those reserved offsets.
func of(prefix, tries int, held ...int) api.Conf {
	return api.Conf{Block: api.Block{Base: base, Prefix: prefix}, Held: held, Shards: 2, Workers: 3, Queue: 4, Tries: tries}
}

// shape is what a block of a prefix has, written down by hand.
type shape struct{ prefix, many, leaves, cells int }

func shapes() []shape {
	return []shape{
		{32, 1, 1, 3}, {31, 2, 1, 3}, {30, 4, 1, 3}, {28, 16, 1, 3}, {27, 32, 1, 3}, {26, 64, 2, 4},
		{24, 256, 8, 10}, {21, 2048, 64, 66}, {20, 4096, 128, 131}, {16, 65536, 2048, 2081},
	}
}

// some are the first and the last leaf, the second and the last but one, and one in the middle.
func (s shape) some() []int {
	var l []int
	for leaf := range s.leaves {
		if leaf < 2 || leaf > s.leaves-3 || leaf == s.leaves/2 {
			l = append(l, leaf)
		}
	}
	return l
}

// alike are so many words, all the same.
func alike(n int, w uint64) []uint64 { return slices.Repeat([]uint64{w}, n) }

// random are words of a fixed rule, each another one.
func random(n int, seed uint64) []uint64 {
	l := make([]uint64, n)
	for i := range l {
		seed = seed*6364136223846793005 + 1442695040888963407
		l[i] = seed ^ seed>>29
	}
	return l
}

// over are as many cells as there are, with those leaves, and with tops and a root of a fixed
// rule, which say what they will.
func (s shape) over(leaves []uint64) []uint64 {
	return append(slices.Clone(leaves), random(s.cells-s.leaves, 9)...)
}

// digits writes w as 64 bools, the lowest bit first, by division alone, so that the tests
// hold the package's words against something else.
func digits(w uint64) [64]bool {
	var d [64]bool
	for i := range d {
		d[i] = w%2 == 1
		w /= 2
	}
	return d
}

// with is w whose bit is so.
func with(w uint64, bit int, is bool) uint64 {
	d := digits(w)
	d[bit] = is
	w = 0
	for i := range d {
		w *= 2
		if d[63-i] {
			w++
		}
	}
	return w
}

// least is the least of the lowest 32 bits that isn't set, or 32.
func least(w uint64) int {
	d := digits(w)
	for i := range 32 {
		if !d[i] {
			return i
		}
	}
	return 32
}

// words are leaves' words: changed never, often, and as often as can be; empty, full, with
// one bit left, with one set, with the first or the last ones set.
func words() []uint64 {
	var l []uint64
	for _, changed := range []uint64{0, 1, 1 << 31, 1<<32 - 1} {
		for _, bits := range []uint64{0, low, 0x55555555, 0xaaaaaaaa, 0x0000ffff, 0xffff0000, 0x7ffffffe} {
			l = append(l, changed*once+bits)
		}
		for bit := range 32 {
			l = append(l, changed*once+with(low, bit, false), changed*once+with(0, bit, true))
		}
	}
	return l
}

// words are, of a block of two leaves, all of these words, of others some.
func (s shape) words() []uint64 {
	if s.prefix == 26 {
		return words()
	}
	return []uint64{0, 1, low, low - 1, low >> 1, 5*once + 0x55555555, 1<<63 + low - 1, math.MaxUint64, math.MaxUint64 - 1<<31}
}

// others are words that aren't w: by one of the lowest bits, by the changes alone, by both.
func others(w uint64) []uint64 {
	return []uint64{
		with(w, 0, !digits(w)[0]), with(w, 17, !digits(w)[17]), with(w, 31, !digits(w)[31]),
		with(w, 32, !digits(w)[32]), with(w, 63, !digits(w)[63]), w + once, w + 2*once, w - once, w ^ low, ^w,
	}
}

// kinds are those that sweep.
func kinds() []int { return []int{api.Grant, api.Snapshot} }

// allKinds and allPhases are those that there are, and some that there aren't.
func allKinds() []int { return []int{math.MinInt, -1, 0, 1, 2, 3, 4, 5, 6, 7, 8, 257, math.MaxInt} }
func allPhases() []int {
	return []int{math.MinInt, -1, 0, 1, 2, 3, 4, 5, 6, 7, 8, 9, 10, math.MaxInt}
}

// roomy is l with such a one behind its length, so that a write there shows.
func roomy[T any](room T, l ...T) []T { return append(slices.Clone(l), room, room)[:len(l)] }

// whole is an operation none of whose fields is zero, but those that are handed in, with lists
// that have room behind them.
func whole(kind, phase, at, tries int, seen ...uint64) api.Op {
	return api.Op{
		Ask:    api.Ask{Kind: kind, Addr: 0x0a010003, Addrs: roomy(77, uint32(0x0a010005), 0x0a010006)},
		Answer: api.Answer{Err: api.ErrBusy, Addr: 0x0a010007, Used: true, Addrs: roomy(77, uint32(4), 5), Errs: roomy(api.ErrBusy, api.ErrFree, api.OK)},
		Phase:  phase, Shard: 1, Sought: 2, Leaf: 1234, Bit: 17, Word: 99, Full: true,
		Seen: roomy(77, seen...), At: at, Tries: tries, Item: 6, Stamp: 8,
	}
}

// rooms are the operation's lists with the room behind them.
func rooms(o api.Op) []any {
	return []any{o.Ask.Addrs[:4], o.Answer.Addrs[:4], o.Answer.Errs[:4], o.Seen[:len(o.Seen)+2]}
}

// same tells whether the operations are, nil and empty lists being one.
func same(a, b api.Op) bool {
	for _, o := range []*api.Op{&a, &b} {
		o.Ask.Addrs = append([]uint32(nil), o.Ask.Addrs...)
		o.Answer.Addrs = append([]uint32(nil), o.Answer.Addrs...)
		o.Answer.Errs = append([]api.Errno(nil), o.Answer.Errs...)
		o.Seen = append([]uint64(nil), o.Seen...)
	}
	return reflect.DeepEqual(a, b)
}

// lent are the addresses of the set of those leaves, address by address.
func (s shape) lent(c api.Conf, leaves []uint64) []uint32 {
	var l []uint32
	for leaf, w := range leaves {
		d := digits(w)
		for bit := range 32 {
			if off := 32*leaf + bit; off < s.many && d[bit] && !slices.Contains(c.Held, off) {
				l = append(l, c.Block.Base+uint32(off))
			}
		}
	}
	return l
}

// meant is what a step makes, from the chapter's words.
func (s shape) meant(c api.Conf, l []uint64, o api.Op) (api.Op, bool) {
	w := l[o.At]
	if o.Phase == api.PhFirst {
		if bit := least(w); bit < 32 && o.Ask.Kind == 1 {
			o.Leaf, o.Word, o.Bit, o.Phase, o.At, o.Seen = o.At, w, bit, api.PhClaim, 0, nil
			return o, false
		}
		o.Seen = append(slices.Clone(o.Seen), w)
		if o.At++; o.At == s.leaves {
			o.Phase, o.At = api.PhAgain, 0
		}
		return o, false
	}
	if w != o.Seen[o.At] {
		o.At, o.Seen, o.Phase = 0, nil, api.PhFirst
		if o.Ask.Kind == 1 {
			return o, false
		}
		if o.Tries++; o.Tries == c.Tries {
			o.Answer.Err, o.Phase = api.ErrRetry, api.PhDone
		}
		return o, o.Phase == api.PhDone
	}
	if o.At++; o.At < s.leaves {
		return o, false
	}
	if o.Ask.Kind == 1 {
		o.Answer.Err = api.ErrFull
	} else {
		o.Answer.Addrs = s.lent(c, o.Seen)
	}
	o.At, o.Seen, o.Phase = 0, nil, api.PhDone
	return o, true
}

// check holds a step against what is meant.
func check(t *testing.T, s shape, c api.Conf, l []uint64, o api.Op) {
	t.Helper()
	want, effect := s.meant(c, l, o)
	got, took := Step(c, l, o)
	if !same(got, want) || took != effect {
		t.Fatalf("/%d, %d tries, the leaf's word %#x, %+v:\n%+v, %v, not\n%+v, %v", s.prefix, c.Tries, l[o.At], o, got, took, want, effect)
	}
}

func TestTheConfigurationsMayBe(t *testing.T) {
	for _, s := range shapes() {
		for _, tries := range []int{1, 2, 8} {
			c := of(s.prefix, tries, 0)
			if !block.May(c) || block.Many(c.Block) != s.many || len(word.Cells(c)) != s.cells {
				t.Errorf("%v", c)
			}
		}
	}
}

// Of each Kind and Phase, with Seen of each length: Phase, At and Seen are a sweep's first
// ones, and all else stays.
func TestBegin(t *testing.T) { // P16.1
	for _, kind := range allKinds() {
		for _, phase := range allPhases() {
			for _, at := range []int{math.MinInt, -1, 0, 1, 5, math.MaxInt} {
				for _, seen := range [][]uint64{nil, {}, {7}, {low, 0, 3}, random(2048, 1)} {
					o := whole(kind, phase, at, at, seen...)
					if seen == nil {
						o.Seen = nil
					}
					want := o
					want.Phase, want.At, want.Seen = api.PhFirst, 0, nil
					if got := Begin(o); !same(got, want) || len(got.Seen) != 0 {
						t.Fatalf("%+v: %+v", o, got)
					}
				}
			}
		}
	}
	if got := Begin(api.Op{}); !same(got, api.Op{Phase: api.PhFirst}) {
		t.Errorf("%+v", got)
	}
}

// Of a block of two leaves: its cells are these, the top, the root.
func TestFirstByHand(t *testing.T) { // P16.1
	const full, again = 3*once + low, 4*once + low
	for i, x := range []struct {
		kind       int
		zero, one  uint64 // the leaves' words
		at         int
		seen       []uint64
		phase      int
		to         int // At
		leaf, bit  int // which were 9 and 8
		word       uint64
		seenBehind []uint64
	}{
		// a Grant finds a bit that isn't set
		{api.Grant, 0, full, 0, nil, api.PhClaim, 0, 0, 0, 0, nil},
		{api.Grant, 7*once + 0b1011, full, 0, nil, api.PhClaim, 0, 0, 2, 7*once + 0b1011, nil},
		{api.Grant, full, low >> 1, 1, []uint64{full}, api.PhClaim, 0, 1, 31, low >> 1, nil},
		{api.Grant, 0, math.MaxUint64 - 1, 1, []uint64{full}, api.PhClaim, 0, 1, 0, math.MaxUint64 - 1, nil},
		// it finds none
		{api.Grant, full, 0, 0, nil, api.PhFirst, 1, 9, 8, 7, []uint64{full}},
		{api.Grant, again, 0, 0, nil, api.PhFirst, 1, 9, 8, 7, []uint64{again}},
		{api.Grant, full, again, 1, []uint64{low}, api.PhAgain, 0, 9, 8, 7, []uint64{low, again}},
		{api.Grant, 0, math.MaxUint64, 1, []uint64{full}, api.PhAgain, 0, 9, 8, 7, []uint64{full, math.MaxUint64}},
		// a Snapshot takes whatever it reads
		{api.Snapshot, 0, full, 0, nil, api.PhFirst, 1, 9, 8, 7, []uint64{0}},
		{api.Snapshot, 7*once + 0b1011, full, 0, nil, api.PhFirst, 1, 9, 8, 7, []uint64{7*once + 0b1011}},
		{api.Snapshot, full, 0, 0, nil, api.PhFirst, 1, 9, 8, 7, []uint64{full}},
		{api.Snapshot, full, 5, 1, []uint64{0}, api.PhAgain, 0, 9, 8, 7, []uint64{0, 5}},
		{api.Snapshot, 0, again, 1, []uint64{full}, api.PhAgain, 0, 9, 8, 7, []uint64{full, again}},
	} {
		o := whole(x.kind, api.PhFirst, x.at, 2, x.seen...)
		o.Leaf, o.Bit, o.Word = 9, 8, 7
		want := o
		want.Phase, want.At, want.Leaf, want.Bit, want.Word, want.Seen = x.phase, x.to, x.leaf, x.bit, x.word, x.seenBehind
		got, effect := Step(of(26, 3), []uint64{x.zero, x.one, 5, 6}, o)
		if !same(got, want) || effect {
			t.Errorf("%d: %+v, %v, not %+v", i, got, effect, want)
		}
	}
}

// Of the same block, of three tries, the offsets 0 and 33 reserved.
func TestAgainByHand(t *testing.T) { // P16.1
	const full = 3*once + low
	for i, x := range []struct {
		kind, at, tries int
		zero, one       uint64 // the leaves' words
		seen            []uint64
		phase, to, then int // to is At, then Tries
		err             api.Errno
		addrs           []uint32
		effect          bool
	}{
		// the leaf is what Seen has
		{api.Grant, 0, 0, full, 0, []uint64{full, full}, api.PhAgain, 1, 0, api.OK, []uint32{4, 5}, false},
		{api.Grant, 1, 2, 0, full, []uint64{full, full}, api.PhDone, 0, 2, api.ErrFull, []uint32{4, 5}, true},
		{api.Snapshot, 0, 0, 6, 0, []uint64{6, 7}, api.PhAgain, 1, 0, api.OK, []uint32{4, 5}, false},
		{api.Snapshot, 0, 2, full, full, []uint64{full, 7}, api.PhAgain, 1, 2, api.OK, []uint32{4, 5}, false},
		{api.Snapshot, 1, 2, 0, 7, []uint64{6, 7}, api.PhDone, 0, 2, api.OK, []uint32{base + 1, base + 2, base + 32, base + 34}, true},
		{api.Snapshot, 1, 0, 6, 3, []uint64{1, 3}, api.PhDone, 0, 0, api.OK, []uint32{base + 32}, true},
		{api.Snapshot, 1, 0, 6, 2, []uint64{1, 2}, api.PhDone, 0, 0, api.OK, nil, true},
		{api.Snapshot, 1, 0, low, 9 << 32, []uint64{5 << 32, 9 << 32}, api.PhDone, 0, 0, api.OK, nil, true},
		// it isn't: by a bit, by its changes alone, by a bit alone
		{api.Grant, 0, 0, full + once - 1, full, []uint64{full, full}, api.PhFirst, 0, 0, api.OK, []uint32{4, 5}, false},
		{api.Grant, 1, 2, full, full + 2*once, []uint64{full, full}, api.PhFirst, 0, 2, api.OK, []uint32{4, 5}, false},
		{api.Grant, 1, 2, full, full - 1<<31, []uint64{full, full}, api.PhFirst, 0, 2, api.OK, []uint32{4, 5}, false},
		{api.Snapshot, 0, 0, once + 7, 7, []uint64{6, 7}, api.PhFirst, 0, 1, api.OK, []uint32{4, 5}, false},
		{api.Snapshot, 0, 1, 2*once + 6, 7, []uint64{6, 7}, api.PhFirst, 0, 2, api.OK, []uint32{4, 5}, false},
		{api.Snapshot, 0, 2, 7, 7, []uint64{6, 7}, api.PhDone, 0, 3, api.ErrRetry, []uint32{4, 5}, true},
		{api.Snapshot, 1, 0, 6, 3, []uint64{6, 7}, api.PhFirst, 0, 1, api.OK, []uint32{4, 5}, false},
		{api.Snapshot, 1, 1, 6, 7 + 1<<63, []uint64{6, 7}, api.PhFirst, 0, 2, api.OK, []uint32{4, 5}, false},
		{api.Snapshot, 1, 2, 6, 7 + 2*once, []uint64{6, 7}, api.PhDone, 0, 3, api.ErrRetry, []uint32{4, 5}, true},
	} {
		o := whole(x.kind, api.PhAgain, x.at, x.tries, x.seen...)
		o.Answer.Err = api.OK
		want := o
		want.Phase, want.At, want.Tries, want.Answer.Err, want.Answer.Addrs = x.phase, x.to, x.then, x.err, x.addrs
		if x.phase != api.PhAgain {
			want.Seen = nil
		}
		got, effect := Step(of(26, 3, 0, 33), []uint64{x.zero, x.one, 5, 6}, o)
		if !same(got, want) || effect != x.effect {
			t.Errorf("%d: %+v, %v, not %+v", i, got, effect, want)
		}
	}
}

// Each word at each leaf of interest, of each block, of each kind.
func TestFirstOfEachWord(t *testing.T) { // P16.1
	for _, s := range shapes() {
		for _, at := range s.some() {
			for _, w := range s.words() {
				for _, kind := range kinds() {
					l := s.over(random(s.leaves, uint64(at)))
					l[at] = w
					check(t, s, of(s.prefix, 5), l, whole(kind, api.PhFirst, at, 3, random(at, 4)...))
				}
			}
		}
	}
}

// Each word: where the leaf is it, and where it is another one; of each number of tries, at
// those that are of interest.
func TestAgainOfEachWord(t *testing.T) { // P16.1
	for _, s := range shapes() {
		for _, at := range s.some() {
			for i, w := range s.words() {
				seen := random(s.leaves, uint64(at))
				seen[at] = w
				l := s.over(seen)
				for _, now := range append(others(w), w) {
					l[at] = now
					for _, tries := range []int{1, 2, 3, 8}[i%4 : i%4+1] {
						for _, had := range slices.Compact([]int{0, max(0, tries-2), tries - 1}) {
							check(t, s, of(s.prefix, tries, 0), l, whole(api.Snapshot, api.PhAgain, at, had, seen...))
							check(t, s, of(s.prefix, tries, 0), l, whole(api.Grant, api.PhAgain, at, had, seen...))
						}
					}
				}
			}
		}
	}
}

// Where the leaf isn't what it was: a Snapshot's Tries, one more, is held against the
// configuration's; a Grant has none, and begins anew.
func TestEachOfTheTries(t *testing.T) { // P16.1
	for _, s := range shapes()[:7] {
		for tries := 1; tries <= 8; tries++ {
			for had := range tries {
				for _, at := range s.some() {
					seen := alike(s.leaves, low)
					l := s.over(seen)
					l[at] += once
					c := of(s.prefix, tries)
					got, effect := Step(c, l, whole(api.Snapshot, api.PhAgain, at, had, seen...))
					want := whole(api.Snapshot, api.PhFirst, 0, had+1)
					if had == tries-1 {
						want.Phase, want.Answer.Err = api.PhDone, api.ErrRetry
					}
					if !same(got, want) || effect != (had == tries-1) {
						t.Fatalf("/%d, %d of %d tries: %+v, %v", s.prefix, had, tries, got, effect)
					}
					got, effect = Step(c, l, whole(api.Grant, api.PhAgain, at, had, seen...))
					if !same(got, whole(api.Grant, api.PhFirst, 0, had)) || effect {
						t.Fatalf("/%d, a Grant, %d of %d tries: %+v, %v", s.prefix, had, tries, got, effect)
					}
				}
			}
		}
	}
}

// A step of the second collect looks at its own leaf alone: not at those ahead of it, nor at
// those behind it, nor at tops and the root.
func TestAStepReadsOneLeaf(t *testing.T) { // P16.1
	for _, s := range shapes() {
		for _, at := range s.some() {
			for _, kind := range kinds() {
				for _, phase := range []int{api.PhFirst, api.PhAgain} {
					for _, is := range []bool{true, false} {
						seen := alike(s.leaves, 2*once+low)
						if phase == api.PhFirst {
							seen = seen[:at]
						}
						want, effect := api.Op{}, false
						for i, l := range [][]uint64{alike(s.cells, 0), alike(s.cells, math.MaxUint64), random(s.cells, 3)} {
							l[at] = 2*once + low
							if !is {
								l[at] = 3*once + low - 1
							}
							got, took := Step(of(s.prefix, 4, 0), l, whole(kind, phase, at, 2, seen...))
							if i > 0 && (!same(got, want) || took != effect) {
								t.Fatalf("/%d, At %d: %+v, %v, not %+v, %v", s.prefix, at, got, took, want, effect)
							}
							want, effect = got, took
						}
					}
				}
			}
		}
	}
}

// row are the n numbers from first on.
func row(first, n int) []int {
	var l []int
	for i := range n {
		l = append(l, first+i)
	}
	return l
}

// A Snapshot tells the addresses of Seen, of each block, reserved ones left out: none of them
// used, some, all. By now all leaves but the last one are otherwise.
func TestWhatASnapshotTells(t *testing.T) { // P16.1
	for _, s := range shapes() {
		for _, held := range [][]int{nil, {0}, {s.many - 1}, {s.many / 2}, row(0, min(s.many, 64)), row(s.many-min(s.many, 33), min(s.many, 33))} {
			c := of(s.prefix, 3, held...)
			if !block.May(c) {
				t.Fatalf("%v", c)
			}
			first := word.Cells(c)[:s.leaves]
			for _, seen := range [][]uint64{first, alike(s.leaves, 0), alike(s.leaves, low), alike(s.leaves, math.MaxUint64), random(s.leaves, 6), alike(s.leaves, 1), alike(s.leaves, 1<<31)} {
				for _, now := range [][]uint64{seen, alike(s.leaves, 0), alike(s.leaves, low), random(s.leaves, 7)} {
					l := s.over(now)
					l[s.leaves-1] = seen[s.leaves-1]
					check(t, s, c, l, whole(api.Snapshot, api.PhAgain, s.leaves-1, 1, seen...))
				}
			}
			o, _ := Step(c, s.over(first), whole(api.Snapshot, api.PhAgain, s.leaves-1, 0, first...))
			if len(o.Answer.Addrs) != 0 {
				t.Errorf("/%d, %v: nothing is used, but %v", s.prefix, held, o.Answer.Addrs)
			}
			full := alike(s.leaves, low)
			o, _ = Step(c, s.over(full), whole(api.Snapshot, api.PhAgain, s.leaves-1, 0, full...))
			if len(o.Answer.Addrs) != s.many-len(held) || !slices.IsSorted(o.Answer.Addrs) {
				t.Errorf("/%d, %v: all is used, but %v", s.prefix, held, o.Answer.Addrs)
			}
		}
	}
}

// The addresses hang on where the block begins.
func TestBlocksWhereverTheyBegin(t *testing.T) { // P16.1
	for _, s := range shapes() {
		for _, base := range []uint32{0, 0x7fff0000, 0x80000000, uint32(math.MaxUint32) - uint32(s.many) + 1} {
			c := of(s.prefix, 2, s.many-1)
			c.Block.Base = base
			if !block.May(c) {
				t.Fatalf("it may not be: %v", c)
			}
			seen := random(s.leaves, 8)
			check(t, s, c, s.over(seen), whole(api.Snapshot, api.PhAgain, s.leaves-1, 1, seen...))
		}
	}
}

// A second collect that is the same tells a Grant ErrFull, whatever was seen.
func TestWhatAGrantTells(t *testing.T) { // P16.1
	for _, s := range shapes() {
		for _, seen := range [][]uint64{alike(s.leaves, low), alike(s.leaves, math.MaxUint64), alike(s.leaves, 0), random(s.leaves, 6)} {
			o := whole(api.Grant, api.PhAgain, s.leaves-1, 1, seen...)
			got, effect := Step(of(s.prefix, 3), s.over(seen), o)
			want := o
			want.Phase, want.At, want.Seen, want.Answer.Err = api.PhDone, 0, nil, api.ErrFull
			if !same(got, want) || !effect {
				t.Errorf("/%d: %+v, %v", s.prefix, got, effect)
			}
		}
	}
}

// run steps o in the cells until it takes effect, or is to claim, in at most so many steps;
// ahead of each step others do theirs. It answers how many steps it took, too.
func run(c api.Conf, l []uint64, o api.Op, most int, others func(step int, o api.Op)) (api.Op, int, bool) {
	for step := range most {
		others(step, o)
		var effect bool
		o, effect = Step(c, l, o)
		if effect || o.Phase == api.PhClaim {
			return o, step + 1, effect
		}
	}
	return o, most, false
}

// nobody does nothing.
func nobody(int, api.Op) {}

// begun is a sweep from its beginning.
func begun(kind int) api.Op { return Begin(api.Op{Ask: api.Ask{Kind: kind}}) }

// points are the steps ahead of which a leaf of interest may be changed: all of them or, of
// many leaves, those about its readings and the collects' ends.
func (s shape) points(leaf int) []int {
	if s.leaves <= 8 {
		return row(0, 2*s.leaves)
	}
	return []int{0, leaf, leaf + 1, s.leaves - 1, s.leaves, s.leaves + leaf, min(s.leaves+leaf+1, 2*s.leaves-1), 2*s.leaves - 1}
}

// With nobody else, a sweep of all leaves reads each twice.
func TestASweepAlone(t *testing.T) { // P16.1, P16.2
	for _, s := range shapes() {
		for _, leaves := range [][]uint64{alike(s.leaves, 0), alike(s.leaves, 7*once+low), random(s.leaves, 3)} {
			c := of(s.prefix, 1, s.many-1)
			o, n, effect := run(c, s.over(leaves), begun(api.Snapshot), 9999, nobody)
			want := api.Op{Ask: o.Ask, Answer: api.Answer{Addrs: s.lent(c, leaves)}}
			if !same(o, want) || n != 2*s.leaves || !effect {
				t.Errorf("/%d: %d steps, %+v", s.prefix, n, o)
			}
		}
		for _, free := range append(s.some(), -1) {
			leaves := alike(s.leaves, 7*once+low)
			want, steps := api.Op{Ask: api.Ask{Kind: api.Grant}, Answer: api.Answer{Err: api.ErrFull}}, 2*s.leaves
			if free >= 0 {
				leaves[free]--
				want, steps = api.Op{Ask: want.Ask, Phase: api.PhClaim, Leaf: free, Word: leaves[free]}, free+1
			}
			o, n, effect := run(of(s.prefix, 1), s.over(leaves), begun(api.Grant), 9999, nobody)
			if !same(o, want) || n != steps || effect != (free < 0) {
				t.Errorf("/%d, the leaf %d has a free bit: %d steps, %+v, %v", s.prefix, free, n, o, effect)
			}
		}
	}
}

// A leaf is changed once, ahead of each step. Just if that is between its readings, the sweep
// begins anew or, with no tries left, takes effect by that; else what is told is what was when
// the first collect ended. (The greatest block's sweeps are long: those alone are held above.)
func TestASnapshotWithALeafChanged(t *testing.T) { // P16.1, P16.2
	for _, s := range shapes()[:9] {
		for _, leaf := range s.some() {
			for _, point := range s.points(leaf) {
				for _, change := range []uint64{once, once + 1, math.MaxUint64 - 2*once} { // by the changes alone, by a bit too
					for _, tries := range []int{1, 2} {
						c := of(s.prefix, tries)
						was := alike(s.leaves, 6*once+6)
						is := slices.Clone(was)
						is[leaf] += change
						l := s.over(was)
						o, n, effect := run(c, l, begun(api.Snapshot), 9999, func(step int, _ api.Op) {
							if step == point {
								l[leaf] += change
							}
						})
						want, steps := api.Op{Ask: o.Ask, Answer: api.Answer{Addrs: s.lent(c, is)}}, 2*s.leaves
						switch {
						case point > s.leaves+leaf:
							want.Answer.Addrs = s.lent(c, was)
						case point > leaf && tries == 1:
							want.Answer, want.Tries, steps = api.Answer{Err: api.ErrRetry}, 1, s.leaves+leaf+1
						case point > leaf:
							want.Tries, steps = 1, s.leaves+leaf+1+2*s.leaves
						}
						if !same(o, want) || n != steps || !effect {
							t.Fatalf("/%d, %d tries, the leaf %d changed ahead of the step %d: %d steps, not %d, %+v", s.prefix, tries, leaf, point, n, steps, o)
						}
					}
				}
			}
		}
	}
}

// The same of a Grant, of leaves that are full: by a drop, or by a drop and a claim.
func TestAGrantWithALeafChanged(t *testing.T) { // P16.1, P16.2
	for _, s := range shapes()[:9] {
		for _, leaf := range s.some() {
			for _, point := range s.points(leaf) {
				for _, full := range []bool{false, true} {
					l := s.over(alike(s.leaves, 6*once+low))
					o, n, effect := run(of(s.prefix, 2), l, begun(api.Grant), 9999, func(step int, _ api.Op) {
						if step == point {
							l[leaf] = word.Drop(l[leaf], 5)
						}
						if step == point && full {
							l[leaf] = word.Claim(l[leaf], 5)
						}
					})
					want, steps := api.Op{Ask: o.Ask, Answer: api.Answer{Err: api.ErrFull}}, 2*s.leaves
					seen := leaf < point && point <= s.leaves+leaf
					if seen {
						steps += s.leaves + leaf + 1
					}
					if !full && (seen || point <= leaf) {
						want = api.Op{Ask: o.Ask, Phase: api.PhClaim, Leaf: leaf, Bit: 5, Word: 7*once + low - 32}
						steps += leaf + 1 - 2*s.leaves
					}
					if !same(o, want) || n != steps || effect != (want.Phase == api.PhDone) {
						t.Fatalf("/%d, the leaf %d changed ahead of the step %d, full again: %v: %d steps, not %d, %+v", s.prefix, leaf, point, full, n, steps, o)
					}
				}
			}
		}
	}
}

// A leaf that is changed ahead of each of its second readings hinders a Snapshot as often as
// it tries, and a Grant for ever.
func TestALeafThatIsChangedEachTime(t *testing.T) { // P16.1, P16.2
	for _, s := range shapes()[:8] {
		for _, leaf := range s.some() {
			for tries := 1; tries <= 8; tries++ {
				for _, kind := range kinds() {
					l, changed := s.over(alike(s.leaves, low)), 0
					o, n, effect := run(of(s.prefix, tries), l, begun(kind), 10*(s.leaves+leaf+1), func(_ int, o api.Op) {
						if o.Phase == api.PhAgain && o.At == leaf {
							l[leaf], changed = l[leaf]+once, changed+1
						}
					})
					if kind == api.Grant {
						if effect || changed != 10 || o.Phase != api.PhFirst || o.Tries != 0 {
							t.Fatalf("/%d, the leaf %d: %d changes, %+v", s.prefix, leaf, changed, o)
						}
						continue
					}
					want := api.Op{Ask: o.Ask, Answer: api.Answer{Err: api.ErrRetry}, Tries: tries}
					if !same(o, want) || !effect || changed != tries || n != tries*(s.leaves+leaf+1) {
						t.Fatalf("/%d, the leaf %d, %d tries: %d changes, %d steps, %+v", s.prefix, leaf, tries, changed, n, o)
					}
				}
			}
		}
	}
}

// Others claim and drop at any time, by a fixed rule: what takes effect is as it was when the
// first collect ended, and ErrRetry is told just where as many changes as tries came.
func TestOthersAtAnyTime(t *testing.T) { // P16.2
	ends := map[api.Errno]int{}
	for _, s := range []shape{{30, 4, 1, 3}, {26, 64, 2, 4}, {24, 256, 8, 10}} {
		for i, seed := range random(2000, 11) {
			kind, tries := kinds()[i%2], 1+i%4
			c := of(s.prefix, tries, 1)
			l, then, changed := s.over(alike(s.leaves, low)), []uint64(nil), 0
			o, _, effect := run(c, l, begun(kind), 40*s.leaves, func(_ int, o api.Op) {
				if o.Phase == api.PhAgain && o.At == 0 {
					then = slices.Clone(l[:s.leaves])
				}
				seed = seed*6364136223846793005 + 1442695040888963407
				if seed>>60 >= 16/uint64(s.leaves+1) {
					return
				}
				leaf, bit := int(seed>>33)%s.leaves, int(seed>>50)%3
				change := word.Claim
				if kind == api.Snapshot && seed>>40%2 == 0 {
					change = word.Drop
				}
				l[leaf], changed = change(l[leaf], bit), changed+1
			})
			if !effect {
				continue
			}
			ends[o.Answer.Err]++
			switch {
			case o.Answer.Err == api.ErrRetry:
				if changed < tries || len(o.Answer.Addrs) != 0 {
					t.Fatalf("/%d: %d changes, %d tries: %+v", s.prefix, changed, tries, o)
				}
			case kind == api.Snapshot:
				if !slices.Equal(o.Answer.Addrs, s.lent(c, then)) {
					t.Fatalf("/%d: %v of %#x", s.prefix, o.Answer.Addrs, then)
				}
			default:
				for _, w := range then {
					if least(w) < 32 {
						t.Fatalf("/%d: ErrFull of %#x", s.prefix, then)
					}
				}
			}
		}
	}
	if ends[api.OK] < 100 || ends[api.ErrRetry] < 100 || ends[api.ErrFull] < 100 {
		t.Errorf("the ends: %v", ends)
	}
}

// Of one full leaf, a Grant: two steps, ErrFull.
func TestAGrantOfOneFullLeaf(t *testing.T) { // P16.1, the chapter's example
	for _, c := range []api.Conf{of(27, 1), of(30, 2, 0, 3), of(32, 8, 0), of(32, 1)} {
		l := word.Cells(c)
		for bit, ok := word.First(l[0]); ok; bit, ok = word.First(l[0]) {
			l[0] = word.Claim(l[0], bit)
		}
		one, effect := Step(c, l, begun(api.Grant))
		if want := (api.Op{Ask: api.Ask{Kind: api.Grant}, Phase: api.PhAgain, Seen: l[:1]}); !same(one, want) || effect {
			t.Errorf("/%d: %+v, %v", c.Block.Prefix, one, effect)
		}
		two, effect := Step(c, l, one)
		if want := (api.Op{Ask: api.Ask{Kind: api.Grant}, Answer: api.Answer{Err: api.ErrFull}}); !same(two, want) || !effect {
			t.Errorf("/%d: %+v, %v", c.Block.Prefix, two, effect)
		}
	}
}

// each calls f with cells and operations, of a block of two leaves, so that each end of a step
// is come to.
func each(f func(l []uint64, o api.Op)) {
	for _, kind := range append(kinds(), api.Query) {
		for _, w := range []uint64{low, 5, once + low} {
			l := []uint64{w, w, 5, 6}
			f(l, whole(kind, api.PhFirst, 0, 1))
			f(l, whole(kind, api.PhFirst, 1, 1, low))
			for _, tries := range []int{0, 1, 2} {
				f(l, whole(kind, api.PhAgain, 0, tries, low, 5))
				f(l, whole(kind, api.PhAgain, 1, tries, 5, low))
			}
			f(l, whole(kind, api.PhDone, 1, 1, 5, low))
		}
	}
}

func TestWhatIsHandedInStays(t *testing.T) { // P16.3
	each(func(l []uint64, o api.Op) {
		c := of(26, 3, roomy(9, 1, 2)...)
		l = roomy(77, l...)
		cells, was := slices.Clone(l[:6]), o
		lists := whole(0, 0, 0, 0, o.Seen...)
		Step(c, l, o)
		Begin(o)
		if !slices.Equal(l[:6], cells) || !slices.Equal(c.Held[:4], []int{1, 2, 9, 9}) {
			t.Fatalf("%+v: cells, or Held, changed: %#x, %v", was, l[:6], c.Held[:4])
		}
		if !reflect.DeepEqual(o, was) || !reflect.DeepEqual(rooms(o), rooms(lists)) {
			t.Fatalf("%+v changed: %+v", was, o)
		}
	})
}

// fill writes x into a list, and into the room behind it.
func fill[T any](l []T, x T) {
	for i := range l[:cap(l)] {
		l[:cap(l)][i] = x
	}
}

// scrawl writes into all that an answer has for itself: not into the request's.
func scrawl(o api.Op) {
	fill(o.Answer.Addrs, 1234)
	fill(o.Answer.Errs, 1234)
	fill(o.Seen, 1234)
}

func TestWhatIsAnsweredIsNewMemory(t *testing.T) { // P16.3
	each(func(l []uint64, o api.Op) {
		for _, call := range []func(o api.Op) api.Op{
			Begin,
			func(o api.Op) api.Op { o, _ = Step(of(26, 3), l, o); return o },
		} {
			l = roomy(77, l...)
			cells, lists := slices.Clone(l[:6]), whole(0, 0, 0, 0, o.Seen...)
			one, other, again := call(o), call(o), call(o)
			scrawl(one)
			if !slices.Equal(l[:6], cells) || !reflect.DeepEqual(rooms(o), rooms(lists)) {
				t.Fatalf("a write into the answer shows in what was handed in: %+v", o)
			}
			if slices.Contains(other.Answer.Addrs, 1234) || slices.Contains(other.Answer.Errs, 1234) || slices.Contains(other.Seen, 1234) || !same(other, again) {
				t.Fatalf("a write into an answer shows in another one: %+v", other)
			}
		}
	})
}

// Two first collects that went on from one don't share the room of its Seen.
func TestOperationsThatPartDontShareSeen(t *testing.T) { // P16.3
	for _, kind := range kinds() {
		o := whole(kind, api.PhFirst, 1, 0, low)
		one, _ := Step(of(24, 3), slices.Repeat([]uint64{low}, 10), o)
		two, _ := Step(of(24, 3), slices.Repeat([]uint64{once + low}, 10), o)
		if !slices.Equal(one.Seen, []uint64{low, low}) || !slices.Equal(two.Seen, []uint64{low, once + low}) {
			t.Errorf("%#x, %#x", one.Seen, two.Seen)
		}
	}
}

// Two lists of one answer share nothing, though those that were handed in did, and Seen was
// the cells.
func TestNoTwoListsOfAnAnswerShareMemory(t *testing.T) { // P16.3
	each(func(l []uint64, o api.Op) {
		for _, seen := range []int{0, 1, 2} {
			one, cells := []uint32{5, 6}, slices.Clone(l)
			o.Ask.Addrs, o.Answer.Addrs, o.Seen = one, one, l[:seen]
			got, _ := Step(of(26, 3), l, o)
			scrawl(got)
			scrawl(Begin(o))
			if !slices.Equal(got.Ask.Addrs, []uint32{5, 6}) || !slices.Equal(one, []uint32{5, 6}) || !slices.Equal(l, cells) {
				t.Fatalf("%+v: %v, %#x", o, one, l)
			}
		}
	})
}

// Nil and empty lists are one, handed in and answered.
func TestNilAndEmptyLists(t *testing.T) { // P16.1
	for _, kind := range kinds() {
		for _, w := range []uint64{0, low} {
			for _, phase := range []int{api.PhFirst, api.PhAgain} {
				o := api.Op{Ask: api.Ask{Kind: kind}, Phase: phase}
				if phase == api.PhAgain {
					o.Seen = []uint64{0}
				}
				e := o
				e.Ask.Addrs, e.Answer.Addrs, e.Answer.Errs = []uint32{}, []uint32{}, []api.Errno{}
				if phase == api.PhFirst {
					e.Seen = []uint64{}
				}
				l := []uint64{w, 5, 6}
				a, x := Step(of(30, 3), l, o)
				b, y := Step(of(30, 3, []int{}...), l, e)
				if !same(a, b) || x != y || !same(Begin(o), Begin(e)) {
					t.Errorf("%+v, %+v", a, b)
				}
			}
		}
	}
}

// Neither shards, nor workers, nor the queue are anything to a step; nor is what was asked.
func TestAnswersHangOnArgumentsAlone(t *testing.T) { // P16.1
	for range 3 {
		each(func(l []uint64, o api.Op) {
			if o.Ask.Kind == api.Query || o.Phase == api.PhDone {
				return
			}
			s := shape{26, 64, 2, 4}
			check(t, s, of(26, 3, 2), l, o)
			c := api.Conf{Block: api.Block{Base: base, Prefix: 26}, Held: []int{2}, Shards: 64, Workers: 64, Queue: 64, Tries: 3}
			want, effect := s.meant(c, l, o)
			if got, took := Step(c, l, o); !same(got, want) || took != effect {
				t.Fatalf("%+v, %v", got, took)
			}
		})
	}
}

// The chapter promises nothing of these but that the calls end and don't panic; of another
// kind or phase all stays.
func TestNothingPanics(t *testing.T) { // P1
	odd := []int{math.MinInt, -65536, -1, 0, 1, 2, 33, 2048, math.MaxInt - 1, math.MaxInt}
	var confs []api.Conf
	for _, prefix := range []int{math.MinInt, -1, 0, 15, 16, 26, 27, 32, 33, math.MaxInt} {
		for _, tries := range []int{math.MinInt, 0, 1, 9, math.MaxInt} {
			confs = append(confs, of(prefix, tries, -1, math.MinInt, 7, 7, math.MaxInt))
		}
	}
	few := [][]uint64{nil, {low}, {5, low, 5}, alike(40, low)}
	for i, c := range append(confs, api.Conf{}) {
		for j, at := range odd {
			for k, tries := range odd {
				for _, kind := range allKinds() {
					for _, phase := range allPhases() {
						l, seen := few[(i+j+k)%len(few)], few[(i+2*j+3*k)%len(few)]
						o := whole(kind, phase, at, tries, seen...)
						got, effect := Step(c, l, o)
						sweeps := (kind == 1 || kind == 6) && (phase == 6 || phase == 7)
						if !sweeps && (!same(got, o) || effect) {
							t.Fatalf("the kind %d, the phase %d: %+v", kind, phase, got)
						}
					}
				}
			}
		}
	}
}

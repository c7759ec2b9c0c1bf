package grant

import (
	"math"
	"reflect"
	"slices"
	"testing"

	"lodger/api"
	"lodger/block"
	"lodger/claim"
	"lodger/hint"
	"lodger/seek"
	"lodger/sweep"
	"lodger/word"
)

// low are a leaf's bits, all set; once is one change of it; all is a word all of whose bits are
// set; base is where the tests' blocks begin, if nothing else is said.
const (
	low  = uint64(1)<<32 - 1
	once = uint64(1) << 32
	all  = uint64(math.MaxUint64)
	base = uint32(0x0a010000)
)

// pool is a configuration, and how much its block has.
type pool struct {
	c                  api.Conf
	many, leaves, tops int
}

// of answers the pool of that prefix, of so many shards, and those reserved offsets.
func of(prefix, shards int, held ...int) pool {
	many := 1 << (32 - prefix)
	leaves := (many + 31) / 32
	c := api.Conf{Block: api.Block{Base: base, Prefix: prefix}, Held: held, Shards: shards, Workers: 3, Queue: 4, Tries: 2}
	return pool{c: c, many: many, leaves: leaves, tops: (leaves + 63) / 64}
}

// top and root are the places of the cells in which a leaf is summed, and the tops are.
func (p pool) top(leaf int) int { return p.leaves + leaf/64 }
func (p pool) root() int        { return p.leaves + p.tops }

// span are the shard's first leaf, and the one behind its last one.
func (p pool) span(shard int) (int, int) {
	return shard * p.leaves / p.c.Shards, (shard + 1) * p.leaves / p.c.Shards
}

// bound is how many steps a grant alone needs at most: of each shard the root, its tops and a
// leaf, and a sweep, or that and a claim that is marked.
func (p pool) bound() int {
	steps := max(2*p.leaves, p.leaves+1+4)
	for s := range p.c.Shards {
		steps += 2
		if from, to := p.span(s); from < to {
			steps += (to-1)/64 - from/64 + 1
		}
	}
	return steps
}

// addr is the address of that offset.
func (p pool) addr(off int) uint32 { return p.c.Block.Base + uint32(off) }

// set tells whether the bit is; with is w whose bit is so; least is the least of a leaf's bits
// that isn't set, or 32.
func set(w uint64, bit int) bool { return w>>bit%2 == 1 }
func with(w uint64, bit int, is bool) uint64 {
	if set(w, bit) != is {
		w ^= 1 << bit
	}
	return w
}
func least(w uint64) int {
	for bit := range 32 {
		if !set(w, bit) {
			return bit
		}
	}
	return 32
}

// random is a source of numbers by a fixed rule.
type random uint64

func (r *random) below(n int) int {
	*r = *r*6364136223846793005 + 1442695040888963407
	return int(uint64(*r) >> 32 % uint64(n))
}
func (r *random) word() uint64 { return uint64(r.below(1<<32))<<32 + uint64(r.below(1<<32)) }

// row are the n numbers from first on.
func row(first, n int) []int {
	var l []int
	for i := range n {
		l = append(l, first+i)
	}
	return l
}

// usable are the offsets that aren't reserved.
func (p pool) usable() []int {
	return slices.DeleteFunc(row(0, p.many), func(off int) bool { return slices.Contains(p.c.Held, off) })
}

// isFree tells whether the offset of that address isn't reserved, and its bit isn't set.
func (p pool) isFree(l []uint64, addr uint32) bool {
	off := int(addr - p.c.Block.Base)
	return off < p.many && !slices.Contains(p.c.Held, off) && !set(l[off/32], off%32)
}

// full tells whether all is used.
func (p pool) full(l []uint64) bool {
	return !slices.ContainsFunc(l[:p.leaves], func(w uint64) bool { return least(w) < 32 })
}

// claimed are the first cells, but all used that free doesn't tell of: of the i-th of n offsets
// that aren't reserved.
func (p pool) claimed(free func(i, n int) bool) []uint64 {
	l, offs := word.Cells(p.c), p.usable()
	for i, off := range offs {
		if !free(i, len(offs)) {
			l[off/32] = word.Claim(l[off/32], off%32)
		}
	}
	return p.right(l)
}

// right are those cells with summaries that are right, wrong with such as tell room where there
// is none, and none where there is.
func (p pool) right(l []uint64) []uint64 {
	return p.summed(l, func(leaf int, _ bool) bool { return least(l[leaf]) < 32 })
}
func (p pool) wrong(l []uint64) []uint64 {
	return p.summed(l, func(leaf int, _ bool) bool { return least(l[leaf]) == 32 })
}

// summed are those cells with summaries that tell room where it is told: of a leaf in its top,
// and of it in the root.
func (p pool) summed(l []uint64, room func(leaf int, root bool) bool) []uint64 {
	l = slices.Clone(l)
	for cell := p.leaves; cell < len(l); cell++ {
		l[cell] = all
	}
	for leaf := range p.leaves {
		if room(leaf, false) {
			l[p.top(leaf)] = with(l[p.top(leaf)], leaf%64, false)
		}
		if room(leaf, true) {
			l[p.root()] = with(l[p.root()], leaf/64, false)
		}
	}
	return l
}

// hints are those cells with summaries that are right, that are wrong, in the tops alone or in
// the root too, that tell room all over or nowhere, in the root or in the tops alone, and with
// any words there.
func (p pool) hints(l []uint64) [][]uint64 {
	some := slices.Clone(l)
	for cell, r := p.leaves, random(len(l)); cell < len(l); cell++ {
		some[cell] = r.word()
	}
	return [][]uint64{
		p.right(l), p.wrong(l), some,
		p.summed(l, func(leaf int, root bool) bool { return root || least(l[leaf]) == 32 }),
		p.summed(l, func(int, bool) bool { return true }),
		p.summed(l, func(int, bool) bool { return false }),
		p.summed(l, func(_ int, root bool) bool { return root }),
		p.summed(l, func(_ int, root bool) bool { return !root }),
	}
}

// fills are cells of a new pool, of one that is half used, of one that has its first, middle or
// last address left, and of one that is full.
func (p pool) fills() [][]uint64 {
	return [][]uint64{
		p.claimed(func(int, int) bool { return true }),
		p.claimed(func(i, _ int) bool { return i%2 == 0 }),
		p.claimed(func(i, _ int) bool { return i == 0 }),
		p.claimed(func(i, n int) bool { return i == n/2 }),
		p.claimed(func(i, n int) bool { return i == n-1 }),
		p.claimed(func(int, int) bool { return false }),
	}
}

// helds are reserved offsets: none, at the beginning, at the end, both and one between, and as
// many as can be at the beginning and at the end, which is all of a small block.
func (p pool) helds() [][]int {
	n := min(p.many, 64)
	return [][]int{
		nil, {0}, {p.many - 1}, slices.Compact([]int{0, p.many / 2, p.many - 1}),
		row(0, n), row(p.many-n, n),
	}
}

// same tells whether the operations are, nil and empty lists being one.
func same(a, b api.Op) bool {
	for _, o := range []*api.Op{&a, &b} {
		o.Ask.Addrs = append([]uint32(nil), o.Ask.Addrs...)
		o.Answer.Addrs = append([]uint32(nil), o.Answer.Addrs...)
		o.Answer.Errs = append([]api.Errno(nil), o.Answer.Errs...)
		o.Seen = append([]uint64(nil), o.Seen...)
	}
	return reflect.DeepEqual(a, b)
}

// course is how far a grant is: the cells, the operation, how many steps it did, and with which
// of them, counted from 1, it took effect.
type course struct {
	l       []uint64
	o       api.Op
	steps   int
	effects []int
}

// changes are the places of the cells that aren't what they were.
func changes(was, l []uint64) []int {
	var places []int
	for cell, w := range l {
		if w != was[cell] {
			places = append(places, cell)
		}
	}
	return places
}

// next does a step, and holds it against what each may do: take effect by the claim of an
// address that is free, which it answers, or by ErrFull at the end of a sweep; or change no
// leaf, and no summary but where one is written. More than one cell never changes.
func (p pool) next(t *testing.T, a course) course {
	t.Helper()
	l, o, effect := Step(p.c, a.l, a.o)
	if len(l) != len(a.l) {
		t.Fatalf("%+v: %d cells, not %d", a.o, len(l), len(a.l))
	}
	changed, right := changes(a.l, l), false
	switch {
	case effect && a.o.Phase == api.PhClaim:
		leaf, want := a.o.Leaf, api.Answer{Addr: p.addr(32*a.o.Leaf + a.o.Bit)}
		right = reflect.DeepEqual(o.Answer, want) && p.isFree(a.l, want.Addr) &&
			slices.Equal(changed, []int{leaf}) && l[leaf] == with(a.l[leaf], a.o.Bit, true)+once
	case effect:
		right = a.o.Phase == api.PhAgain && o.Phase == api.PhDone &&
			reflect.DeepEqual(o.Answer, api.Answer{Err: api.ErrFull}) && len(changed) == 0
	case a.o.Phase == api.PhSet:
		right = len(changed) == 0 || len(changed) == 1 && changed[0] >= p.leaves
	default:
		right = len(changed) == 0
	}
	if !right {
		t.Fatalf("%+v: %+v, %v, the cells %v changed", a.o, o, effect, changed)
	}
	if effect {
		a.effects = append(slices.Clip(a.effects), a.steps+1)
	}
	return course{l, o, a.steps + 1, a.effects}
}

// run does a grant's steps until it is done, but at most so many; ahead of each one others do
// theirs, in the cells.
func (p pool) run(t *testing.T, a course, most int, others func(a course)) course {
	t.Helper()
	a.l = slices.Clone(a.l)
	for a.o.Phase != api.PhDone && a.steps < most {
		others(a)
		a = p.next(t, a)
	}
	return a
}

// nobody does nothing.
func nobody(course) {}

// checkEnd holds the end of a grant against what is told of it: the steps, the offset that it
// has, or ErrFull, where that is -1; and that it took effect just once, by ErrFull with its
// last step.
func (p pool) checkEnd(t *testing.T, a course, steps, off int) {
	t.Helper()
	want := api.Answer{Err: api.ErrFull}
	if off >= 0 {
		want = api.Answer{Addr: p.addr(off)}
	}
	if a.o.Phase != api.PhDone || a.steps != steps || len(a.effects) != 1 || off < 0 && a.effects[0] != steps || !reflect.DeepEqual(a.o.Answer, want) {
		t.Fatalf("/%d: %d steps, not %d, the effects at %v, %+v, not %+v", p.c.Block.Prefix, a.steps, steps, a.effects, a.o, want)
	}
}

// meant is what a grant of a home comes to alone, from the chapters' words: the whole of it,
// shard by shard, then leaf by leaf.
func (p pool) meant(l []uint64, home int) course {
	a := course{l: slices.Clone(l), o: api.Op{Ask: api.Ask{Kind: api.Grant}, Shard: home}}
	for k := range p.c.Shards {
		leaf, steps := p.hinted(l, (home+k)%p.c.Shards)
		a.steps += steps
		if leaf < 0 {
			a.o.Sought++
			continue
		}
		a.steps, a.o.Leaf = a.steps+1, leaf
		if bit := least(l[leaf]); bit < 32 {
			return p.got(a, leaf, bit)
		}
		a.o.Sought++
	}
	for leaf := range p.leaves {
		a.steps++
		if bit := least(l[leaf]); bit < 32 {
			return p.got(a, leaf, bit)
		}
	}
	a.steps += p.leaves
	a.o.Answer.Err, a.effects = api.ErrFull, []int{a.steps}
	return a
}

// hinted is the leaf of the shard to which its hints lead, or -1, and in how many steps.
func (p pool) hinted(l []uint64, shard int) (int, int) {
	steps, last := 1, -1
	from, to := p.span(shard)
	for leaf := from; leaf < to; leaf++ {
		if set(l[p.root()], leaf/64) {
			continue
		}
		if leaf/64 != last {
			steps, last = steps+1, leaf/64
		}
		if !set(l[p.top(leaf)], leaf%64) {
			return leaf, steps
		}
	}
	return -1, steps
}

// got is a that claims the bit, and marks what became full.
func (p pool) got(a course, leaf, bit int) course {
	a.steps++
	a.effects = []int{a.steps}
	a.o.Leaf, a.o.Bit, a.o.Answer.Addr = leaf, bit, p.addr(32*leaf+bit)
	a.l[leaf] = with(a.l[leaf], bit, true) + once
	for _, sum := range [][2]int{{p.top(leaf), leaf % 64}, {p.root(), leaf / 64}} {
		if least(a.l[leaf]) < 32 {
			break
		}
		a.steps++
		if w := with(a.l[sum[0]], sum[1], true); w != a.l[sum[0]] {
			a.l[sum[0]], a.steps = w, a.steps+1
		}
		if a.l[sum[0]] != all {
			break
		}
	}
	return a
}

// checkAlone holds a grant alone, step by step, against what it comes to, and the bound.
func (p pool) checkAlone(t *testing.T, l []uint64, home int) course {
	t.Helper()
	want := p.meant(l, home)
	a := p.run(t, course{l: l, o: Begin(home)}, p.bound(), nobody)
	if !slices.Equal(a.l, want.l) || !same(a.o, want.o) || a.steps != want.steps || !slices.Equal(a.effects, want.effects) {
		t.Fatalf("/%d, %d shards, %v reserved, the home %d, the tops and the root %#x: %d steps, not %d, the effects at %v, not %v,\n%+v, not\n%+v, or other cells",
			p.c.Block.Prefix, p.c.Shards, p.c.Held, home, l[p.leaves:], a.steps, want.steps, a.effects, want.effects, a.o, want.o)
	}
	if full := p.full(l); full != (a.o.Answer.Err == api.ErrFull) || a.o.Phase != api.PhDone {
		t.Fatalf("all used: %v: %+v", full, a.o)
	}
	return a
}

func TestTheConfigurationsMayBe(t *testing.T) {
	for _, x := range [][4]int{{32, 1, 1, 1}, {30, 4, 1, 1}, {27, 32, 1, 1}, {26, 64, 2, 1}, {21, 2048, 64, 1}, {20, 4096, 128, 2}, {16, 65536, 2048, 32}} {
		for _, shards := range []int{1, 3, 64} {
			p := of(x[0], shards)
			for _, held := range p.helds() {
				p.c.Held = held
				if !block.May(p.c) || p.many != x[1] || p.leaves != x[2] || p.tops != x[3] || len(word.Cells(p.c)) != p.root()+1 {
					t.Errorf("%+v", p)
				}
			}
		}
	}
}

func TestBegin(t *testing.T) { // P17.1
	for _, home := range append(row(0, 64), math.MinInt, -1, 64, math.MaxInt) {
		want := api.Op{Ask: api.Ask{Kind: api.Grant}, Shard: home, Phase: api.PhSeek}
		if got := Begin(home); !same(got, want) {
			t.Errorf("%d: %+v", home, got)
		}
	}
}

// Of a block of two leaves, of two shards: the cells are these, the top, the root; the first
// shard has the leaf 0, the second one the leaf 1.
func TestStepByHand(t *testing.T) { // P17.1
	const none, one, two = all, all - 1, all - 3 // summaries: no room; room in the leaf, or the top, 0; in the leaf 1, too
	for i, x := range []struct {
		l      [4]uint64
		o      api.Op
		then   [4]uint64
		want   api.Op
		effect bool
	}{
		// seeking: the root, of the home, and of the last shard that is sought
		{[4]uint64{0, 0, two, one}, api.Op{Phase: api.PhSeek}, [4]uint64{0, 0, two, one}, api.Op{Phase: api.PhSeek, At: 1, Word: one}, false},
		{[4]uint64{0, 0, two, none}, api.Op{Phase: api.PhSeek}, [4]uint64{0, 0, two, none}, api.Op{Phase: api.PhSeek, Sought: 1}, false},
		{[4]uint64{0, 0, two, none}, api.Op{Phase: api.PhSeek, Shard: 1, Sought: 1}, [4]uint64{0, 0, two, none}, api.Op{Phase: api.PhFirst, Shard: 1, Sought: 2}, false},
		// the top
		{[4]uint64{0, 0, two, none}, api.Op{Phase: api.PhSeek, At: 1, Word: one}, [4]uint64{0, 0, two, none}, api.Op{Phase: api.PhLook}, false},
		{[4]uint64{0, 0, two, none}, api.Op{Phase: api.PhSeek, Shard: 1, At: 1, Word: one}, [4]uint64{0, 0, two, none}, api.Op{Phase: api.PhLook, Shard: 1, Leaf: 1}, false},
		{[4]uint64{0, 0, one, none}, api.Op{Phase: api.PhSeek, Shard: 1, At: 1, Word: one}, [4]uint64{0, 0, one, none}, api.Op{Phase: api.PhSeek, Shard: 1, Sought: 1}, false},
		{[4]uint64{0, 0, none, 0}, api.Op{Phase: api.PhSeek, Sought: 1, At: 1, Word: one}, [4]uint64{0, 0, none, 0}, api.Op{Phase: api.PhFirst, Sought: 2}, false},
		// looking
		{[4]uint64{3, 5, two, one}, api.Op{Phase: api.PhLook}, [4]uint64{3, 5, two, one}, api.Op{Phase: api.PhClaim, Word: 3, Bit: 2}, false},
		{[4]uint64{3, 9*once + low>>1, two, one}, api.Op{Phase: api.PhLook, Leaf: 1}, [4]uint64{3, 9*once + low>>1, two, one}, api.Op{Phase: api.PhClaim, Leaf: 1, Word: 9*once + low>>1, Bit: 31}, false},
		{[4]uint64{3, once + low, two, one}, api.Op{Phase: api.PhLook, Shard: 1, Leaf: 1}, [4]uint64{3, once + low, two, one}, api.Op{Phase: api.PhSeek, Shard: 1, Sought: 1, Leaf: 1}, false},
		{[4]uint64{low, 0, two, one}, api.Op{Phase: api.PhLook, Sought: 1}, [4]uint64{low, 0, two, one}, api.Op{Phase: api.PhFirst, Sought: 2}, false},
		// claiming: it could be, it could be and the leaf is full, it couldn't
		{[4]uint64{3, 5, two, one}, api.Op{Phase: api.PhClaim, Word: 3, Bit: 2}, [4]uint64{once + 7, 5, two, one}, api.Op{Bit: 2, Answer: api.Answer{Addr: base + 2}}, true},
		{[4]uint64{3, 5 * once, two, one}, api.Op{Phase: api.PhClaim, Leaf: 1, Word: 5 * once, Bit: 0}, [4]uint64{3, 6*once + 1, two, one}, api.Op{Leaf: 1, Answer: api.Answer{Addr: base + 32}}, true},
		{[4]uint64{3, low - 2, two, one}, api.Op{Phase: api.PhClaim, Leaf: 1, Word: low - 2, Bit: 1}, [4]uint64{3, once + low, two, one}, api.Op{Phase: api.PhMark, Full: true, Leaf: 1, Bit: 1, Answer: api.Answer{Addr: base + 33}}, true},
		{[4]uint64{once + 7, 5, two, one}, api.Op{Phase: api.PhClaim, Word: 3, Bit: 2}, [4]uint64{once + 7, 5, two, one}, api.Op{Phase: api.PhLook, Bit: 2}, false},
		{[4]uint64{2*once + 3, 5, two, one}, api.Op{Phase: api.PhClaim, Word: 3, Bit: 2}, [4]uint64{2*once + 3, 5, two, one}, api.Op{Phase: api.PhLook, Bit: 2}, false},
		// the first collect
		{[4]uint64{low, 5, none, none}, api.Op{Phase: api.PhFirst, Sought: 2}, [4]uint64{low, 5, none, none}, api.Op{Phase: api.PhFirst, Sought: 2, At: 1, Seen: []uint64{low}}, false},
		{[4]uint64{low, 5, none, none}, api.Op{Phase: api.PhFirst, Sought: 2, At: 1, Seen: []uint64{low}}, [4]uint64{low, 5, none, none}, api.Op{Phase: api.PhClaim, Sought: 2, Leaf: 1, Word: 5, Bit: 1}, false},
		{[4]uint64{0, once + low, none, none}, api.Op{Phase: api.PhFirst, At: 1, Seen: []uint64{low}}, [4]uint64{0, once + low, none, none}, api.Op{Phase: api.PhAgain, Seen: []uint64{low, once + low}}, false},
		// the second one
		{[4]uint64{low, 0, none, none}, api.Op{Phase: api.PhAgain, Seen: []uint64{low, low}}, [4]uint64{low, 0, none, none}, api.Op{Phase: api.PhAgain, At: 1, Seen: []uint64{low, low}}, false},
		{[4]uint64{0, low + once, none, none}, api.Op{Phase: api.PhAgain, At: 1, Seen: []uint64{low, low}}, [4]uint64{0, low + once, none, none}, api.Op{Phase: api.PhFirst}, false},
		{[4]uint64{0, low, none, none}, api.Op{Phase: api.PhAgain, Sought: 2, At: 1, Seen: []uint64{low, low}}, [4]uint64{0, low, none, none}, api.Op{Sought: 2, Answer: api.Answer{Err: api.ErrFull}}, true},
		// marking: the top is read, and written
		{[4]uint64{low, 0, two, one}, api.Op{Phase: api.PhMark, Full: true}, [4]uint64{low, 0, two, one}, api.Op{Phase: api.PhSet, Full: true, Word: two}, false},
		{[4]uint64{low, 0, two + 1, one}, api.Op{Phase: api.PhMark, Full: true}, [4]uint64{low, 0, two + 1, one}, api.Op{}, false},
		{[4]uint64{low, low, none, one}, api.Op{Phase: api.PhMark, Full: true, Leaf: 1}, [4]uint64{low, low, none, one}, api.Op{Phase: api.PhMark, Full: true, Leaf: 1, At: 1, Word: all}, false},
		{[4]uint64{low, 0, two, one}, api.Op{Phase: api.PhSet, Full: true, Word: two}, [4]uint64{low, 0, two + 1, one}, api.Op{}, false},
		{[4]uint64{low, low, one, one}, api.Op{Phase: api.PhSet, Full: true, Word: one}, [4]uint64{low, low, none, one}, api.Op{Phase: api.PhMark, Full: true, At: 1, Word: all}, false},
		{[4]uint64{low, low, two, one}, api.Op{Phase: api.PhSet, Full: true, Word: one}, [4]uint64{low, low, two, one}, api.Op{Phase: api.PhMark, Full: true, At: 1, Word: all}, false},
		// the root is read, and written
		{[4]uint64{low, low, none, one}, api.Op{Phase: api.PhMark, Full: true, At: 1, Word: all}, [4]uint64{low, low, none, one}, api.Op{Phase: api.PhSet, Full: true, At: 1, Word: one}, false},
		{[4]uint64{low, low, none, none}, api.Op{Phase: api.PhMark, Full: true, At: 1, Word: all}, [4]uint64{low, low, none, none}, api.Op{}, false},
		{[4]uint64{low, low, none, one}, api.Op{Phase: api.PhSet, Full: true, At: 1, Word: one}, [4]uint64{low, low, none, none}, api.Op{}, false},
		{[4]uint64{low, low, none, 5}, api.Op{Phase: api.PhSet, Full: true, At: 1, Word: one}, [4]uint64{low, low, none, 5}, api.Op{}, false},
		// it is done
		{[4]uint64{3, 5, two, one}, api.Op{Bit: 2, Answer: api.Answer{Addr: base + 2}}, [4]uint64{3, 5, two, one}, api.Op{Bit: 2, Answer: api.Answer{Addr: base + 2}}, false},
		{[4]uint64{3, 5, two, one}, api.Op{Answer: api.Answer{Err: api.ErrFull}}, [4]uint64{3, 5, two, one}, api.Op{Answer: api.Answer{Err: api.ErrFull}}, false},
		{[4]uint64{}, api.Op{}, [4]uint64{}, api.Op{}, false},
	} {
		x.o.Ask.Kind, x.want.Ask.Kind = api.Grant, api.Grant
		l, o, effect := Step(of(26, 2).c, x.l[:], x.o)
		if !slices.Equal(l, x.then[:]) || !same(o, x.want) || effect != x.effect {
			t.Errorf("%d: %#x, %+v, %v, not %#x, %+v", i, l, o, effect, x.then, x.want)
		}
	}
}

// layer is the step of the layer that a Phase is of.
func layer(c api.Conf, l []uint64, o api.Op) ([]uint64, api.Op, bool) {
	switch o.Phase {
	case api.PhSeek:
		return l, seek.Step(c, l, o), false
	case api.PhLook, api.PhClaim:
		return claim.Step(c, l, o)
	case api.PhFirst, api.PhAgain:
		p, effect := sweep.Step(c, l, o)
		return l, p, effect
	case api.PhMark, api.PhSet:
		l, o = hint.Step(c, l, o)
	}
	return l, o, false
}

// Whatever others do between: each step is that of its Phase's layer, and each Phase is come to.
func TestAStepIsThatOfItsPhase(t *testing.T) { // P17.1
	met := map[int]int{}
	for seed := range 3000 {
		r := random(seed)
		p := of([]int{32, 31, 27, 26, 24, 20}[seed%6], []int{1, 2, 3, 64}[r.below(4)])
		l := p.hints(p.fills()[r.below(6)])[r.below(8)]
		o := Begin(r.below(p.c.Shards))
		for range 60 {
			met[o.Phase]++
			wl, wo, wt := layer(p.c, l, o)
			gl, got, effect := Step(p.c, l, o)
			if !slices.Equal(gl, wl) || !same(got, wo) || effect != wt {
				t.Fatalf("/%d, %+v: %+v, %v, not %+v, %v, or other cells", p.c.Block.Prefix, o, got, effect, wo, wt)
			}
			l, o = slices.Clone(gl), got
			p.meddle(&r, l, 4)
		}
	}
	for phase := api.PhDone; phase <= api.PhAgain; phase++ {
		if met[phase] < 100 {
			t.Errorf("the phase %d: %d times", phase, met[phase])
		}
	}
}

// meddle is what others may do to the cells: once in so many times one of them claims or drops
// an address, or writes whatever it will into a summary.
func (p pool) meddle(r *random, l []uint64, rarely int) {
	if r.below(rarely) > 0 {
		return
	}
	if r.below(3) == 0 {
		l[p.leaves+r.below(p.tops+1)] = r.word() &^ uint64(r.below(4))
		return
	}
	off := r.below(p.many)
	if slices.Contains(p.c.Held, off) {
		return
	}
	change := word.Claim
	if r.below(2) == 0 {
		change = word.Drop
	}
	l[off/32] = change(l[off/32], off%32)
}

// Of a new pool of /30: the first address, in four steps.
func TestANewPoolOfFour(t *testing.T) { // P17.1, P17.2, the chapter's example
	for held, first := range [][]int{nil, {0}, {0, 3}, {3}, {0, 1}} {
		p := of(30, 1, first...)
		off := []int{0, 1, 1, 0, 2}[held]
		phases := []int{api.PhSeek}
		a := p.run(t, course{l: word.Cells(p.c), o: Begin(0)}, 4, func(a course) {
			if a.steps > 0 {
				phases = append(phases, a.o.Phase)
			}
		})
		if !slices.Equal(phases, []int{api.PhSeek, api.PhSeek, api.PhLook, api.PhClaim}) {
			t.Errorf("%v", phases)
		}
		p.checkEnd(t, a, 4, off)
		if a.l[0] != with(word.New(p.c, 0), off, true)+once || !slices.Equal(a.effects, []int{4}) {
			t.Errorf("%#x, the effects at %v", a.l, a.effects)
		}
	}
}

// The one address of a block: the claim is the fourth of eight steps, and the top and the root
// are marked; a further grant sees that in the root, and reads the leaf twice.
func TestOneAddress(t *testing.T) { // P17.2
	p := of(32, 1)
	a := p.run(t, course{l: word.Cells(p.c), o: Begin(0)}, 99, nobody)
	p.checkEnd(t, a, 8, 0)
	if !slices.Equal(a.effects, []int{4}) || !slices.Equal(a.l, []uint64{once + low, all, all}) {
		t.Errorf("the effects at %v, %#x", a.effects, a.l)
	}
	b := p.run(t, course{l: a.l, o: Begin(0)}, 99, nobody)
	p.checkEnd(t, b, 3, -1)
	if !slices.Equal(b.effects, []int{3}) || !slices.Equal(a.l, b.l) {
		t.Errorf("the effects at %v, %#x", b.effects, b.l)
	}
	p = of(32, 1, 0)
	p.checkEnd(t, p.run(t, course{l: word.Cells(p.c), o: Begin(0)}, 99, nobody), 3, -1)
}

// pools are those of that prefix, of one shard and of many, each with each of helds.
func pools(prefix int) []pool {
	var l []pool
	for _, shards := range []int{1, 2, 3, 64} {
		for _, held := range of(prefix, shards).helds() {
			l = append(l, of(prefix, shards, held...))
		}
	}
	return l
}

// homes are the first one, one in the middle and the last one.
func (p pool) homes() []int {
	return slices.Compact([]int{0, p.c.Shards / 2, p.c.Shards - 1})
}

// Of each block and pool, whatever is used, and is told by the summaries. (Of many leaves, one
// of so many of these, spread over them.)
func TestAGrantAlone(t *testing.T) { // P17.1, P17.2
	for _, x := range []struct{ prefix, every int }{
		{32, 1}, {31, 1}, {30, 1}, {28, 1}, {27, 1}, {26, 1}, {25, 1}, {24, 5}, {21, 11}, {20, 11}, {18, 31}, {16, 41},
	} {
		n, ends := 0, map[api.Errno]int{}
		for _, p := range pools(x.prefix) {
			for _, fill := range p.fills() {
				for _, l := range p.hints(fill) {
					for _, home := range p.homes() {
						if n++; n%x.every == 0 {
							ends[p.checkAlone(t, l, home).o.Answer.Err]++
						}
					}
				}
			}
		}
		if ends[api.OK] < 10 || ends[api.ErrFull] < 4 {
			t.Errorf("/%d: the ends: %v", x.prefix, ends)
		}
	}
}

// The address is the offset's, wherever the block begins.
func TestWhereverTheBlockBegins(t *testing.T) { // P17.2
	for _, prefix := range []int{32, 31, 27, 26, 20, 16} {
		p := of(prefix, 3)
		for _, at := range []uint32{0, 0x7fff0000, 0x80000000, math.MaxUint32 - uint32(p.many) + 1} {
			p.c.Block.Base = at
			if !block.May(p.c) {
				t.Fatalf("it may not be: %+v", p.c)
			}
			for _, fill := range p.fills() {
				p.checkAlone(t, fill, 2)
			}
		}
	}
}

// Of 64 shards: of a new pool each home's grant has its own shard's first address or, where that
// has no leaf, that of the next one that has.
func TestFromEachHome(t *testing.T) { // P17.1, P17.2
	for _, prefix := range []int{32, 27, 26, 24, 21, 20, 16} {
		p := of(prefix, 64)
		for home := range 64 {
			want := -1
			for k := 0; want < 0; k++ {
				if from, to := p.span((home + k) % 64); from < to {
					want = 32 * from
				}
			}
			a := p.checkAlone(t, word.Cells(p.c), home)
			p.checkEnd(t, a, a.steps, want)
		}
	}
}

// One address is left, in each leaf of interest: in whichever shard, with hints that are right
// and none that lead there, each home's grant has it.
func TestOneAddressLeft(t *testing.T) { // P17.2
	for _, prefix := range []int{27, 26, 24, 20, 18, 16} {
		for _, shards := range []int{1, 3, 64} {
			p := of(prefix, shards, 0, 31)
			full := p.claimed(func(int, int) bool { return false })
			for _, off := range []int{1, 30, p.many / 2, p.many - 2} {
				if slices.Contains(p.c.Held, off) {
					continue
				}
				l := slices.Clone(full)
				l[off/32] = word.Drop(l[off/32], off%32)
				for _, home := range p.homes() {
					for _, l := range [][]uint64{p.right(l), l, p.wrong(l)} {
						a := p.checkAlone(t, l, home)
						p.checkEnd(t, a, a.steps, off)
						if !p.full(a.l) {
							t.Fatalf("/%d: it isn't full", prefix)
						}
					}
				}
			}
		}
	}
}

// The bound by hand; and a grant alone needs that many steps, where nothing is left, and the
// hints tell room in each shard's last leaf.
func TestTheBound(t *testing.T) { // P17.2
	for _, x := range []struct{ prefix, shards, steps int }{
		{32, 1, 1 + 1 + 1 + 1 + 1 + 4}, {27, 3, 3*2 + 1 + 1 + 1 + 4}, {26, 1, 3 + 2 + 1 + 4}, {26, 2, 2*3 + 2 + 1 + 4}, {25, 2, 2*3 + 4 + 1 + 4}, {24, 3, 3*3 + 2*8},
	} {
		if p := of(x.prefix, x.shards); p.bound() != x.steps {
			t.Errorf("/%d, %d shards: %d, not %d", x.prefix, x.shards, p.bound(), x.steps)
		}
	}
	for _, p := range []pool{of(24, 1), of(24, 3), of(20, 1), of(20, 2), of(20, 3), of(18, 5)} {
		last := make([]bool, p.leaves)
		for shard := range p.c.Shards {
			_, to := p.span(shard)
			last[to-1] = true
		}
		l := p.claimed(func(int, int) bool { return false })
		a := p.checkAlone(t, p.summed(l, func(leaf int, root bool) bool { return root || last[leaf] }), 1%p.c.Shards)
		p.checkEnd(t, a, p.bound(), -1)
	}
}

// Grants one behind the other, from whatever homes: each address once, and then ErrFull, from
// each home. What summaries told rightly, they tell rightly then.
func TestGrantsTillAllIsUsed(t *testing.T) { // P17.2
	for _, prefix := range []int{32, 31, 30, 27, 26, 24, 20, 16} {
		for i, shards := range []int{1, 2, 3, 64} {
			p := of(prefix, shards)
			p.c.Held = p.helds()[(i+prefix)%4]
			if prefix == 16 && shards != 3 { // which is long enough
				continue
			}
			l := p.useUp(t, func(l []uint64) []uint64 { return l })
			if !slices.Equal(l, p.right(l)) {
				t.Fatalf("/%d: the tops and the root: %#x", prefix, l[p.leaves:])
			}
		}
	}
}

// The same with any words in the summaries ahead of each grant.
func TestGrantsTillAllIsUsedWhateverHintsTell(t *testing.T) { // P17.2
	r := random(4)
	for _, prefix := range []int{32, 31, 30, 27, 26, 24, 21} {
		for i, shards := range []int{1, 2, 3, 64} {
			p := of(prefix, shards)
			p.c.Held = p.helds()[(i+prefix)%6]
			p.useUp(t, func(l []uint64) []uint64 {
				l = slices.Clone(l)
				for cell := p.leaves; cell < len(l); cell++ {
					l[cell] = []uint64{0, all, r.word()}[r.below(3)]
				}
				return l
			})
		}
	}
}

// useUp has grants of a new pool one behind the other, ahead of each of which others do theirs,
// and answers the cells then.
func (p pool) useUp(t *testing.T, others func(l []uint64) []uint64) []uint64 {
	t.Helper()
	l, met, n := word.Cells(p.c), map[uint32]bool{}, len(p.usable())
	for i := range n {
		a := p.run(t, course{l: others(l), o: Begin(i % p.c.Shards)}, p.bound(), nobody)
		if a.o.Phase != api.PhDone || a.o.Answer.Err != api.OK || met[a.o.Answer.Addr] || len(a.effects) != 1 {
			t.Fatalf("/%d, the grant %d: %d steps, %+v", p.c.Block.Prefix, i, a.steps, a.o)
		}
		met[a.o.Answer.Addr] = true
		l = a.l
	}
	for home := range p.c.Shards {
		a := p.run(t, course{l: others(l), o: Begin(home)}, p.bound(), nobody)
		p.checkEnd(t, a, a.steps, -1)
	}
	return l
}

// The bit that it looked at is claimed by another one, so many times: it looks again, and has
// the next one that is free, by one effect.
func TestTheBitIsClaimedByAnother(t *testing.T) { // P17.2
	p := of(26, 1, 0, 2)
	free := p.usable()
	for times := range 20 {
		a := p.run(t, course{l: word.Cells(p.c), o: Begin(0)}, 999, func(a course) {
			if a.o.Phase == api.PhClaim && a.steps < 3+2*times {
				a.l[0] = word.Claim(a.l[0], a.o.Bit)
			}
		})
		p.checkEnd(t, a, 4+2*times, free[times])
		if !slices.Equal(a.effects, []int{a.steps}) || a.o.Sought != 0 {
			t.Errorf("%d times: the effects at %v, %+v", times, a.effects, a.o)
		}
	}
}

// Another bit of the leaf is claimed, or the bit is claimed and dropped: the leaf isn't what it
// was, and is looked at again; the bit is free still.
func TestTheLeafIsChangedByAnother(t *testing.T) { // P17.2
	p := of(26, 1)
	for i, change := range []func(w uint64) uint64{
		func(w uint64) uint64 { return word.Claim(w, 9) },
		func(w uint64) uint64 { return word.Drop(w, 9) },
		func(w uint64) uint64 { return word.Drop(word.Claim(w, 0), 0) },
	} {
		a := p.run(t, course{l: word.Cells(p.c), o: Begin(0)}, 999, func(a course) {
			if a.steps == 3 {
				a.l[0] = change(a.l[0])
			}
		})
		p.checkEnd(t, a, 6, 0)
		if a.l[0] != with(change(0), 0, true)+once {
			t.Errorf("%d: %#x", i, a.l[0])
		}
	}
}

// The last free bit of its leaf is claimed by another one, ahead of each step: from the claim
// on it is too late, else it seeks on, in the next shard or, without one, by a sweep.
func TestTheLastBitOfItsLeafIsClaimedByAnother(t *testing.T) { // P17.2
	for _, shards := range []int{1, 2} {
		p := of(26, shards)
		start := p.claimed(func(i, _ int) bool { return i == 5 || i == 40 })
		for point := range 8 {
			a := p.run(t, course{l: start, o: Begin(0)}, 99, func(a course) {
				if a.steps == point {
					a.l[0] = word.Claim(a.l[0], 5)
				}
			})
			on := shards + 1 // two leaves are read; or the root, the top, and the leaf 1
			switch {
			case point <= 2: // the leaf 1 is claimed, and the top marked, which tells room in the leaf 0
				p.checkEnd(t, a, 3+on+1+2, 40)
			case point == 3: // the claim failed, and the leaf 0 was looked at again
				p.checkEnd(t, a, 5+on+1+2, 40)
			default: // it was late; the top, marked, tells room in the leaf 1
				p.checkEnd(t, a, 6, 5)
			}
		}
	}
}

// The last address of all is claimed by another one: ErrFull, at the end of a sweep.
func TestTheLastAddressIsClaimedByAnother(t *testing.T) { // P17.2
	for _, prefix := range []int{32, 31, 27, 26, 24} {
		for shards := 1; shards <= 3; shards++ {
			p := of(prefix, shards)
			start := p.claimed(func(i, n int) bool { return i == n-1 })
			last := p.many - 1
			winner := p.checkAlone(t, start, 0)
			for point := range winner.effects[0] + 1 {
				a := p.run(t, course{l: start, o: Begin(0)}, 2*p.bound(), func(a course) {
					if a.steps == point {
						a.l[last/32] = word.Claim(a.l[last/32], last%32)
					}
				})
				if point < winner.effects[0] {
					p.checkEnd(t, a, a.steps, -1)
				} else { // the other one is late
					p.checkEnd(t, a, winner.steps, last)
				}
			}
		}
	}
}

// All is used, and an address of a leaf is given back ahead of each step of the sweep: it has
// it, if that was ahead of the leaf's second reading; behind that all was used when the first
// collect ended.
func TestAnAddressIsGivenBackWhileItSweeps(t *testing.T) { // P17.2
	for _, prefix := range []int{32, 27, 26, 24} {
		for shards := 1; shards <= 3; shards++ {
			p := of(prefix, shards)
			start := p.claimed(func(int, int) bool { return false })
			for _, leaf := range slices.Compact([]int{0, p.leaves / 2, p.leaves - 1}) {
				for point := range shards + 2*p.leaves {
					a := p.run(t, course{l: start, o: Begin(shards - 1)}, 99, func(a course) {
						if a.steps == point {
							a.l[leaf] = word.Drop(a.l[leaf], 0)
						}
					})
					read := shards + leaf // its first reading, counted from 0
					const marks = 2       // the top's bit is set still, and so is the root's
					switch {
					case point <= read:
						p.checkEnd(t, a, read+1+1+marks, 32*leaf)
					case point <= read+p.leaves:
						p.checkEnd(t, a, read+p.leaves+1+leaf+1+1+marks, 32*leaf)
					default:
						p.checkEnd(t, a, shards+2*p.leaves, -1)
					}
				}
			}
		}
	}
}

// What it found by a sweep is claimed by another one, and it looks, and sweeps, again; so many
// times, till others leave it alone.
func TestOthersHinderASweep(t *testing.T) { // P17.2
	for _, prefix := range []int{32, 27, 26, 24} {
		for times := range 5 {
			p := of(prefix, 2)
			leaf, n := p.leaves-1, 0
			start := p.claimed(func(int, int) bool { return false })
			hindered := p.run(t, course{l: start, o: Begin(1)}, (times+1)*(2*p.leaves+9), func(a course) {
				switch {
				case n == times:
				case a.o.Phase == api.PhFirst && a.o.At == leaf: // it is given back, and so found
					a.l[leaf] = word.Drop(a.l[leaf], 0)
				case a.o.Phase == api.PhClaim: // and lent
					a.l[leaf] = word.Claim(a.l[leaf], 0)
					n++
				}
			})
			p.checkEnd(t, hindered, 2+times*(p.leaves+2)+2*p.leaves, -1)
			if n != times || hindered.o.Sought != 2+times {
				t.Errorf("/%d: %d of %d times, %+v", prefix, n, times, hindered.o)
			}
		}
	}
}

// Another one writes whatever it will into the top, or the root, ahead of each step of marking:
// the grant has its address, and ends, no later than alone and by no other effect.
func TestSummariesAreChangedByOthers(t *testing.T) { // P17.2
	p := of(26, 1)
	start := p.claimed(func(i, _ int) bool { return i == 7 })
	for point := 4; point < 8; point++ {
		for cell := 2; cell < 4; cell++ {
			for _, w := range []uint64{0, all, all - 1, 5, 1 << 63} {
				a := p.run(t, course{l: start, o: Begin(0)}, 8, func(a course) {
					if a.steps == point {
						a.l[cell] = w
					}
				})
				p.checkEnd(t, a, a.steps, 7)
				if !slices.Equal(a.effects, []int{4}) {
					t.Errorf("the effects at %v", a.effects)
				}
			}
		}
	}
}

// schedules has two grants do their steps in each order that there is, and hands their ends to
// f, with the cells.
func (p pool) schedules(t *testing.T, l []uint64, two [2]course, f func(l []uint64, two [2]course)) {
	done := true
	for i := range two {
		if two[i].o.Phase == api.PhDone {
			continue
		}
		done = false
		then := two
		then[i].l = l
		then[i] = p.next(t, then[i])
		p.schedules(t, then[i].l, then, f)
	}
	if done {
		f(l, two)
	}
}

// Two grants of one or two addresses, in each order of their steps: no address is granted twice,
// and ErrFull is told just if there is none left.
func TestTwoGrantsInEachOrder(t *testing.T) { // P17.2
	for _, x := range []struct{ prefix, shards, free, ends int }{
		{32, 1, 1, 1}, {32, 2, 1, 1}, {31, 1, 1, 1}, {31, 1, 2, 2}, {30, 2, 2, 2}, {26, 1, 1, 1}, {26, 2, 2, 2},
	} {
		p := of(x.prefix, x.shards)
		l := p.claimed(func(i, n int) bool { return i < x.free })
		n := 0
		p.schedules(t, l, [2]course{{o: Begin(0)}, {o: Begin(x.shards - 1)}}, func(l []uint64, two [2]course) {
			n++
			got := map[uint32]bool{}
			for _, a := range two {
				if a.o.Answer.Err == api.OK {
					got[a.o.Answer.Addr] = true
				}
				if len(a.effects) != 1 {
					t.Fatalf("the effects: %v, %+v", a.effects, a.o)
				}
			}
			if len(got) != x.ends || !p.full(l) {
				t.Fatalf("/%d: %+v, %+v, %#x", x.prefix, two[0].o, two[1].o, l)
			}
		})
		if n < 70 {
			t.Errorf("/%d: %d orders", x.prefix, n)
		}
	}
}

// Some grants, and others who claim, drop, and write into summaries, at any time, by a fixed
// rule: each takes effect once, ErrFull is told just where all was used at some step since it
// was asked; and wherever it is, alone it ends soon, with an address, if one is free.
func TestGrantsAmongOthers(t *testing.T) { // P17.2
	among, alone := map[api.Errno]int{}, map[api.Errno]int{}
	for seed := range 4000 {
		r := random(seed)
		p := of([]int{32, 31, 30, 27, 26, 25}[seed%6], 1+r.below(4), []int{0}[:seed/6%2]...)
		l := p.claimed(func(int, int) bool { return r.below(5) == 0 })
		grants := make([]course, 1+r.below(4))
		full := make([]bool, len(grants)) // was all used at some step ahead of its effect?
		for i := range grants {
			grants[i].o, full[i] = Begin(r.below(p.c.Shards)), p.full(l)
		}
		for range 60 {
			i := r.below(len(grants))
			l = slices.Clone(l)
			p.meddle(&r, l, 1+seed%7)
			grants[i].l = l
			grants[i] = p.run(t, grants[i], grants[i].steps+1, nobody)
			l = grants[i].l
			for k, a := range grants {
				full[k] = full[k] || len(a.effects) == 0 && p.full(l)
			}
		}
		for i, a := range grants {
			ends := alone
			if len(a.effects) > 0 {
				ends = among
			}
			isFull := p.full(l)
			full[i] = full[i] || len(a.effects) == 0 && isFull
			hadAny := len(a.effects) == 0 && !isFull
			a.l = l
			a = p.run(t, a, a.steps+2*p.bound(), nobody)
			if a.o.Phase != api.PhDone || len(a.effects) != 1 {
				t.Fatalf("/%d: the effects at %v, %d steps, %+v", p.c.Block.Prefix, a.effects, a.steps, a.o)
			}
			if err := a.o.Answer.Err; err == api.ErrFull && (!full[i] || hadAny) {
				t.Fatalf("/%d: ErrFull, and one was free: %+v", p.c.Block.Prefix, a.o)
			}
			ends[a.o.Answer.Err]++
			l = a.l
		}
	}
	if min(among[api.OK], among[api.ErrFull], alone[api.OK], alone[api.ErrFull]) < 100 {
		t.Errorf("the ends: among others %v, alone %v", among, alone)
	}
}

// roomy is l with such a one behind its length, so that a write there shows.
func roomy[T any](room T, l ...T) []T { return append(slices.Clone(l), room, room)[:len(l)] }

// whole is an operation in that Phase, of a block of two leaves, with lists that have room
// behind them; made again, it is the same.
func whole(phase, at int) api.Op {
	seen := []uint64{once + low, low}
	if phase != api.PhAgain {
		seen = seen[:at]
	}
	return api.Op{
		Ask:    api.Ask{Kind: api.Grant, Addrs: roomy(77, uint32(5), 6)},
		Answer: api.Answer{Addrs: roomy(77, uint32(4), 5), Errs: roomy(api.ErrBusy, api.ErrFree, api.OK)},
		Phase:  phase, Shard: 1, Sought: 1, Leaf: 1, Bit: 3, Word: low - 8, Full: true,
		Seen: roomy(77, seen...), At: at,
	}
}

// rooms are the operation's lists with the room behind them.
func rooms(o api.Op) []any {
	return []any{o.Ask.Addrs[:4], o.Answer.Addrs[:4], o.Answer.Errs[:4], o.Seen[:len(o.Seen)+2]}
}

// each calls f with cells, with room behind them, and operations of each Phase, of a grant and
// of none, so that each end of a step is come to.
func each(f func(l []uint64, phase, at int)) {
	for phase := range 11 {
		for at := range 2 {
			for _, w := range []uint64{low - 8, low, once + low} {
				for _, sum := range []uint64{low - 8, all, all - 1} {
					f(roomy(77, w, w, sum, sum), phase, at)
				}
			}
		}
	}
}

func TestWhatIsHandedInStays(t *testing.T) { // P17.3
	each(func(l []uint64, phase, at int) {
		c := of(26, 2, roomy(9, 1, 2)...).c
		o, was, cells := whole(phase, at), whole(phase, at), slices.Clone(l[:6])
		Step(c, l, o)
		if !slices.Equal(l[:6], cells) || !slices.Equal(c.Held[:4], []int{1, 2, 9, 9}) {
			t.Errorf("%+v: cells, or Held, changed: %#x, %v", was, l[:6], c.Held[:4])
		}
		if !reflect.DeepEqual(o, was) || !reflect.DeepEqual(rooms(o), rooms(was)) {
			t.Errorf("%+v changed: %+v", was, o)
		}
	})
}

// fill writes x into a list, and into the room behind it.
func fill[T any](l []T, x T) {
	for i := range l[:cap(l)] {
		l[:cap(l)][i] = x
	}
}

// scrawl writes into all lists of an answer: the chapter lets none be shared, not even what
// the request holds.
func scrawl(o api.Op) {
	fill(o.Ask.Addrs, 1234)
	fill(o.Answer.Addrs, 1234)
	fill(o.Answer.Errs, 1234)
	fill(o.Seen, 1234)
}

// The lists of an answer are its own; so are cells that were written.
func TestWhatIsAnsweredIsNewMemory(t *testing.T) { // P17.3
	wrote := 0
	each(func(l []uint64, phase, at int) {
		c, cells := of(26, 2).c, slices.Clone(l[:6])
		o, was := whole(phase, at), whole(phase, at)
		m, one, _ := Step(c, l, o)
		n, other, _ := Step(c, l, o)
		then, _, _ := Step(c, l, o)
		_, again, _ := Step(c, l, o)
		scrawl(one)
		if !slices.Equal(m, l) {
			fill(m, 1234)
			wrote++
		}
		if !slices.Equal(l[:6], cells) || !slices.Equal(n, then) {
			t.Errorf("%+v: a write into the answer's cells shows in others", was)
		}
		if !reflect.DeepEqual(o, was) || !reflect.DeepEqual(rooms(o), rooms(was)) {
			t.Errorf("%+v: a write into the answer shows in what was handed in: %+v", was, o)
		}
		if !same(other, again) || slices.Contains(other.Ask.Addrs, 1234) || slices.Contains(other.Seen, 1234) {
			t.Errorf("%+v: a write into an answer shows in another one: %+v", was, other)
		}
	})
	if wrote < 4 {
		t.Errorf("cells were written %d times", wrote)
	}
	a, b := Begin(0), Begin(0)
	scrawl(a)
	if !same(a, b) {
		t.Errorf("%+v, %+v", a, b)
	}
}

// Two lists of one answer share nothing, though those that were handed in did, and Seen was
// the cells.
func TestNoTwoListsOfAnAnswerShareMemory(t *testing.T) { // P17.3
	each(func(l []uint64, phase, at int) {
		one, cells, o := []uint32{5, 6}, slices.Clone(l), whole(phase, at)
		o.Ask.Addrs, o.Answer.Addrs, o.Seen = one, one, l[:len(o.Seen)]
		_, got, _ := Step(of(26, 2).c, l, o)
		fill(got.Answer.Addrs, 1234)
		fill(got.Seen, 1234)
		if !slices.Equal(got.Ask.Addrs, []uint32{5, 6}) || !slices.Equal(one, []uint32{5, 6}) || !slices.Equal(l, cells) {
			t.Errorf("%+v: %v, %#x", o, one, l)
		}
	})
}

// Nil and empty lists are one, handed in and answered.
func TestNilAndEmptyLists(t *testing.T) { // P17.1
	each(func(l []uint64, phase, at int) {
		o := whole(phase, at)
		o.Ask.Addrs, o.Answer.Addrs, o.Answer.Errs, o.Seen = nil, nil, nil, nil
		e := o
		e.Ask.Addrs, e.Answer.Addrs, e.Answer.Errs, e.Seen = []uint32{}, []uint32{}, []api.Errno{}, []uint64{}
		m, a, x := Step(of(26, 2).c, l, o)
		n, b, y := Step(of(26, 2, []int{}...).c, l, e)
		if !slices.Equal(m, n) || !same(a, b) || x != y {
			t.Errorf("%+v, %+v", a, b)
		}
	})
}

// The same is answered each time, and workers, queues and tries are nothing to it.
func TestAnswersHangOnArgumentsAlone(t *testing.T) { // P17.1
	each(func(l []uint64, phase, at int) {
		c := of(26, 2).c
		m, a, x := Step(c, l, whole(phase, at))
		for range 3 {
			c.Workers, c.Queue, c.Tries = c.Workers+1, c.Queue+1, c.Tries+1
			if n, b, y := Step(c, l, whole(phase, at)); !slices.Equal(m, n) || !same(a, b) || x != y {
				t.Errorf("%+v, %+v", a, b)
			}
		}
	})
}

// A grant that is done, and an operation in a Phase that no grant comes to, stay.
func TestPhasesWithoutAStep(t *testing.T) { // P17.1
	each(func(l []uint64, _, at int) {
		for _, phase := range []int{api.PhDone, api.PhRead, api.PhDrop, 10, -1, math.MinInt, math.MaxInt} {
			o := whole(0, at)
			o.Phase = phase
			if m, p, effect := Step(of(26, 2).c, l, o); !slices.Equal(m, l) || !same(p, o) || effect {
				t.Errorf("the phase %d: %#x, %+v, %v", phase, m, p, effect)
			}
		}
	})
}

// The chapter promises nothing of these but that the calls end and don't panic.
func TestNothingPanics(t *testing.T) { // P1
	odd := []int{math.MinInt, -65536, -64, -1, 0, 1, 2, 31, 32, 64, 2048, math.MaxInt - 1, math.MaxInt}
	few := [][]uint64{nil, {5}, {5, all, 5}, slices.Repeat([]uint64{low}, 40)}
	confs := []api.Conf{{}}
	for _, prefix := range []int{math.MinInt, -1, 0, 15, 16, 27, 32, 33, math.MaxInt} {
		for _, n := range []int{math.MinInt, -1, 0, 1, 65, math.MaxInt} {
			c := api.Conf{Block: api.Block{Base: 7, Prefix: prefix}, Held: []int{-1, math.MaxInt, 3, 3}, Shards: n, Workers: n, Queue: n, Tries: n}
			confs = append(confs, c)
		}
	}
	for i, c := range confs {
		for j, leaf := range odd {
			for k, n := range odd {
				for phase := -1; phase <= 10; phase++ {
					kind := []int{api.Grant, api.Batch, api.Exact, api.Snapshot, 0, math.MaxInt}[(i+j+k)%6]
					l, seen := few[(i+j+k)%4], few[(i+2*j+3*k)%4]
					o := api.Op{Ask: api.Ask{Kind: kind, Addrs: []uint32{0, 1 << 31, math.MaxUint32}}, Phase: phase, Shard: n, Sought: leaf, Leaf: leaf, Bit: n, Word: 5, Full: j%2 == 0, Seen: seen, At: n, Tries: n, Item: n, Stamp: leaf}
					Step(c, l, o)
				}
			}
		}
	}
}

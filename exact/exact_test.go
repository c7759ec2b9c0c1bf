package exact

import (
	"math"
	"reflect"
	"slices"
	"testing"

	"lodger/api"
	"lodger/ask"
	"lodger/block"
	"lodger/claim"
	"lodger/hint"
	"lodger/word"
)

// low are a leaf's bits, all set; once is one change of it; all is a word all of whose bits are
// set; base is where the tests' blocks begin, if nothing else is said.
const (
	low  = uint64(1)<<32 - 1
	once = uint64(1) << 32
	all  = uint64(math.MaxUint64)
	base = uint32(0x0a010000)
)

// pool is a configuration, and how much its block has.
type pool struct {
	c                  api.Conf
	many, leaves, tops int
}

// of answers the pool of that prefix and those reserved offsets.
func of(prefix int, held ...int) pool {
	many := 1 << (32 - prefix)
	leaves := (many + 31) / 32
	c := api.Conf{Block: api.Block{Base: base, Prefix: prefix}, Held: held, Shards: 2, Workers: 3, Queue: 4, Tries: 5}
	return pool{c: c, many: many, leaves: leaves, tops: (leaves + 63) / 64}
}

// top and root are the places of the cells in which a leaf is summed, and the tops are.
func (p pool) top(leaf int) int { return p.leaves + leaf/64 }
func (p pool) root() int        { return p.leaves + p.tops }

// addr is the address of that offset, and ask the request of that Kind for it.
func (p pool) addr(off int) uint32        { return p.c.Block.Base + uint32(off) }
func (p pool) ask(kind, off int) api.Ask  { return api.Ask{Kind: kind, Addr: p.addr(off)} }
func (p pool) begin(kind, off int) course { return course{o: Begin(p.c, p.ask(kind, off))} }

// kinds are those of an exact grant and of a question.
func kinds() []int { return []int{api.Exact, api.Query} }

// set tells whether the bit is; with is w whose bit is so.
func set(w uint64, bit int) bool { return w>>bit%2 == 1 }
func with(w uint64, bit int, is bool) uint64 {
	if set(w, bit) != is {
		w ^= 1 << bit
	}
	return w
}

// random is a source of numbers by a fixed rule.
type random uint64

func (r *random) below(n int) int {
	*r = *r*6364136223846793005 + 1442695040888963407
	return int(uint64(*r) >> 32 % uint64(n))
}
func (r *random) word() uint64 { return uint64(r.below(1<<32))<<32 + uint64(r.below(1<<32)) }

// row are the n numbers from first on.
func row(first, n int) []int {
	var l []int
	for i := range n {
		l = append(l, first+i)
	}
	return l
}

// usable are the offsets that aren't reserved.
func (p pool) usable() []int {
	return slices.DeleteFunc(row(0, p.many), func(off int) bool { return slices.Contains(p.c.Held, off) })
}

// some are offsets of interest that aren't reserved: the first and the last one that aren't,
// those in the middle, and those at leaves' edges, and tops'.
func (p pool) some() []int {
	u := p.usable()
	if len(u) == 0 {
		return nil
	}
	l := []int{u[0], u[len(u)-1], u[len(u)/2], u[len(u)/3]}
	for _, off := range []int{1, 31, 32, 33, 63, 64, 2047, 2048, p.many/2 - 1, p.many - 32, p.many - 33} {
		if slices.Contains(u, off) {
			l = append(l, off)
		}
	}
	slices.Sort(l)
	return slices.Compact(l)
}

// claimed are the first cells, but all used that free doesn't tell of, with summaries that are
// right.
func (p pool) claimed(free func(off int) bool) []uint64 {
	l := word.Cells(p.c)
	for _, off := range p.usable() {
		if !free(off) {
			l[off/32] = word.Claim(l[off/32], off%32)
		}
	}
	return p.right(l)
}

// right are those cells with summaries that are, wrong with such as tell room where there is
// none, and none where there is.
func (p pool) right(l []uint64) []uint64 {
	return p.summed(l, func(leaf int) bool { return l[leaf]%once != low })
}
func (p pool) wrong(l []uint64) []uint64 {
	return p.summed(l, func(leaf int) bool { return l[leaf]%once == low })
}

// summed are those cells with summaries that tell room where it is told.
func (p pool) summed(l []uint64, room func(leaf int) bool) []uint64 {
	l = slices.Clone(l)
	for cell := p.leaves; cell < len(l); cell++ {
		l[cell] = all
	}
	for leaf := range p.leaves {
		if room(leaf) {
			l[p.top(leaf)] = with(l[p.top(leaf)], leaf%64, false)
			l[p.root()] = with(l[p.root()], leaf/64, false)
		}
	}
	return l
}

// hints are those cells with summaries that are right, that are wrong, that tell room all over
// and nowhere, all of whose bits aren't set, with any words there, and with such as lack but one
// bit, of that leaf or of its top.
func (p pool) hints(l []uint64, leaf int) [][]uint64 {
	none, some, top, root := slices.Clone(l), slices.Clone(l), slices.Clone(l), slices.Clone(l)
	r := random(len(l))
	for cell := p.leaves; cell < len(l); cell++ {
		none[cell], some[cell], top[cell], root[cell] = 0, r.word(), all, all
	}
	top[p.top(leaf)] = with(all, leaf%64, false)
	root[p.root()] = with(all, leaf/64, false)
	return [][]uint64{
		p.right(l), p.wrong(l), none, some, top, root,
		p.summed(l, func(int) bool { return true }),
		p.summed(l, func(int) bool { return false }),
	}
}

// fills are cells of a new pool, of one every other address of which is used, and its opposite,
// of one in which all are but the offset, or it alone is, of one that is full, and of one that
// is but for the offset and its neighbours.
func (p pool) fills(off int) [][]uint64 {
	return [][]uint64{
		p.claimed(func(int) bool { return true }),
		p.claimed(func(x int) bool { return x%2 == 0 }),
		p.claimed(func(x int) bool { return x%2 != 0 }),
		p.claimed(func(x int) bool { return x == off }),
		p.claimed(func(x int) bool { return x != off }),
		p.claimed(func(int) bool { return false }),
		p.claimed(func(x int) bool { return x-off < 2 && off-x < 2 }),
	}
}

// helds are reserved offsets: none, at the beginning, at the end, both and one between, and as
// many as can be at the beginning and at the end, but one that is left in a small block.
func (p pool) helds() [][]int {
	n := min(p.many-1, 64)
	return [][]int{
		nil, row(0, min(n, 1)), row(p.many-min(n, 1), min(n, 1)),
		slices.Compact([]int{0, p.many / 2, p.many - 1})[:min(n, 3)],
		row(0, n), row(p.many-n, n),
	}
}

// pools are those of that prefix, each with each of helds.
func pools(prefix int) []pool {
	var l []pool
	for _, held := range of(prefix).helds() {
		l = append(l, of(prefix, held...))
	}
	return l
}

// same tells whether the operations are, nil and empty lists being one.
func same(a, b api.Op) bool {
	for _, o := range []*api.Op{&a, &b} {
		o.Ask.Addrs = append([]uint32(nil), o.Ask.Addrs...)
		o.Answer.Addrs = append([]uint32(nil), o.Answer.Addrs...)
		o.Answer.Errs = append([]api.Errno(nil), o.Answer.Errs...)
		o.Seen = append([]uint64(nil), o.Seen...)
	}
	return reflect.DeepEqual(a, b)
}

// course is how far an operation is: the cells, the operation, how many steps it did, and with
// which of them, counted from 1, it took effect.
type course struct {
	l       []uint64
	o       api.Op
	steps   int
	effects []int
}

// changes are the places of the cells that aren't what they were.
func changes(was, l []uint64) []int {
	var places []int
	for cell, w := range l {
		if w != was[cell] {
			places = append(places, cell)
		}
	}
	return places
}

// next does a step, and holds it against what each may do: take effect, once, and tell by that
// how the bit is, or claim it and nothing else, if it wasn't set; or change no leaf, and no
// summary but where one is written. The request, the Leaf and the Bit are what they were.
func (p pool) next(t *testing.T, a course) course {
	t.Helper()
	l, o, effect := Step(p.c, a.l, a.o)
	if len(l) != len(a.l) || !ask.Same(o.Ask, a.o.Ask) || o.Leaf != a.o.Leaf || o.Bit != a.o.Bit {
		t.Fatalf("%+v: %d cells, not %d, %+v", a.o, len(l), len(a.l), o)
	}
	leaf, bit := a.o.Leaf, a.o.Bit
	used, changed, right := set(a.l[leaf], bit), changes(a.l, l), false
	switch {
	case effect && a.o.Phase == api.PhRead:
		want := api.Answer{Used: used}
		if a.o.Ask.Kind == api.Exact {
			want = api.Answer{Err: api.ErrUsed}
		}
		right = reflect.DeepEqual(o.Answer, want) && len(changed) == 0 && o.Phase == api.PhDone && (used || want.Err == api.OK)
	case effect:
		right = a.o.Phase == api.PhClaim && a.o.Ask.Kind == api.Exact && !used && slices.Equal(changed, []int{leaf}) &&
			l[leaf] == with(a.l[leaf], bit, true)+once && reflect.DeepEqual(o.Answer, api.Answer{Addr: a.o.Ask.Addr})
	case a.o.Phase == api.PhSet:
		right = len(changed) == 0 || len(changed) == 1 && changed[0] >= p.leaves
	default:
		right = len(changed) == 0
	}
	if !right || effect && len(a.effects) > 0 {
		t.Fatalf("%+v: %+v, %v, the cells %v changed, the bit used: %v, effects at %v", a.o, o, effect, changed, used, a.effects)
	}
	if effect {
		a.effects = append(slices.Clip(a.effects), a.steps+1)
	}
	return course{l, o, a.steps + 1, a.effects}
}

// run does an operation's steps until it is done, but at most so many; ahead of each one others
// do theirs, in the cells.
func (p pool) run(t *testing.T, a course, most int, others func(a course)) course {
	t.Helper()
	a.l = slices.Clone(a.l)
	for a.o.Phase != api.PhDone && a.steps < most {
		others(a)
		a = p.next(t, a)
	}
	return a
}

// nobody does nothing.
func nobody(course) {}

// meant is what an operation comes to alone, from the chapters' words: the whole of it.
func (p pool) meant(l []uint64, kind, off int) course {
	leaf, bit := off/32, off%32
	used := set(l[leaf], bit)
	a := course{l: slices.Clone(l), o: api.Op{Ask: p.ask(kind, off), Leaf: leaf, Bit: bit}, steps: 1, effects: []int{1}}
	switch {
	case kind == api.Query:
		a.o.Answer.Used = used
		return a
	case used:
		a.o.Answer.Err = api.ErrUsed
		return a
	}
	a.steps, a.effects, a.o.Answer.Addr = 2, []int{2}, p.addr(off)
	a.l[leaf] = with(l[leaf], bit, true) + once
	for _, sum := range [][2]int{{p.top(leaf), leaf % 64}, {p.root(), leaf / 64}} {
		if a.l[leaf]%once != low {
			break
		}
		a.steps++
		if w := with(a.l[sum[0]], sum[1], true); w != a.l[sum[0]] {
			a.l[sum[0]], a.steps = w, a.steps+1
		}
		if a.l[sum[0]] != all {
			break
		}
	}
	return a
}

// checkAlone holds an operation alone, step by step, against what it comes to: a question in one
// step, an exact grant in six at most, which has its address just if that was free.
func (p pool) checkAlone(t *testing.T, l []uint64, kind, off int) course {
	t.Helper()
	most := map[int]int{api.Exact: 6, api.Query: 1}[kind]
	want, a := p.meant(l, kind, off), p.begin(kind, off)
	a.l = l
	a = p.run(t, a, most, nobody)
	if !slices.Equal(a.l, want.l) || !same(a.o, want.o) || a.steps != want.steps || !slices.Equal(a.effects, want.effects) {
		t.Fatalf("/%d, %v reserved, the Kind %d, the offset %d, the tops and the root %#x: %d steps, not %d, the effects at %v, not %v,\n%+v, not\n%+v, or other cells",
			p.c.Block.Prefix, p.c.Held, kind, off, l[p.leaves:], a.steps, want.steps, a.effects, want.effects, a.o, want.o)
	}
	if used := set(l[off/32], off%32); kind == api.Exact && used != (a.o.Answer.Err != api.OK) || !set(a.l[off/32], off%32) && (used || kind == api.Exact) {
		t.Fatalf("used: %v: %+v", used, a.o)
	}
	return a
}

func TestTheConfigurationsMayBe(t *testing.T) {
	for _, x := range [][4]int{{32, 1, 1, 1}, {30, 4, 1, 1}, {27, 32, 1, 1}, {26, 64, 2, 1}, {21, 2048, 64, 1}, {20, 4096, 128, 2}, {16, 65536, 2048, 32}} {
		for _, p := range pools(x[0]) {
			if !block.May(p.c) || p.many != x[1] || p.leaves != x[2] || p.tops != x[3] || len(word.Cells(p.c)) != p.root()+1 || len(p.some()) == 0 {
				t.Errorf("%+v", p)
			}
			for _, off := range p.some() {
				if ask.Check(p.c, p.ask(api.Exact, off)) != api.OK || ask.Check(p.c, p.ask(api.Query, off)) != api.OK {
					t.Errorf("%+v: the offset %d", p, off)
				}
			}
		}
	}
}

// Of a block of four leaves.
func TestBeginByHand(t *testing.T) { // P18.1
	for _, x := range []struct {
		addr      uint32
		leaf, bit int
	}{
		{0x0a010000, 0, 0}, {0x0a010001, 0, 1}, {0x0a01001f, 0, 31}, {0x0a010020, 1, 0}, {0x0a010025, 1, 5},
		{0x0a01003f, 1, 31}, {0x0a010040, 2, 0}, {0x0a010051, 2, 17}, {0x0a010060, 3, 0}, {0x0a01007f, 3, 31},
	} {
		for _, kind := range kinds() {
			for _, addrs := range [][]uint32{nil, {}, {0x0a010003}, {0, 0, math.MaxUint32}, slices.Repeat([]uint32{7}, 128)} {
				a := api.Ask{Kind: kind, Addr: x.addr, Addrs: addrs}
				want := api.Op{Ask: a, Phase: api.PhRead, Leaf: x.leaf, Bit: x.bit}
				if got := Begin(of(25).c, a); !same(got, want) {
					t.Errorf("%+v: %+v", a, got)
				}
			}
		}
	}
}

// Each address that isn't reserved, wherever the block begins.
func TestBeginOfEachAddress(t *testing.T) { // P18.1
	for _, prefix := range []int{32, 31, 30, 28, 27, 26, 24, 21, 20, 16} {
		for _, p := range pools(prefix) {
			for _, at := range []uint32{0, base, 0x7fff0000, 0x80000000, math.MaxUint32 - uint32(p.many) + 1} {
				p.c.Block.Base = at
				if !block.May(p.c) {
					t.Fatalf("it may not be: %+v", p.c)
				}
				offs := p.some()
				if prefix > 16 {
					offs = p.usable()
				}
				for _, off := range offs {
					for _, kind := range kinds() {
						a := api.Ask{Kind: kind, Addr: at + uint32(off), Addrs: []uint32{at}}
						want := api.Op{Ask: a, Phase: api.PhRead, Leaf: off / 32, Bit: off % 32}
						if got := Begin(p.c, a); !same(got, want) {
							t.Fatalf("%#x/%d, the offset %d: %+v", at, prefix, off, got)
						}
					}
				}
			}
		}
	}
}

// Of a block of two leaves: the cells are these, the top, the root; the address is the leaf 1's.
func TestReadByHand(t *testing.T) { // P18.1
	for i, x := range []struct {
		kind   int
		w      uint64 // the word of the leaf 1
		bit    int
		want   api.Op
		effect bool
	}{
		// a question, of an address that is used, and of one that is free
		{api.Query, 8, 3, api.Op{Answer: api.Answer{Used: true}}, true},
		{api.Query, 1, 0, api.Op{Answer: api.Answer{Used: true}}, true},
		{api.Query, 1 << 31, 31, api.Op{Answer: api.Answer{Used: true}}, true},
		{api.Query, all, 31, api.Op{Answer: api.Answer{Used: true}}, true},
		{api.Query, 0, 3, api.Op{}, true},
		{api.Query, all - 8, 3, api.Op{}, true},
		{api.Query, low - 1, 0, api.Op{}, true},
		{api.Query, 9*once + low>>1, 31, api.Op{}, true},
		{api.Query, 7 << 35, 3, api.Op{}, true},
		// an exact grant
		{api.Exact, 8, 3, api.Op{Answer: api.Answer{Err: api.ErrUsed}}, true},
		{api.Exact, 1, 0, api.Op{Answer: api.Answer{Err: api.ErrUsed}}, true},
		{api.Exact, 9*once + 1<<31, 31, api.Op{Answer: api.Answer{Err: api.ErrUsed}}, true},
		{api.Exact, all, 17, api.Op{Answer: api.Answer{Err: api.ErrUsed}}, true},
		{api.Exact, 0, 3, api.Op{Phase: api.PhClaim}, false},
		{api.Exact, all - 8, 3, api.Op{Phase: api.PhClaim, Word: all - 8}, false},
		{api.Exact, low - 1, 0, api.Op{Phase: api.PhClaim, Word: low - 1}, false},
		{api.Exact, 9*once + low>>1, 31, api.Op{Phase: api.PhClaim, Word: 9*once + low>>1}, false},
		{api.Exact, 7 << 35, 3, api.Op{Phase: api.PhClaim, Word: 7 << 35}, false},
	} {
		l := []uint64{^x.w, x.w, ^x.w, ^x.w}
		o := api.Op{Ask: of(26).ask(x.kind, 32+x.bit), Phase: api.PhRead, Leaf: 1, Bit: x.bit}
		x.want.Ask, x.want.Leaf, x.want.Bit = o.Ask, 1, x.bit
		got, p, effect := Step(of(26).c, l, o)
		if !slices.Equal(got, l) || !same(p, x.want) || effect != x.effect {
			t.Errorf("%d: %#x, %+v, %v", i, got, p, effect)
		}
	}
}

// Of the same block: an exact grant of the leaf 1's bit 3, at 0x0a010023.
func TestStepByHand(t *testing.T) { // P18.1
	const none, one, two = all, all - 1, all - 3 // summaries: no room; room in the leaf, or the top, 0; in the leaf 1, too
	has := api.Answer{Addr: base + 35}
	for i, x := range []struct {
		l      [4]uint64
		o      api.Op
		then   [4]uint64
		want   api.Op
		effect bool
	}{
		// claiming: the leaf is as it was read
		{[4]uint64{5, 7, two, one}, api.Op{Phase: api.PhClaim, Word: 7}, [4]uint64{5, once + 15, two, one}, api.Op{Answer: has}, true},
		{[4]uint64{5, 5 * once, 0, 0}, api.Op{Phase: api.PhClaim, Word: 5 * once}, [4]uint64{5, 6*once + 8, 0, 0}, api.Op{Answer: has}, true},
		{[4]uint64{low, all - 24, two, one}, api.Op{Phase: api.PhClaim, Word: all - 24}, [4]uint64{low, low - 16, two, one}, api.Op{Answer: has}, true},
		// it is full then
		{[4]uint64{5, low - 8, two, one}, api.Op{Phase: api.PhClaim, Word: low - 8}, [4]uint64{5, once + low, two, one}, api.Op{Phase: api.PhMark, Full: true, Answer: has}, true},
		{[4]uint64{5, all - 8, none, none}, api.Op{Phase: api.PhClaim, Word: all - 8}, [4]uint64{5, low, none, none}, api.Op{Phase: api.PhMark, Full: true, Answer: has}, true},
		// another bit of it was claimed, or dropped
		{[4]uint64{5, once + 23, two, one}, api.Op{Phase: api.PhClaim, Word: 7}, [4]uint64{5, once + 23, two, one}, api.Op{Phase: api.PhRead}, false},
		{[4]uint64{5, once + 3, two, one}, api.Op{Phase: api.PhClaim, Word: 7}, [4]uint64{5, once + 3, two, one}, api.Op{Phase: api.PhRead}, false},
		// its own bit was claimed, or claimed and dropped again
		{[4]uint64{5, once + 15, two, one}, api.Op{Phase: api.PhClaim, Word: 7}, [4]uint64{5, once + 15, two, one}, api.Op{Phase: api.PhRead}, false},
		{[4]uint64{5, 2*once + 7, two, one}, api.Op{Phase: api.PhClaim, Word: 7}, [4]uint64{5, 2*once + 7, two, one}, api.Op{Phase: api.PhRead}, false},
		{[4]uint64{5, once + low, none, none}, api.Op{Phase: api.PhClaim, Word: low - 8}, [4]uint64{5, once + low, none, none}, api.Op{Phase: api.PhRead}, false},
		// marking: the top is read, and written
		{[4]uint64{5, low, one - 2, one}, api.Op{Phase: api.PhMark, Full: true, Answer: has}, [4]uint64{5, low, one - 2, one}, api.Op{Phase: api.PhSet, Full: true, Word: one - 2, Answer: has}, false},
		{[4]uint64{5, low, one, one}, api.Op{Phase: api.PhMark, Full: true, Answer: has}, [4]uint64{5, low, one, one}, api.Op{Answer: has}, false},
		{[4]uint64{low, low, none, one}, api.Op{Phase: api.PhMark, Full: true, Answer: has}, [4]uint64{low, low, none, one}, api.Op{Phase: api.PhMark, Full: true, At: 1, Word: all, Answer: has}, false},
		{[4]uint64{5, low, two, one}, api.Op{Phase: api.PhSet, Full: true, Word: two, Answer: has}, [4]uint64{5, low, one, one}, api.Op{Answer: has}, false},
		{[4]uint64{low, low, all - 2, one}, api.Op{Phase: api.PhSet, Full: true, Word: all - 2, Answer: has}, [4]uint64{low, low, none, one}, api.Op{Phase: api.PhMark, Full: true, At: 1, Word: all, Answer: has}, false},
		{[4]uint64{low, low, 5, one}, api.Op{Phase: api.PhSet, Full: true, Word: all - 2, Answer: has}, [4]uint64{low, low, 5, one}, api.Op{Phase: api.PhMark, Full: true, At: 1, Word: all, Answer: has}, false},
		// the root is read, and written
		{[4]uint64{low, low, none, one}, api.Op{Phase: api.PhMark, Full: true, At: 1, Word: all, Answer: has}, [4]uint64{low, low, none, one}, api.Op{Phase: api.PhSet, Full: true, At: 1, Word: one, Answer: has}, false},
		{[4]uint64{low, low, none, 1}, api.Op{Phase: api.PhMark, Full: true, At: 1, Word: all, Answer: has}, [4]uint64{low, low, none, 1}, api.Op{Answer: has}, false},
		{[4]uint64{low, low, none, one}, api.Op{Phase: api.PhSet, Full: true, At: 1, Word: one, Answer: has}, [4]uint64{low, low, none, none}, api.Op{Answer: has}, false},
		{[4]uint64{low, low, none, 4}, api.Op{Phase: api.PhSet, Full: true, At: 1, Word: one, Answer: has}, [4]uint64{low, low, none, 4}, api.Op{Answer: has}, false},
		// it is done
		{[4]uint64{5, 15, two, one}, api.Op{Answer: has}, [4]uint64{5, 15, two, one}, api.Op{Answer: has}, false},
		{[4]uint64{5, 7, two, one}, api.Op{Answer: api.Answer{Err: api.ErrUsed}}, [4]uint64{5, 7, two, one}, api.Op{Answer: api.Answer{Err: api.ErrUsed}}, false},
	} {
		for _, o := range []*api.Op{&x.o, &x.want} {
			o.Ask, o.Leaf, o.Bit = api.Ask{Kind: api.Exact, Addr: base + 35}, 1, 3
		}
		l, o, effect := Step(of(26).c, x.l[:], x.o)
		if !slices.Equal(l, x.then[:]) || !same(o, x.want) || effect != x.effect {
			t.Errorf("%d: %#x, %+v, %v, not %#x, %+v", i, l, o, effect, x.then, x.want)
		}
	}
}

// layer is a step, from the chapter's words, where that is another layer's by its exported call.
func layer(c api.Conf, l []uint64, o api.Op) ([]uint64, api.Op, bool) {
	switch o.Phase {
	case api.PhClaim:
		return claim.Step(c, l, o)
	case api.PhMark, api.PhSet:
		l, o = hint.Step(c, l, o)
		return l, o, false
	case api.PhDone:
		return l, o, false
	}
	used := set(l[o.Leaf], o.Bit)
	if o.Ask.Kind == api.Query {
		o.Phase, o.Answer.Used = api.PhDone, used
		return l, o, true
	}
	if used {
		o.Phase, o.Answer.Err = api.PhDone, api.ErrUsed
		return l, o, true
	}
	o.Phase, o.Word = api.PhClaim, l[o.Leaf]
	return l, o, false
}

// Whatever others do between: each step is that of its Phase, and each Phase is come to.
func TestAStepIsThatOfItsPhase(t *testing.T) { // P18.1
	met := map[int]int{}
	for seed := range 4000 {
		r := random(seed)
		p := of([]int{32, 31, 27, 26, 24, 20}[seed%6])
		off := r.below(p.many)
		l := p.fills(off)[[]int{0, 1, 3, 3, 6}[r.below(5)]]
		l = p.hints(l, off/32)[r.below(8)]
		o := p.begin(kinds()[r.below(4)/3], off).o
		for range 20 {
			met[o.Phase]++
			wl, wo, wt := layer(p.c, l, o)
			gl, got, effect := Step(p.c, l, o)
			if !slices.Equal(gl, wl) || !same(got, wo) || effect != wt {
				t.Fatalf("/%d, %+v: %+v, %v, not %+v, %v, or other cells", p.c.Block.Prefix, o, got, effect, wo, wt)
			}
			l, o = slices.Clone(gl), got
			p.meddle(&r, l, off, 3)
		}
	}
	for _, phase := range []int{api.PhDone, api.PhRead, api.PhClaim, api.PhMark, api.PhSet} {
		if met[phase] < 100 {
			t.Errorf("the phase %d: %d times", phase, met[phase])
		}
	}
}

// meddle is what others may do to the cells: once in so many times one of them claims or drops
// an address, of that offset's leaf rather often, or writes whatever it will into a summary.
func (p pool) meddle(r *random, l []uint64, near, rarely int) {
	if r.below(rarely) > 0 {
		return
	}
	if r.below(3) == 0 {
		l[p.leaves+r.below(p.tops+1)] = []uint64{all - 1<<r.below(64), r.word(), all}[r.below(3)]
		return
	}
	off := []int{near, min(near/32*32+r.below(32), p.many-1), r.below(p.many)}[r.below(3)]
	if slices.Contains(p.c.Held, off) {
		return
	}
	change := word.Claim
	if r.below(2) == 0 {
		change = word.Drop
	}
	l[off/32] = change(l[off/32], off%32)
}

// end is how an operation of a Kind ended.
type end struct {
	kind int
	err  api.Errno
	used bool
}

// Of each block, with offsets reserved at its beginning and at its end, whatever is used, and is
// told by the summaries. (Of many leaves, one of so many of these, spread over them.)
func TestAlone(t *testing.T) { // P18.1, P18.2
	for _, x := range []struct{ prefix, every int }{
		{32, 1}, {31, 1}, {30, 1}, {28, 1}, {27, 1}, {26, 1}, {25, 1}, {24, 3}, {21, 7}, {20, 11}, {18, 31}, {16, 97},
	} {
		n, ends := 0, map[end]int{}
		for _, p := range pools(x.prefix) {
			for _, off := range p.some() {
				for _, fill := range p.fills(off) {
					for _, l := range p.hints(fill, off/32) {
						for _, kind := range kinds() {
							if n++; n%x.every == 0 {
								a := p.checkAlone(t, l, kind, off).o
								ends[end{kind, a.Answer.Err, a.Answer.Used}]++
							}
						}
					}
				}
			}
		}
		for _, e := range []end{{api.Exact, api.OK, false}, {api.Exact, api.ErrUsed, false}, {api.Query, api.OK, false}, {api.Query, api.OK, true}} {
			if ends[e] < 10 {
				t.Errorf("/%d: the ends: %v", x.prefix, ends)
			}
		}
	}
}

// checkEnd holds the end of an operation against what is told of it: the steps, with which of
// them it took effect, and the answer.
func checkEnd(t *testing.T, a course, steps, effect int, want api.Answer) {
	t.Helper()
	if a.o.Phase != api.PhDone || a.steps != steps || !slices.Equal(a.effects, []int{effect}) || !reflect.DeepEqual(a.o.Answer, want) {
		t.Fatalf("%d steps, not %d, the effects at %v, not %d, %+v, not %+v", a.steps, steps, a.effects, effect, a.o, want)
	}
}

// alone is an operation alone in these cells, behind six steps at most.
func (p pool) alone(t *testing.T, l []uint64, kind, off int) course {
	t.Helper()
	a := p.begin(kind, off)
	a.l = l
	return p.run(t, a, 6, nobody)
}

// Of a new pool every address, once from the first one to the last one, and once to and fro: a
// question that tells that it is free, an exact grant that has it, a question that tells that it
// is used, and an exact grant that is ErrUsed. What summaries told rightly, they tell rightly
// then.
func TestEachAddressOfABlock(t *testing.T) { // P18.2
	for _, prefix := range []int{32, 31, 30, 27, 26, 24, 20, 16} {
		for i, p := range pools(prefix) {
			if prefix == 16 && i != 3 { // which is long enough
				continue
			}
			l, offs := word.Cells(p.c), p.usable()
			for k, off := range offs {
				if i%2 == 1 && k%2 == 1 {
					off = offs[len(offs)-1-k/2]
				} else if i%2 == 1 {
					off = offs[k/2]
				}
				checkEnd(t, p.alone(t, l, api.Query, off), 1, 1, api.Answer{})
				a := p.alone(t, l, api.Exact, off)
				checkEnd(t, a, a.steps, 2, api.Answer{Addr: p.addr(off)})
				l = a.l
				checkEnd(t, p.alone(t, l, api.Query, off), 1, 1, api.Answer{Used: true})
				checkEnd(t, p.alone(t, l, api.Exact, off), 1, 1, api.Answer{Err: api.ErrUsed})
			}
			if !slices.Equal(l, p.right(l)) || l[p.root()] != all {
				t.Fatalf("/%d: the tops and the root: %#x", prefix, l[p.leaves:])
			}
		}
	}
}

// How many steps an exact grant alone takes: two, and those of marking a leaf that became full.
func TestHowManySteps(t *testing.T) { // P18.2
	for i, x := range []struct {
		prefix    int
		top, root uint64 // of the leaf 0, as they are ahead of it
		full      bool   // is the leaf full then?
		steps     int
		then      [2]uint64
	}{
		{26, all - 3, all - 1, false, 2, [2]uint64{all - 3, all - 1}},
		{26, 0, 0, false, 2, [2]uint64{}},
		{26, all, all, false, 2, [2]uint64{all, all}},
		{26, all - 3, all - 1, true, 4, [2]uint64{all - 2, all - 1}}, // the top is read, and written
		{26, all - 2, all - 1, true, 3, [2]uint64{all - 2, all - 1}}, // it is read, and right
		{26, all - 1, all - 1, true, 6, [2]uint64{all, all}},         // both are read, and written
		{26, all - 1, all, true, 5, [2]uint64{all, all}},             // the root is right
		{26, all, all - 1, true, 5, [2]uint64{all, all}},             // the top is
		{26, all, all, true, 4, [2]uint64{all, all}},                 // both are
		{26, 0, 0, true, 4, [2]uint64{1, 0}},
		{27, all - 1, all - 1, true, 6, [2]uint64{all, all}},
		{32, all - 1, all - 1, true, 6, [2]uint64{all, all}},
		{32, all, 0, true, 5, [2]uint64{all, 1}},
		{20, all - 1, all - 3, true, 6, [2]uint64{all, all - 2}}, // the root lacks the second top
	} {
		p := of(x.prefix)
		l := p.claimed(func(off int) bool { return off == 0 || !x.full })
		l[p.top(0)], l[p.root()] = x.top, x.root
		a := p.checkAlone(t, l, api.Exact, 0)
		checkEnd(t, a, x.steps, 2, api.Answer{Addr: p.addr(0)})
		if a.l[p.top(0)] != x.then[0] || a.l[p.root()] != x.then[1] {
			t.Errorf("%d: the summaries %#x", i, a.l[p.leaves:])
		}
	}
}

// The last free bit of a leaf, the first, one in the middle and the last leaf: its leaf is full,
// and so its top and the root are marked, if that is all there was.
func TestTheLastFreeBitOfALeaf(t *testing.T) { // P18.1, P18.2
	for _, prefix := range []int{32, 30, 27, 26, 24, 20, 18, 16} {
		p := of(prefix)
		for _, leaf := range slices.Compact([]int{0, p.leaves / 2, p.leaves - 1}) {
			for _, bit := range []int{0, 1, 16, 30, 31} {
				off := 32*leaf + bit
				if off >= p.many {
					continue
				}
				only := p.claimed(func(x int) bool { return x == off })
				for _, l := range p.hints(only, leaf) {
					p.checkAlone(t, l, api.Exact, off)
				}
				a := p.checkAlone(t, only, api.Exact, off) // of the whole block
				checkEnd(t, a, 6, 2, api.Answer{Addr: p.addr(off)})
				if !slices.Equal(a.l, p.right(a.l)) || a.l[p.root()] != all {
					t.Fatalf("/%d, the offset %d: %#x", prefix, off, a.l[p.leaves:])
				}
				some := p.claimed(func(x int) bool { return x == off || x/32 != leaf }) // of its leaf
				a = p.checkAlone(t, some, api.Exact, off)
				if !slices.Equal(a.l, p.right(a.l)) {
					t.Fatalf("/%d, the offset %d: %#x", prefix, off, a.l[p.leaves:])
				}
			}
		}
	}
}

// What others do between the reading and the claim, and what the exact grant comes to: of the
// offset 35, which is the leaf 1's bit 3.
func TestBetweenReadingAndClaim(t *testing.T) { // P18.1, P18.2
	type change func(l []uint64)
	nothing := func([]uint64) {}
	claims := func(off int) change {
		return func(l []uint64) { l[off/32] = word.Claim(l[off/32], off%32) }
	}
	drops := func(off int) change {
		return func(l []uint64) { l[off/32] = word.Drop(l[off/32], off%32) }
	}
	both := func(one, two change) change { return func(l []uint64) { one(l); two(l) } }
	p := of(26)
	has, used := api.Answer{Addr: p.addr(35)}, api.Answer{Err: api.ErrUsed}
	for i, x := range []struct {
		others change
		steps  int
		want   api.Answer
	}{
		{nothing, 2, has},
		// the leaf is as it was read: another leaf, or a summary, is another thing
		{claims(3), 2, has}, {both(claims(31), drops(31)), 2, has},
		{func(l []uint64) { l[2], l[3] = 5, 6 }, 2, has},
		// another bit of it was claimed, or dropped, or both
		{claims(36), 4, has}, {claims(63), 4, has}, {drops(32), 4, has}, {both(claims(34), drops(34)), 4, has}, {both(drops(32), claims(32)), 4, has},
		// its own bit
		{claims(35), 3, used}, {both(claims(35), claims(36)), 3, used}, {both(both(claims(35), drops(35)), claims(35)), 3, used},
		{both(claims(35), drops(35)), 4, has}, {drops(35), 4, has},
	} {
		a := p.begin(api.Exact, 35)
		a.l = p.claimed(func(off int) bool { return off != 32 })
		a = p.run(t, a, 99, func(a course) {
			if a.steps == 1 {
				x.others(a.l)
			}
		})
		if checkEnd(t, a, x.steps, x.steps, x.want); !set(a.l[1], 3) {
			t.Errorf("%d: %#x", i, a.l)
		}
	}
}

// Of a question what others do ahead of its one step counts, and nothing behind it.
func TestAQuestionTellsHowItIsThen(t *testing.T) { // P18.1, P18.2
	for _, p := range []pool{of(32), of(27), of(26), of(16)} {
		for _, off := range p.some() {
			for _, l := range [][]uint64{p.claimed(func(x int) bool { return x == off }), p.claimed(func(x int) bool { return x != off })} {
				a := p.begin(api.Query, off)
				a.l = slices.Clone(l)
				is := !set(l[off/32], off%32)
				change := word.Drop
				if is {
					change = word.Claim
				}
				a.l[off/32] = change(a.l[off/32], off%32)
				b := p.run(t, a, 99, nobody)
				checkEnd(t, b, 1, 1, api.Answer{Used: is})
				if !slices.Equal(a.l, b.l) {
					t.Errorf("/%d, the offset %d: cells changed", p.c.Block.Prefix, off)
				}
			}
		}
	}
}

// Others hinder it, by changing its leaf ahead of each claim, so many times: it reads again, and
// has its address by one effect, when they leave it alone, or is ErrUsed, if that was lent.
func TestOthersHinderIt(t *testing.T) { // P18.2
	p := of(26)
	for times := range 70 {
		for _, lent := range []bool{false, true} {
			a := p.begin(api.Exact, 40)
			a.l = word.Cells(p.c)
			n := 0
			a = p.run(t, a, 999, func(a course) {
				if a.o.Phase != api.PhClaim || n >= times {
					return
				}
				n++
				off := 41 + n%20
				if lent && n == times {
					off = 40
				}
				a.l[1] = word.Drop(word.Claim(a.l[1], off%32), off%32)
				if off == 40 {
					a.l[1] = word.Claim(a.l[1], 8)
				}
			})
			if lent && times > 0 {
				checkEnd(t, a, 2*times+1, 2*times+1, api.Answer{Err: api.ErrUsed})
			} else {
				checkEnd(t, a, 2*times+2, 2*times+2, api.Answer{Addr: p.addr(40)})
			}
		}
	}
}

// Another one writes whatever it will into the top, or the root, or changes the leaf, ahead of
// each step of marking: the exact grant has its address still, and ends no later than in six
// steps.
func TestOthersWhileItMarks(t *testing.T) { // P18.2
	p := of(26)
	start := p.claimed(func(off int) bool { return off == 40 })
	for point := 2; point < 6; point++ {
		for cell, words := range [][]uint64{1: {5, low, 9*once + low - 1<<8}, 2: {0, all, all - 1, all - 2, 5}, 3: {0, all, all - 1, 5, 1 << 63}} {
			for _, w := range words {
				a := p.begin(api.Exact, 40)
				a.l = start
				a = p.run(t, a, 6, func(a course) {
					if a.steps == point {
						a.l[cell] = w
					}
				})
				checkEnd(t, a, a.steps, 2, api.Answer{Addr: p.addr(40)})
			}
		}
	}
}

// schedules has two operations do their steps in each order that there is, and hands their ends
// to f, with the cells, and which of them took effect first.
func (p pool) schedules(t *testing.T, l []uint64, two [2]course, first int, f func(l []uint64, two [2]course, first int)) {
	done := true
	for i := range two {
		if two[i].o.Phase == api.PhDone {
			continue
		}
		done = false
		then, was := two, first
		then[i].l = l
		then[i] = p.next(t, then[i])
		if len(two[0].effects)+len(two[1].effects) == 0 && len(then[i].effects) > 0 {
			was = i
		}
		p.schedules(t, then[i].l, then, was, f)
	}
	if done {
		f(l, two, first)
	}
}

// Two exact grants of one address, or an exact grant and a question, in each order of their
// steps: who takes effect first has it, the other one is told so; one bit is set, by one change.
func TestTwoOfOneAddressInEachOrder(t *testing.T) { // P18.2, the chapter's example
	for _, x := range []struct{ prefix, off int }{{32, 0}, {30, 2}, {27, 31}, {26, 0}, {26, 40}, {24, 255}} {
		for _, alone := range []bool{true, false} { // is it the last free one?
			p := of(x.prefix)
			start := p.claimed(func(off int) bool { return off == x.off || !alone })
			for _, kind := range kinds() {
				n, firsts := 0, [2]int{}
				p.schedules(t, start, [2]course{p.begin(api.Exact, x.off), p.begin(kind, x.off)}, -1, func(l []uint64, two [2]course, first int) {
					n++
					firsts[first]++
					want := [2]api.Answer{{Addr: p.addr(x.off)}, {Err: api.ErrUsed}}
					switch {
					case kind == api.Query:
						want[1] = api.Answer{Used: first == 0}
					case first == 1:
						want[0], want[1] = want[1], want[0]
					}
					for i, a := range two {
						if !reflect.DeepEqual(a.o.Answer, want[i]) || len(a.effects) != 1 {
							t.Fatalf("/%d: %d was first, %d: %+v, the effects at %v", x.prefix, first, i, a.o, a.effects)
						}
					}
					leaves := slices.Clone(start[:p.leaves])
					leaves[x.off/32] = with(leaves[x.off/32], x.off%32, true) + once
					if !slices.Equal(l[:p.leaves], leaves) || !slices.Equal(l, p.right(l)) {
						t.Fatalf("/%d: %#x", x.prefix, l)
					}
				})
				if min(firsts[0], firsts[1]) < 1 || n < 3 {
					t.Errorf("/%d: %d orders, first were %v", x.prefix, n, firsts)
				}
			}
		}
	}
}

// Two exact grants of two addresses, of one leaf or of two, in each order: each has its own, and
// what else is free stays so.
func TestTwoOfTwoAddressesInEachOrder(t *testing.T) { // P18.2
	for _, x := range []struct{ prefix, one, two int }{{31, 0, 1}, {30, 3, 0}, {27, 0, 31}, {26, 33, 60}, {26, 5, 40}, {24, 0, 255}} {
		for _, alone := range []bool{true, false} {
			p := of(x.prefix)
			start := p.claimed(func(off int) bool { return off == x.one || off == x.two || !alone })
			n := 0
			p.schedules(t, start, [2]course{p.begin(api.Exact, x.one), p.begin(api.Exact, x.two)}, -1, func(l []uint64, two [2]course, _ int) {
				n++
				leaves := slices.Clone(start[:p.leaves])
				for i, off := range []int{x.one, x.two} {
					leaves[off/32] = with(leaves[off/32], off%32, true) + once
					if !reflect.DeepEqual(two[i].o.Answer, api.Answer{Addr: p.addr(off)}) || len(two[i].effects) != 1 {
						t.Fatalf("/%d: %+v, the effects at %v", x.prefix, two[i].o, two[i].effects)
					}
				}
				if !slices.Equal(l[:p.leaves], leaves) {
					t.Fatalf("/%d: %#x", x.prefix, l)
				}
			})
			if n < 6 {
				t.Errorf("/%d: %d orders", x.prefix, n)
			}
		}
	}
}

// Two exact grants of one address, one behind the other.
func TestTheSecondOneIsUsed(t *testing.T) { // P18.2, the chapter's example
	p := of(30, 0, 3)
	one := p.alone(t, word.Cells(p.c), api.Exact, 1)
	checkEnd(t, one, 2, 2, api.Answer{Addr: 0x0a010001})
	two := p.alone(t, one.l, api.Exact, 1)
	checkEnd(t, two, 1, 1, api.Answer{Err: api.ErrUsed})
	if !slices.Equal(one.l, []uint64{once + low - 4, all - 1, all - 1}) || !slices.Equal(one.l, two.l) {
		t.Errorf("%#x, %#x", one.l, two.l)
	}
}

// Some of them, and others who claim, drop, and write into summaries, at any time, by a fixed
// rule: each takes effect once, by what each step may do; and wherever it is, alone it ends
// within seven steps, the first of which may be a claim that can't be.
func TestAmongOthers(t *testing.T) { // P18.2
	among, alone, again := map[end]int{}, map[end]int{}, 0
	for seed := range 6000 {
		r := random(seed)
		p := of([]int{32, 31, 30, 27, 26, 25}[seed%6])
		near := r.below(p.many)
		l := p.claimed(func(int) bool { return r.below(3) == 0 })
		some := make([]course, 1+r.below(4))
		for i := range some {
			some[i] = p.begin(kinds()[r.below(3)/2], []int{near, r.below(p.many)}[r.below(2)])
		}
		for range (1 + r.below(4)) * len(some) {
			i := r.below(len(some))
			l = slices.Clone(l)
			p.meddle(&r, l, near, 1+seed%5)
			was := some[i]
			some[i].l = l
			some[i] = p.run(t, some[i], was.steps+1, nobody)
			l = some[i].l
			if was.o.Phase == api.PhClaim && some[i].o.Phase == api.PhRead {
				again++
			}
		}
		for _, a := range some {
			ends, most := alone, a.steps+7
			if len(a.effects) > 0 {
				ends = among
			}
			if a.o.Phase != api.PhClaim {
				most--
			}
			a.l = l
			a = p.run(t, a, most, nobody)
			if a.o.Phase != api.PhDone || len(a.effects) != 1 {
				t.Fatalf("/%d: the effects at %v, %d steps, %+v", p.c.Block.Prefix, a.effects, a.steps, a.o)
			}
			ends[end{a.o.Ask.Kind, a.o.Answer.Err, a.o.Answer.Used}]++
			l = a.l
		}
	}
	for _, e := range []end{{api.Exact, api.OK, false}, {api.Exact, api.ErrUsed, false}, {api.Query, api.OK, false}, {api.Query, api.OK, true}} {
		if min(among[e], alone[e], again) < 100 {
			t.Errorf("%+v: among others %v, alone %v, again %d", e, among, alone, again)
		}
	}
}

// roomy is l with such a one behind its length, so that a write there shows.
func roomy[T any](room T, l ...T) []T { return append(slices.Clone(l), room, room)[:len(l)] }

// whole is an operation of the leaf 1's bit 3 of a block of two leaves, with lists that have room
// behind them; made again, it is the same.
func whole(kind, phase, at int, w uint64) api.Op {
	return api.Op{
		Ask:    api.Ask{Kind: kind, Addr: base + 35, Addrs: roomy(77, uint32(5), 6)},
		Answer: api.Answer{Addrs: roomy(77, uint32(4), 5), Errs: roomy(api.ErrBusy, api.ErrFree, api.OK)},
		Phase:  phase, Shard: 1, Sought: 1, Leaf: 1, Bit: 3, Word: w, Full: true,
		Seen: roomy(77, uint64(21), 22), At: at, Tries: 3, Item: 1, Stamp: 8,
	}
}

// rooms are the operation's lists with the room behind them.
func rooms(o api.Op) []any {
	return []any{o.Ask.Addrs[:4], o.Answer.Addrs[:4], o.Answer.Errs[:4], o.Seen[:4]}
}

// each calls f with cells, with room behind them, and operations of both Kinds, of each Phase and
// of none, so that each end of a step is come to.
func each(f func(l []uint64, kind, phase, at int, w uint64)) {
	for _, kind := range kinds() {
		for phase := range 11 {
			for at := range 2 {
				for _, cell := range []uint64{7, low - 8, low} {
					for _, sum := range []uint64{cell, all, all - 2} {
						f(roomy(77, 3, cell, sum, sum), kind, phase, at, cell)
						f(roomy(77, 3, cell+once, sum, sum), kind, phase, at, cell)
					}
				}
			}
		}
	}
}

// What neither chapter names of an operation stays, as it was handed in.
func TestWhatStaysOfTheOperation(t *testing.T) { // P18.1
	for _, cell := range []uint64{7, 15} {
		for _, kind := range kinds() {
			o := whole(kind, api.PhRead, 0, 99)
			want, effect := o, true
			switch {
			case kind == api.Query:
				want.Answer.Used, want.Phase = cell == 15, api.PhDone
			case cell == 15:
				want.Answer.Err, want.Phase = api.ErrUsed, api.PhDone
			default:
				want.Word, want.Phase, effect = 7, api.PhClaim, false
			}
			if _, got, did := Step(of(26).c, []uint64{3, cell, 5, 6}, o); !same(got, want) || did != effect {
				t.Errorf("%+v: %+v, %v", o, got, did)
			}
		}
	}
}

func TestWhatIsHandedInStays(t *testing.T) { // P18.3
	each(func(l []uint64, kind, phase, at int, w uint64) {
		c := of(26, roomy(9, 1, 2)...).c
		o, was, cells := whole(kind, phase, at, w), whole(kind, phase, at, w), slices.Clone(l[:6])
		Step(c, l, o)
		Begin(c, o.Ask)
		if !slices.Equal(l[:6], cells) || !slices.Equal(c.Held[:4], []int{1, 2, 9, 9}) {
			t.Errorf("%+v: cells, or Held, changed: %#x, %v", was, l[:6], c.Held[:4])
		}
		if !reflect.DeepEqual(o, was) || !reflect.DeepEqual(rooms(o), rooms(was)) {
			t.Errorf("%+v changed: %+v", was, o)
		}
	})
}

// fill writes x into a list, and into the room behind it.
func fill[T any](l []T, x T) {
	for i := range l[:cap(l)] {
		l[:cap(l)][i] = x
	}
}

// scrawl writes into all that an answer has for itself: not into the request's.
func scrawl(o api.Op) {
	fill(o.Answer.Addrs, 1234)
	fill(o.Answer.Errs, 1234)
	fill(o.Seen, 1234)
}

// The lists of an answer are its own, but what the request holds; so are cells that were written.
func TestWhatIsAnsweredIsNewMemory(t *testing.T) { // P18.3
	wrote := 0
	each(func(l []uint64, kind, phase, at int, w uint64) {
		c, cells := of(26).c, slices.Clone(l[:6])
		o, was := whole(kind, phase, at, w), whole(kind, phase, at, w)
		m, one, _ := Step(c, l, o)
		n, other, _ := Step(c, l, o)
		then, _, _ := Step(c, l, o)
		_, again, _ := Step(c, l, o)
		scrawl(one)
		if !slices.Equal(m, l) {
			fill(m, 1234)
			wrote++
		}
		if !slices.Equal(l[:6], cells) || !slices.Equal(n, then) {
			t.Errorf("%+v: a write into the answer's cells shows in others", was)
		}
		if !reflect.DeepEqual(o, was) || !reflect.DeepEqual(rooms(o), rooms(was)) {
			t.Errorf("%+v: a write into the answer shows in what was handed in: %+v", was, o)
		}
		if !same(other, again) || slices.Contains(other.Answer.Addrs, 1234) || slices.Contains(other.Answer.Errs, 1234) || slices.Contains(other.Seen, 1234) {
			t.Errorf("%+v: a write into an answer shows in another one: %+v", was, other)
		}
	})
	if wrote < 4 {
		t.Errorf("cells were written %d times", wrote)
	}
}

// Two lists of one answer share nothing, though those that were handed in did, and Seen was the
// cells.
func TestNoTwoListsOfAnAnswerShareMemory(t *testing.T) { // P18.3
	each(func(l []uint64, kind, phase, at int, w uint64) {
		one, cells, o := []uint32{5, 6}, slices.Clone(l), whole(kind, phase, at, w)
		o.Ask.Addrs, o.Answer.Addrs, o.Seen = one, one, l[:2]
		m, got, _ := Step(of(26).c, l, o)
		then := slices.Clone(m)
		scrawl(got)
		if !slices.Equal(got.Ask.Addrs, []uint32{5, 6}) || !slices.Equal(one, []uint32{5, 6}) || !slices.Equal(l, cells) || !slices.Equal(m, then) {
			t.Errorf("%+v: %v, %#x", o, one, l)
		}
	})
}

// Nil and empty lists are one, handed in and answered.
func TestNilAndEmptyLists(t *testing.T) { // P18.1
	each(func(l []uint64, kind, phase, at int, w uint64) {
		o := whole(kind, phase, at, w)
		o.Ask.Addrs, o.Answer.Addrs, o.Answer.Errs, o.Seen = nil, nil, nil, nil
		e := o
		e.Ask.Addrs, e.Answer.Addrs, e.Answer.Errs, e.Seen = []uint32{}, []uint32{}, []api.Errno{}, []uint64{}
		m, a, x := Step(of(26).c, l, o)
		n, b, y := Step(of(26, []int{}...).c, l, e)
		if !slices.Equal(m, n) || !same(a, b) || x != y || !same(Begin(of(26).c, o.Ask), Begin(of(26).c, e.Ask)) {
			t.Errorf("%+v, %+v", a, b)
		}
	})
}

// The same is answered each time, and shards, workers, queues and tries are nothing to it.
func TestAnswersHangOnArgumentsAlone(t *testing.T) { // P18.1
	each(func(l []uint64, kind, phase, at int, w uint64) {
		c := of(26).c
		m, a, x := Step(c, l, whole(kind, phase, at, w))
		for range 3 {
			c.Shards, c.Workers, c.Queue, c.Tries = c.Shards+1, c.Workers+1, c.Queue+1, c.Tries+1
			if n, b, y := Step(c, l, whole(kind, phase, at, w)); !slices.Equal(m, n) || !same(a, b) || x != y {
				t.Errorf("%+v, %+v", a, b)
			}
			if one := Begin(c, a.Ask); !same(one, Begin(of(26).c, a.Ask)) {
				t.Errorf("%+v", one)
			}
		}
	})
}

// An operation that is done, and one in a Phase that neither Kind comes to, stay.
func TestPhasesWithoutAStep(t *testing.T) { // P18.1
	each(func(l []uint64, kind, _, at int, w uint64) {
		for _, phase := range []int{api.PhDone, api.PhSeek, api.PhLook, api.PhFirst, api.PhAgain, api.PhDrop, 10, -1, math.MinInt, math.MaxInt} {
			o := whole(kind, phase, at, w)
			if m, p, effect := Step(of(26).c, l, o); !slices.Equal(m, l) || !same(p, o) || effect {
				t.Errorf("the phase %d: %#x, %+v, %v", phase, m, p, effect)
			}
		}
	})
}

// The chapter promises nothing of these but that the calls end and don't panic.
func TestNothingPanics(t *testing.T) { // P1
	odd := []int{math.MinInt, -65536, -64, -1, 0, 1, 2, 31, 32, 64, 2048, math.MaxInt - 1, math.MaxInt}
	few := [][]uint64{nil, {5}, {5, all, 5}, slices.Repeat([]uint64{low}, 40)}
	confs := []api.Conf{{}}
	for _, prefix := range []int{math.MinInt, -1, 0, 15, 16, 27, 32, 33, math.MaxInt} {
		for _, n := range []int{math.MinInt, -1, 0, 1, 65, math.MaxInt} {
			c := api.Conf{Block: api.Block{Base: 7, Prefix: prefix}, Held: []int{-1, math.MaxInt, 3, 3}, Shards: n, Workers: n, Queue: n, Tries: n}
			confs = append(confs, c, api.Conf{Block: api.Block{Base: 1 << 31, Prefix: prefix}, Shards: n})
		}
	}
	for i, c := range confs {
		for j, leaf := range odd {
			for k, n := range odd {
				kind := []int{api.Exact, api.Query, api.Batch, api.Grant, 0, math.MaxInt}[(i+j+k)%6]
				a := api.Ask{Kind: kind, Addr: []uint32{0, 7, base, 1 << 31, math.MaxUint32}[(i+2*j+k)%5], Addrs: []uint32{0, 1 << 31, math.MaxUint32}}
				l, seen := few[(i+j+k)%4], few[(i+2*j+3*k)%4]
				Step(c, l, Begin(c, a))
				for phase := -1; phase <= 10; phase++ {
					o := api.Op{Ask: a, Phase: phase, Shard: n, Sought: leaf, Leaf: leaf, Bit: n, Word: 5, Full: j%2 == 0, Seen: seen, At: n, Tries: n, Item: n, Stamp: leaf}
					Step(c, l, o)
				}
			}
		}
	}
}

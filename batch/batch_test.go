package batch

import (
	"math"
	"reflect"
	"slices"
	"testing"

	"lodger/api"
	"lodger/ask"
	"lodger/block"
	"lodger/drop"
	"lodger/hint"
	"lodger/word"
)

// low are a leaf's bits, all set; once is one change of it; all is a word all of whose bits are
// set; base is where the tests' blocks begin, if nothing else is said.
const (
	low  = uint64(1)<<32 - 1
	once = uint64(1) << 32
	all  = uint64(math.MaxUint64)
	base = uint32(0x0a010000)
)

// pool is a configuration, and how much its block has.
type pool struct {
	c                  api.Conf
	many, leaves, tops int
}

// of answers the pool of that prefix and those reserved offsets.
func of(prefix int, held ...int) pool {
	many := 1 << (32 - prefix)
	leaves := (many + 31) / 32
	c := api.Conf{Block: api.Block{Base: base, Prefix: prefix}, Held: held, Shards: 2, Workers: 3, Queue: 4, Tries: 5}
	return pool{c: c, many: many, leaves: leaves, tops: (leaves + 63) / 64}
}

// top and root are the places of the cells in which a leaf is summed, and the tops are.
func (p pool) top(leaf int) int { return p.leaves + leaf/64 }
func (p pool) root() int        { return p.leaves + p.tops }

// addr is the address of that offset.
func (p pool) addr(off int) uint32 { return p.c.Block.Base + uint32(off) }

// kinds are those of a release and of a batch.
func kinds() []int { return []int{api.Release, api.Batch} }

// named are those of the offsets that are to be given back: of a Release the first one alone.
func named(kind int, offs []int) []int {
	if kind == api.Release {
		return offs[:1]
	}
	return offs
}

// ask is the request to give the offsets back. What says nothing of its Kind isn't empty: of a
// Release Addrs are the further ones, of a Batch Addr is another address.
func (p pool) ask(kind int, offs []int) api.Ask {
	a := api.Ask{Kind: kind, Addr: p.addr(offs[0] ^ 1)}
	if kind == api.Release {
		a.Addr, offs = p.addr(offs[0]), offs[1:]
	}
	for _, off := range offs {
		a.Addrs = append(a.Addrs, p.addr(off))
	}
	return a
}

// set tells whether the bit is; with is w whose bit is so.
func set(w uint64, bit int) bool { return w>>bit%2 == 1 }
func with(w uint64, bit int, is bool) uint64 {
	if set(w, bit) != is {
		w ^= 1 << bit
	}
	return w
}

// random is a source of numbers by a fixed rule.
type random uint64

func (r *random) below(n int) int {
	*r = *r*6364136223846793005 + 1442695040888963407
	return int(uint64(*r) >> 32 % uint64(n))
}
func (r *random) word() uint64 { return uint64(r.below(1<<32))<<32 + uint64(r.below(1<<32)) }

// mixed are the numbers in another order, by a fixed rule; falling are they from the last one on.
func mixed(l []int) []int {
	l = slices.Clone(l)
	r := random(len(l))
	for i := range l {
		j := r.below(i + 1)
		l[i], l[j] = l[j], l[i]
	}
	return l
}
func falling(l []int) []int {
	l = slices.Clone(l)
	slices.Reverse(l)
	return l
}

// row are the n numbers from first on.
func row(first, n int) []int {
	var l []int
	for i := range n {
		l = append(l, first+i)
	}
	return l
}

// usable are the offsets that aren't reserved.
func (p pool) usable() []int {
	return slices.DeleteFunc(row(0, p.many), func(off int) bool { return slices.Contains(p.c.Held, off) })
}

// some are offsets of interest that aren't reserved: the first and the last one that aren't,
// those in the middle, and those at leaves' edges, and tops'.
func (p pool) some() []int {
	u := p.usable()
	l := []int{u[0], u[len(u)-1], u[len(u)/2], u[len(u)/3]}
	for _, off := range []int{1, 31, 32, 33, 63, 64, 2047, 2048, p.many/2 - 1, p.many - 32, p.many - 33} {
		if slices.Contains(u, off) {
			l = append(l, off)
		}
	}
	slices.Sort(l)
	return slices.Compact(l)
}

// lists are offsets that a batch may be of: of one, as many as may be, and some between; the
// first ones, the last ones, those of one leaf, and such as are of unlike leaves; rising,
// falling, and mixed.
func (p pool) lists() [][]int {
	u := p.usable()
	most := min(len(u), api.MaxBatch)
	var apart, leaf []int
	for i := range most {
		apart = append(apart, u[i*len(u)/most])
	}
	for _, off := range u {
		if off/32 == u[len(u)/2]/32 {
			leaf = append(leaf, off)
		}
	}
	lists := [][]int{u[:1], u[len(u)/2:][:1], u[len(u)-1:], falling(u[len(u)-min(3, most):])}
	for _, l := range [][]int{u[:most], u[len(u)-most:], apart, leaf, p.some()} {
		lists = append(lists, l, falling(l), mixed(l))
	}
	return lists
}

// claimed are the first cells, but all used that free doesn't tell of, with summaries that are
// right.
func (p pool) claimed(free func(off int) bool) []uint64 {
	l := word.Cells(p.c)
	for _, off := range p.usable() {
		if !free(off) {
			l[off/32] = word.Claim(l[off/32], off%32)
		}
	}
	return p.right(l)
}

// right are those cells with summaries that are, wrong with such as tell room where there is
// none, and none where there is.
func (p pool) right(l []uint64) []uint64 {
	return p.summed(l, func(leaf int) bool { return l[leaf]%once != low })
}
func (p pool) wrong(l []uint64) []uint64 {
	return p.summed(l, func(leaf int) bool { return l[leaf]%once == low })
}

// summed are those cells with summaries that tell room where it is told.
func (p pool) summed(l []uint64, room func(leaf int) bool) []uint64 {
	l = slices.Clone(l)
	for cell := p.leaves; cell < len(l); cell++ {
		l[cell] = all
	}
	for leaf := range p.leaves {
		if room(leaf) {
			l[p.top(leaf)] = with(l[p.top(leaf)], leaf%64, false)
			l[p.root()] = with(l[p.root()], leaf/64, false)
		}
	}
	return l
}

// hints are those cells with summaries that are right, that are wrong, that tell room all over
// and nowhere, all of whose bits aren't set, with any words there, and with such as have but one
// bit, of that leaf or of its top.
func (p pool) hints(l []uint64, leaf int) [][]uint64 {
	none, some, top, root := slices.Clone(l), slices.Clone(l), slices.Clone(l), slices.Clone(l)
	r := random(len(l))
	for cell := p.leaves; cell < len(l); cell++ {
		none[cell], some[cell], top[cell], root[cell] = 0, r.word(), 0, 0
	}
	top[p.top(leaf)] = with(0, leaf%64, true)
	root[p.root()] = with(0, leaf/64, true)
	return [][]uint64{
		p.right(l), p.wrong(l), none, some, top, root,
		p.summed(l, func(int) bool { return true }),
		p.summed(l, func(int) bool { return false }),
	}
}

// fills are cells of a new pool, of one every other address of which is used, and its opposite,
// of one that is full, of one in which just the offsets are used, or all but them, and of one
// that is full but for every other one of them.
func (p pool) fills(offs []int) [][]uint64 {
	is := map[int]bool{}
	every := map[int]bool{}
	for i, off := range offs {
		is[off], every[off] = true, i%2 == 1
	}
	return [][]uint64{
		p.claimed(func(int) bool { return true }),
		p.claimed(func(off int) bool { return off%2 == 0 }),
		p.claimed(func(off int) bool { return off%2 != 0 }),
		p.claimed(func(int) bool { return false }),
		p.claimed(func(off int) bool { return !is[off] }),
		p.claimed(func(off int) bool { return is[off] }),
		p.claimed(func(off int) bool { return every[off] }),
	}
}

// helds are reserved offsets: none, at the beginning, at the end, both and one between, and as
// many as can be at the beginning and at the end, but one that is left in a small block.
func (p pool) helds() [][]int {
	n := min(p.many-1, api.MaxHeld)
	return [][]int{
		nil, row(0, min(n, 1)), row(p.many-min(n, 1), min(n, 1)),
		slices.Compact([]int{0, p.many / 2, p.many - 1})[:min(n, 3)],
		row(0, n), row(p.many-n, n),
	}
}

// pools are those of that prefix, each with each of helds.
func pools(prefix int) []pool {
	var l []pool
	for _, held := range of(prefix).helds() {
		l = append(l, of(prefix, held...))
	}
	return l
}

// same tells whether the operations are, nil and empty lists being one.
func same(a, b api.Op) bool {
	for _, o := range []*api.Op{&a, &b} {
		o.Ask.Addrs = append([]uint32(nil), o.Ask.Addrs...)
		o.Answer = whole(o.Answer)
		o.Seen = append([]uint64(nil), o.Seen...)
	}
	return reflect.DeepEqual(a, b)
}

// whole is the answer, with lists of its own, nil where they are empty.
func whole(a api.Answer) api.Answer {
	a.Addrs = append([]uint32(nil), a.Addrs...)
	a.Errs = append([]api.Errno(nil), a.Errs...)
	return a
}

// told is the operation's answer with err told, from chapter 14's words.
func told(o api.Op, err api.Errno) api.Answer {
	a := whole(o.Answer)
	if o.Ask.Kind == api.Batch {
		a.Errs = append(a.Errs, err)
	} else {
		a.Err = err
	}
	return a
}

// course is how far an operation is: the offsets that it gives back, the cells, the operation,
// how many steps it did, and with which of them, counted from 1, it took effect.
type course struct {
	offs    []int
	l       []uint64
	o       api.Op
	steps   int
	effects []int
}

// begin is an operation that begins, in these cells.
func (p pool) begin(l []uint64, kind int, offs ...int) course {
	return course{offs: named(kind, offs), l: l, o: Begin(p.c, p.ask(kind, offs))}
}

// changes are the places of the cells that aren't what they were.
func changes(was, l []uint64) []int {
	var places []int
	for cell, w := range l {
		if w != was[cell] {
			places = append(places, cell)
		}
	}
	return places
}

// next does a step, and holds it against what each may do: take effect, of the address that is
// next, once, and tell that it is free, changing nothing, or drop its bit, which is set, and
// nothing else; or change no leaf, and no summary but where one is written. The request is what
// it was; Leaf and Bit are those of the address that it is at.
func (p pool) next(t *testing.T, a course) course {
	t.Helper()
	l, o, effect := Step(p.c, a.l, a.o)
	off, done := a.offs[a.o.Item], len(a.effects)
	if len(l) != len(a.l) || !ask.Same(o.Ask, a.o.Ask) || a.o.Leaf != off/32 || a.o.Bit != off%32 {
		t.Fatalf("the offset %d, %+v: %d cells, not %d, %+v", off, a.o, len(l), len(a.l), o)
	}
	used, changed, want, right := set(a.l[off/32], off%32), changes(a.l, l), whole(a.o.Answer), false
	switch {
	case effect && used:
		want = told(a.o, api.OK)
		right = a.o.Phase == api.PhDrop && a.o.Item == done && slices.Equal(changed, []int{off / 32}) &&
			l[off/32] == with(a.l[off/32], off%32, false)+once
	case effect:
		want = told(a.o, api.ErrFree)
		right = a.o.Phase == api.PhRead && a.o.Item == done && len(changed) == 0
	case a.o.Phase == api.PhSet:
		right = len(changed) == 0 || len(changed) == 1 && changed[0] >= p.leaves
	default:
		right = len(changed) == 0
	}
	if !right || !reflect.DeepEqual(whole(o.Answer), want) {
		t.Fatalf("%+v: %+v, %v, the cells %v changed, the bit used: %v, effects at %v", a.o, o, effect, changed, used, a.effects)
	}
	if effect {
		a.effects = append(slices.Clip(a.effects), a.steps+1)
	}
	return course{a.offs, l, o, a.steps + 1, a.effects}
}

// run does an operation's steps until it is done, but at most so many; ahead of each one others
// do theirs, in the cells.
func (p pool) run(t *testing.T, a course, most int, others func(a course)) course {
	t.Helper()
	a.l = slices.Clone(a.l)
	for a.o.Phase != api.PhDone && a.steps < most {
		others(a)
		a = p.next(t, a)
	}
	return a
}

// nobody does nothing.
func nobody(course) {}

// meant is what an operation comes to alone, from the chapters' words: the whole of it.
func (p pool) meant(l []uint64, kind int, offs []int) course {
	a := course{offs: named(kind, offs), l: slices.Clone(l), o: api.Op{Ask: p.ask(kind, offs)}}
	for i, off := range a.offs {
		leaf, bit := off/32, off%32
		a.o.Item, a.o.Leaf, a.o.Bit = i, leaf, bit
		was := a.l[leaf]
		if a.steps++; !set(was, bit) {
			a.effects, a.o.Answer = append(a.effects, a.steps), told(a.o, api.ErrFree)
			continue
		}
		a.steps++
		a.effects, a.o.Answer = append(a.effects, a.steps), told(a.o, api.OK)
		if a.l[leaf] = with(was, bit, false) + once; was%once != low {
			continue
		}
		for _, sum := range [][2]int{{p.top(leaf), leaf % 64}, {p.root(), leaf / 64}} {
			a.steps++
			if w := with(a.l[sum[0]], sum[1], false); w != a.l[sum[0]] {
				a.l[sum[0]], a.steps = w, a.steps+1
			}
		}
	}
	return a
}

// checkAlone holds an operation alone, step by step, against what it comes to, in six steps at
// most for each address.
func (p pool) checkAlone(t *testing.T, l []uint64, kind int, offs ...int) course {
	t.Helper()
	want, a := p.meant(l, kind, offs), p.begin(l, kind, offs...)
	a = p.run(t, a, 6*len(a.offs), nobody)
	if !slices.Equal(a.l, want.l) || !same(a.o, want.o) || a.steps != want.steps || !slices.Equal(a.effects, want.effects) {
		t.Fatalf("/%d, %v reserved, the Kind %d, the offsets %v, the tops and the root %#x: %d steps, not %d, the effects at %v, not %v,\n%+v, not\n%+v, or other cells",
			p.c.Block.Prefix, p.c.Held, kind, offs, l[p.leaves:], a.steps, want.steps, a.effects, want.effects, a.o, want.o)
	}
	return a
}

func TestTheConfigurationsMayBe(t *testing.T) {
	for _, x := range [][4]int{{32, 1, 1, 1}, {30, 4, 1, 1}, {27, 32, 1, 1}, {26, 64, 2, 1}, {21, 2048, 64, 1}, {20, 4096, 128, 2}, {16, 65536, 2048, 32}} {
		for _, p := range pools(x[0]) {
			if !block.May(p.c) || p.many != x[1] || p.leaves != x[2] || p.tops != x[3] || len(word.Cells(p.c)) != p.root()+1 {
				t.Errorf("%+v", p)
			}
			lists := p.lists()
			for _, offs := range lists {
				for _, kind := range kinds() {
					if ask.Check(p.c, p.ask(kind, offs)) != api.OK {
						t.Errorf("%+v: the Kind %d, the offsets %v", p, kind, offs)
					}
				}
			}
			if len(lists[0]) != 1 || len(lists[4]) != min(len(p.usable()), 64) || len(lists) != 19 {
				t.Errorf("%+v: %v", p, lists)
			}
		}
	}
}

// Of a block of four leaves, of a Release and as the first one of a Batch.
func TestBeginByHand(t *testing.T) { // P19.1
	for _, x := range []struct {
		addr      uint32
		leaf, bit int
	}{
		{0x0a010000, 0, 0}, {0x0a010001, 0, 1}, {0x0a01001f, 0, 31}, {0x0a010020, 1, 0}, {0x0a010025, 1, 5},
		{0x0a01003f, 1, 31}, {0x0a010040, 2, 0}, {0x0a010051, 2, 17}, {0x0a010060, 3, 0}, {0x0a01007f, 3, 31},
	} {
		for _, others := range [][]uint32{nil, {}, {0x0a010003}, {0x0a01007e, 0x0a010002}, slices.Repeat([]uint32{0x0a010007}, 63)} {
			for _, a := range []api.Ask{
				{Kind: api.Release, Addr: x.addr, Addrs: others},
				{Kind: api.Batch, Addr: 0x0a010044, Addrs: append([]uint32{x.addr}, others...)},
			} {
				want := api.Op{Ask: a, Phase: api.PhRead, Leaf: x.leaf, Bit: x.bit}
				if got := Begin(of(25).c, a); !same(got, want) {
					t.Errorf("%+v: %+v", a, got)
				}
			}
		}
	}
	// what says nothing of its Kind may be any address, or many, or none
	for _, a := range []api.Ask{
		{Kind: api.Release, Addr: 0x0a010025, Addrs: []uint32{0, 0, math.MaxUint32}},
		{Kind: api.Release, Addr: 0x0a010025, Addrs: slices.Repeat([]uint32{7}, 128)},
		{Kind: api.Batch, Addr: 0, Addrs: []uint32{0x0a010025}},
		{Kind: api.Batch, Addr: math.MaxUint32, Addrs: []uint32{0x0a010025, 0x0a010000}},
		{Kind: api.Batch, Addr: 0x0a010025, Addrs: []uint32{0x0a010025}},
	} {
		if got := Begin(of(25).c, a); !same(got, api.Op{Ask: a, Phase: api.PhRead, Leaf: 1, Bit: 5}) {
			t.Errorf("%+v: %+v", a, got)
		}
	}
}

// Each address that isn't reserved, wherever the block begins, alone and with others behind it.
func TestBeginOfEachAddress(t *testing.T) { // P19.1
	for _, prefix := range []int{32, 31, 30, 28, 27, 26, 24, 21, 20, 16} {
		for _, p := range pools(prefix) {
			for _, at := range []uint32{0, base, 0x7fff0000, 0x80000000, math.MaxUint32 - uint32(p.many) + 1} {
				p.c.Block.Base = at
				if !block.May(p.c) {
					t.Fatalf("it may not be: %+v", p.c)
				}
				offs, u := p.some(), p.usable()
				if prefix > 20 {
					offs = u
				}
				for i, off := range offs {
					others := u[i%(len(u)-min(len(u)-1, 63)):][:min(len(u), 64)-1]
					for _, kind := range kinds() {
						for _, l := range [][]int{{off}, append([]int{off}, others...)} {
							a := p.ask(kind, l)
							want := api.Op{Ask: a, Phase: api.PhRead, Leaf: off / 32, Bit: off % 32}
							if got := Begin(p.c, a); !same(got, want) {
								t.Fatalf("%#x/%d, the offset %d: %+v", at, prefix, off, got)
							}
						}
					}
				}
			}
		}
	}
}

// err and errs are answers of a Release and of a Batch.
func err(e api.Errno) api.Answer     { return api.Answer{Err: e} }
func errs(l ...api.Errno) api.Answer { return api.Answer{Errs: l} }

// line is one of a table: the cells, the operation, both behind a step, and whether it takes
// effect. An operation's Leaf and Bit are those of the address that it is at.
type line struct {
	l      [4]uint64
	o      api.Op
	then   [4]uint64
	want   api.Op
	effect bool
}

// checkLines holds the steps of operations with that request against what is told, of a block of
// two leaves: the cells are these, the top, the root.
func checkLines(t *testing.T, kind int, offs []int, lines []line) {
	t.Helper()
	for i, x := range lines {
		for _, o := range []*api.Op{&x.o, &x.want} {
			o.Ask, o.Leaf, o.Bit = of(26).ask(kind, offs), offs[o.Item]/32, offs[o.Item]%32
		}
		l, o, effect := Step(of(26).c, x.l[:], x.o)
		if !slices.Equal(l, x.then[:]) || !same(o, x.want) || effect != x.effect {
			t.Errorf("%d: %#x, %+v, %v, not %#x, %+v", i, l, o, effect, x.then, x.want)
		}
	}
}

// Of the leaf 1's bit 3.
func TestReleaseByHand(t *testing.T) { // P19.1
	const none, one, two = all, all - 1, all - 3 // summaries: no room; room in the leaf, or the top, 0; in the leaf 1, too
	free := err(api.ErrFree)
	checkLines(t, api.Release, []int{35, 5, 3}, []line{
		// the leaf is read: the address is used
		{[4]uint64{5, 15, two, one}, api.Op{Phase: api.PhRead}, [4]uint64{5, 15, two, one}, api.Op{Phase: api.PhDrop, Word: 15}, false},
		{[4]uint64{0, all, 0, 0}, api.Op{Phase: api.PhRead}, [4]uint64{0, all, 0, 0}, api.Op{Phase: api.PhDrop, Word: all}, false},
		// it is free
		{[4]uint64{15, 7, two, one}, api.Op{Phase: api.PhRead}, [4]uint64{15, 7, two, one}, api.Op{Answer: free}, true},
		{[4]uint64{all, 7 << 35, all, all}, api.Op{Phase: api.PhRead}, [4]uint64{all, 7 << 35, all, all}, api.Op{Answer: free}, true},
		{[4]uint64{5, low - 8, one, one}, api.Op{Phase: api.PhRead}, [4]uint64{5, low - 8, one, one}, api.Op{Answer: free}, true},
		// giving back: the leaf is as it was read
		{[4]uint64{5, 15, two, one}, api.Op{Phase: api.PhDrop, Word: 15}, [4]uint64{5, once + 7, two, one}, api.Op{}, true},
		{[4]uint64{5, 5*once + 8, 0, 0}, api.Op{Phase: api.PhDrop, Word: 5*once + 8}, [4]uint64{5, 6 * once, 0, 0}, api.Op{}, true},
		{[4]uint64{low, all - 16, two, one}, api.Op{Phase: api.PhDrop, Word: all - 16}, [4]uint64{low, low - 24, two, one}, api.Op{}, true},
		// it was full
		{[4]uint64{5, low, one, one}, api.Op{Phase: api.PhDrop, Word: low}, [4]uint64{5, once + low - 8, one, one}, api.Op{Phase: api.PhMark}, true},
		{[4]uint64{5, all, none, none}, api.Op{Phase: api.PhDrop, Word: all}, [4]uint64{5, low - 8, none, none}, api.Op{Phase: api.PhMark}, true},
		// another bit of it was claimed, or dropped
		{[4]uint64{5, once + 31, two, one}, api.Op{Phase: api.PhDrop, Word: 15}, [4]uint64{5, once + 31, two, one}, api.Op{Phase: api.PhRead}, false},
		{[4]uint64{5, once + 14, two, one}, api.Op{Phase: api.PhDrop, Word: 15}, [4]uint64{5, once + 14, two, one}, api.Op{Phase: api.PhRead}, false},
		// its own bit was dropped, or dropped and claimed again
		{[4]uint64{5, once + 7, two, one}, api.Op{Phase: api.PhDrop, Word: 15}, [4]uint64{5, once + 7, two, one}, api.Op{Phase: api.PhRead}, false},
		{[4]uint64{5, 2*once + 15, two, one}, api.Op{Phase: api.PhDrop, Word: 15}, [4]uint64{5, 2*once + 15, two, one}, api.Op{Phase: api.PhRead}, false},
		{[4]uint64{5, 2*once + low, none, none}, api.Op{Phase: api.PhDrop, Word: low}, [4]uint64{5, 2*once + low, none, none}, api.Op{Phase: api.PhRead}, false},
		// marking: the top is read, and written
		{[4]uint64{5, 7, one, one}, api.Op{Phase: api.PhMark}, [4]uint64{5, 7, one, one}, api.Op{Phase: api.PhSet, Word: one}, false},
		{[4]uint64{5, 7, two, one}, api.Op{Phase: api.PhMark}, [4]uint64{5, 7, two, one}, api.Op{Phase: api.PhMark, At: 1, Word: two}, false},
		{[4]uint64{low, 7, none, one}, api.Op{Phase: api.PhSet, Word: none}, [4]uint64{low, 7, none - 2, one}, api.Op{Phase: api.PhMark, At: 1, Word: none - 2}, false},
		{[4]uint64{low, 7, one, one}, api.Op{Phase: api.PhSet, Word: none}, [4]uint64{low, 7, one, one}, api.Op{Phase: api.PhMark, At: 1, Word: none - 2}, false},
		// the root is read, and written
		{[4]uint64{low, 7, none - 2, none}, api.Op{Phase: api.PhMark, At: 1, Word: none - 2}, [4]uint64{low, 7, none - 2, none}, api.Op{Phase: api.PhSet, At: 1, Word: none}, false},
		{[4]uint64{5, 7, two, one}, api.Op{Phase: api.PhMark, At: 1, Word: two}, [4]uint64{5, 7, two, one}, api.Op{}, false},
		{[4]uint64{low, 7, none - 2, none}, api.Op{Phase: api.PhSet, At: 1, Word: none}, [4]uint64{low, 7, none - 2, one}, api.Op{}, false},
		{[4]uint64{low, 7, none - 2, 5}, api.Op{Phase: api.PhSet, At: 1, Word: none}, [4]uint64{low, 7, none - 2, 5}, api.Op{}, false},
		// it is done
		{[4]uint64{5, 7, two, one}, api.Op{}, [4]uint64{5, 7, two, one}, api.Op{}, false},
		{[4]uint64{5, 15, two, one}, api.Op{Answer: free}, [4]uint64{5, 15, two, one}, api.Op{Answer: free}, false},
	})
}

// Of three addresses: the leaf 1's bit 3, the leaf 0's bit 5, and the leaf 1's bit 31.
func TestBatchByHand(t *testing.T) { // P19.1
	const top, root = all - 3, all - 1
	const f = api.ErrFree
	checkLines(t, api.Batch, []int{35, 5, 63}, []line{
		// the first one: it is used, or free
		{[4]uint64{5, 15, top, root}, api.Op{Phase: api.PhRead}, [4]uint64{5, 15, top, root}, api.Op{Phase: api.PhDrop, Word: 15}, false},
		{[4]uint64{5, 7, top, root}, api.Op{Phase: api.PhRead}, [4]uint64{5, 7, top, root}, api.Op{Phase: api.PhRead, Item: 1, Answer: errs(f)}, true},
		// it is given back, or was changed, or its leaf was full
		{[4]uint64{5, 15, top, root}, api.Op{Phase: api.PhDrop, Word: 15}, [4]uint64{5, once + 7, top, root}, api.Op{Phase: api.PhRead, Item: 1, Answer: errs(0)}, true},
		{[4]uint64{5, once + 7, top, root}, api.Op{Phase: api.PhDrop, Word: 15}, [4]uint64{5, once + 7, top, root}, api.Op{Phase: api.PhRead}, false},
		{[4]uint64{5, low, all, all}, api.Op{Phase: api.PhDrop, Word: low}, [4]uint64{5, once + low - 8, all, all}, api.Op{Phase: api.PhMark, Answer: errs(0)}, true},
		// that is marked
		{[4]uint64{5, 7, all, all}, api.Op{Phase: api.PhMark, Answer: errs(0)}, [4]uint64{5, 7, all, all}, api.Op{Phase: api.PhSet, Word: all, Answer: errs(0)}, false},
		{[4]uint64{5, 7, all, all}, api.Op{Phase: api.PhSet, Word: all, Answer: errs(0)}, [4]uint64{5, 7, all - 2, all}, api.Op{Phase: api.PhMark, At: 1, Word: all - 2, Answer: errs(0)}, false},
		{[4]uint64{5, 7, all - 2, all}, api.Op{Phase: api.PhMark, At: 1, Word: all - 2, Answer: errs(0)}, [4]uint64{5, 7, all - 2, all}, api.Op{Phase: api.PhSet, At: 1, Word: all, Answer: errs(0)}, false},
		{[4]uint64{5, 7, all - 2, 6}, api.Op{Phase: api.PhMark, At: 1, Word: all - 2, Answer: errs(0)}, [4]uint64{5, 7, all - 2, 6}, api.Op{Phase: api.PhRead, Item: 1, Answer: errs(0)}, false},
		{[4]uint64{5, 7, all - 2, all}, api.Op{Phase: api.PhSet, At: 1, Word: all, Answer: errs(0)}, [4]uint64{5, 7, all - 2, root}, api.Op{Phase: api.PhRead, Item: 1, Answer: errs(0)}, false},
		// the second one
		{[4]uint64{32, 7, top, root}, api.Op{Phase: api.PhRead, Item: 1, Answer: errs(0)}, [4]uint64{32, 7, top, root}, api.Op{Phase: api.PhDrop, Word: 32, Item: 1, Answer: errs(0)}, false},
		{[4]uint64{31, 7, top, root}, api.Op{Phase: api.PhRead, Item: 1, Answer: errs(0)}, [4]uint64{31, 7, top, root}, api.Op{Phase: api.PhRead, Item: 2, Answer: errs(0, f)}, true},
		{[4]uint64{32, 7, top, root}, api.Op{Phase: api.PhDrop, Word: 32, Item: 1, Answer: errs(f)}, [4]uint64{once, 7, top, root}, api.Op{Phase: api.PhRead, Item: 2, Answer: errs(f, 0)}, true},
		{[4]uint64{3*once + 32, 7, top, root}, api.Op{Phase: api.PhDrop, Word: 32, Item: 1, Answer: errs(f)}, [4]uint64{3*once + 32, 7, top, root}, api.Op{Phase: api.PhRead, Item: 1, Answer: errs(f)}, false},
		{[4]uint64{low - 32, 7, top, all}, api.Op{Phase: api.PhSet, At: 1, Word: all, Item: 1, Answer: errs(f, 0)}, [4]uint64{low - 32, 7, top, root}, api.Op{Phase: api.PhRead, Item: 2, Answer: errs(f, 0)}, false},
		// the last one
		{[4]uint64{5, 7, top, root}, api.Op{Phase: api.PhRead, Item: 2, Answer: errs(f, 0)}, [4]uint64{5, 7, top, root}, api.Op{Item: 2, Answer: errs(f, 0, f)}, true},
		{[4]uint64{5, 9<<32 + 1<<31, top, root}, api.Op{Phase: api.PhDrop, Word: 9<<32 + 1<<31, Item: 2, Answer: errs(f, f)}, [4]uint64{5, 10 << 32, top, root}, api.Op{Item: 2, Answer: errs(f, f, 0)}, true},
		{[4]uint64{5, low, top, root}, api.Op{Phase: api.PhDrop, Word: low, Item: 2, Answer: errs(0, 0)}, [4]uint64{5, once + low>>1, top, root}, api.Op{Phase: api.PhMark, Item: 2, Answer: errs(0, 0, 0)}, true},
		{[4]uint64{5, low >> 1, top, root}, api.Op{Phase: api.PhMark, At: 1, Word: top, Item: 2, Answer: errs(0, 0, 0)}, [4]uint64{5, low >> 1, top, root}, api.Op{Item: 2, Answer: errs(0, 0, 0)}, false},
		{[4]uint64{5, low >> 1, top, all}, api.Op{Phase: api.PhSet, At: 1, Word: all, Item: 2, Answer: errs(0, 0, 0)}, [4]uint64{5, low >> 1, top, root}, api.Op{Item: 2, Answer: errs(0, 0, 0)}, false},
		// it is done
		{[4]uint64{all, all, top, root}, api.Op{Item: 2, Answer: errs(0, f, 0)}, [4]uint64{all, all, top, root}, api.Op{Item: 2, Answer: errs(0, f, 0)}, false},
	})
}

// layer is a step, from the chapter's words: another layer's, by its exported call.
func layer(c api.Conf, l []uint64, o api.Op) ([]uint64, api.Op, bool) {
	switch o.Phase {
	case api.PhRead, api.PhDrop:
		return drop.Step(c, l, o)
	case api.PhMark, api.PhSet:
		l, o = hint.Step(c, l, o)
	}
	return l, o, false
}

// Whatever others do between: each step is that of its Phase, and each Phase is come to.
func TestAStepIsThatOfItsPhase(t *testing.T) { // P19.1
	met := map[int]int{}
	for seed := range 3000 {
		r := random(seed)
		p := of([]int{32, 31, 27, 26, 24, 20}[seed%6])
		lists := p.lists()
		offs := lists[r.below(len(lists))]
		l := p.fills(offs)[[]int{1, 3, 3, 4, 6}[r.below(5)]]
		l = p.hints(l, offs[0]/32)[r.below(8)]
		o := p.begin(l, kinds()[r.below(2)], offs...).o
		for range 30 {
			met[o.Phase]++
			wl, wo, wt := layer(p.c, l, o)
			gl, got, effect := Step(p.c, l, o)
			if !slices.Equal(gl, wl) || !same(got, wo) || effect != wt {
				t.Fatalf("/%d, %+v: %+v, %v, not %+v, %v, or other cells", p.c.Block.Prefix, o, got, effect, wo, wt)
			}
			l, o = slices.Clone(gl), got
			p.meddle(&r, l, offs[o.Item], 3)
		}
	}
	for _, phase := range []int{api.PhDone, api.PhRead, api.PhDrop, api.PhMark, api.PhSet} {
		if met[phase] < 1000 {
			t.Errorf("the phase %d: %d times", phase, met[phase])
		}
	}
}

// meddle is what others may do to the cells: once in so many times one of them claims or drops
// an address, of that offset's leaf rather often, or writes whatever it will into a summary.
func (p pool) meddle(r *random, l []uint64, near, rarely int) {
	if r.below(rarely) > 0 {
		return
	}
	if r.below(3) == 0 {
		l[p.leaves+r.below(p.tops+1)] = []uint64{all - 1<<r.below(64), r.word(), all}[r.below(3)]
		return
	}
	off := []int{near, min(near/32*32+r.below(32), p.many-1), r.below(p.many)}[r.below(3)]
	if slices.Contains(p.c.Held, off) {
		return
	}
	change := word.Claim
	if r.below(2) == 0 {
		change = word.Drop
	}
	l[off/32] = change(l[off/32], off%32)
}

// Of each block, with offsets reserved at its beginning and at its end, whatever is used, and is
// told by the summaries. (Of many leaves, one of so many of these, spread over them.)
func TestAlone(t *testing.T) { // P19.1, P19.2
	for _, x := range []struct{ prefix, every int }{
		{32, 1}, {31, 1}, {30, 1}, {28, 1}, {27, 3}, {26, 7}, {25, 7}, {24, 11}, {21, 61}, {20, 97}, {18, 199}, {16, 599},
	} {
		n, ends := 0, map[api.Errno]int{}
		for _, p := range pools(x.prefix) {
			for i, offs := range p.lists() {
				if x.prefix < 20 && i%2 == 1 { // which is long enough
					continue
				}
				for _, fill := range p.fills(offs) {
					for _, l := range p.hints(fill, offs[0]/32) {
						for _, kind := range kinds() {
							if n++; n%x.every != 0 {
								continue
							}
							a := p.checkAlone(t, l, kind, offs...)
							ends[a.o.Answer.Err]++
							for _, e := range a.o.Answer.Errs {
								ends[e]++
							}
						}
					}
				}
			}
		}
		if len(ends) != 2 || min(ends[api.OK], ends[api.ErrFree]) < 10 {
			t.Errorf("/%d: the ends: %v", x.prefix, ends)
		}
	}
}

// checkEnd holds the end of an operation against what is told of it: the steps, with which of
// them it took effect, and the answer.
func checkEnd(t *testing.T, a course, steps int, effects []int, want api.Answer) {
	t.Helper()
	if a.o.Phase != api.PhDone || a.steps != steps || !slices.Equal(a.effects, effects) || !reflect.DeepEqual(whole(a.o.Answer), whole(want)) {
		t.Fatalf("%d steps, not %d, the effects at %v, not %v, %+v, not %+v", a.steps, steps, a.effects, effects, a.o, want)
	}
}

// alone is an operation alone in these cells, behind six steps at most for each address.
func (p pool) alone(t *testing.T, l []uint64, kind int, offs ...int) course {
	t.Helper()
	return p.run(t, p.begin(l, kind, offs...), 6*len(named(kind, offs)), nobody)
}

// back are those cells with each of the offsets given back, by one change each.
func back(l []uint64, offs ...int) []uint64 {
	l = slices.Clone(l)
	for _, off := range offs {
		l[off/32] = with(l[off/32], off%32, false) + once
	}
	return l
}

// Of a full pool every address, once from the first one to the last one, and once mixed: it is
// given back, and no other bit changes; and is free then. What summaries told rightly, they tell
// rightly then.
func TestReleaseOfEachAddress(t *testing.T) { // P19.2
	for _, prefix := range []int{32, 31, 30, 27, 26, 24, 20, 18} {
		for i, p := range pools(prefix) {
			l, offs := p.claimed(func(int) bool { return false }), p.usable()
			if i%2 == 1 {
				offs = mixed(offs)
			}
			for _, off := range offs {
				a := p.alone(t, l, api.Release, off)
				checkEnd(t, a, a.steps, []int{2}, err(api.OK))
				if want := p.right(back(l, off)); prefix > 20 && !slices.Equal(a.l, want) {
					t.Fatalf("/%d, the offset %d: %#x, not %#x", prefix, off, a.l, want)
				}
				l = a.l
				checkEnd(t, p.alone(t, l, api.Release, off), 1, []int{1}, err(api.ErrFree))
			}
			if want := p.right(back(p.claimed(func(int) bool { return false }), offs...)); !slices.Equal(l, want) {
				t.Fatalf("/%d: other cells", prefix)
			}
		}
	}
}

// Of a full pool all addresses, by batches of as many as may be, rising, falling and mixed: each
// is told OK, and by the same batch once more ErrFree.
func TestBatchesOfAWholeBlock(t *testing.T) { // P19.2
	for _, prefix := range []int{32, 31, 30, 27, 26, 24, 20, 16} {
		for i, p := range pools(prefix) {
			if prefix == 16 && i != 3 { // which is long enough
				continue
			}
			full, u := p.claimed(func(int) bool { return false }), p.usable()
			l, want := full, p.right(back(full, u...))
			offs := [][]int{u, falling(u), mixed(u)}[i%3]
			for len(offs) > 0 {
				part := offs[:min(len(offs), api.MaxBatch)]
				n := len(part)
				a := p.alone(t, l, api.Batch, part...)
				checkEnd(t, a, a.steps, a.effects, errs(make([]api.Errno, n)...))
				l, offs = a.l, offs[n:]
				a = p.alone(t, l, api.Batch, part...)
				checkEnd(t, a, n, row(1, n), errs(slices.Repeat([]api.Errno{api.ErrFree}, n)...))
			}
			if !slices.Equal(l, want) {
				t.Fatalf("/%d: other cells", prefix)
			}
		}
	}
}

// How many steps a release alone takes: one of a free address, two of a used one, and those of
// marking a leaf that was full. A batch takes as many for each of its addresses.
func TestHowManySteps(t *testing.T) { // P19.2
	for i, x := range []struct {
		prefix    int
		top, root uint64 // of the leaf 0, as they are ahead of it
		free      func(off int) bool
		err       api.Errno
		steps     int
		then      [2]uint64
	}{
		{26, all, all, func(off int) bool { return off == 0 }, api.ErrFree, 1, [2]uint64{all, all}},
		{26, 0, 0, func(off int) bool { return off != 1 }, api.ErrFree, 1, [2]uint64{}},
		{26, all - 3, all - 1, func(off int) bool { return off == 1 }, api.OK, 2, [2]uint64{all - 3, all - 1}},
		{26, all, all, func(off int) bool { return off == 31 }, api.OK, 2, [2]uint64{all, all}},
		{26, all, all, nil, api.OK, 6, [2]uint64{all - 1, all - 1}},                     // both are read, and written
		{26, all - 1, all, nil, api.OK, 5, [2]uint64{all - 1, all - 1}},                 // the top is right
		{26, all - 2, all - 1, nil, api.OK, 5, [2]uint64{all - 3, all - 1}},             // the root is
		{26, all - 3, all - 1, nil, api.OK, 4, [2]uint64{all - 3, all - 1}},             // both are
		{26, 0, 0, nil, api.OK, 4, [2]uint64{}},                                         // they are read, and right
		{26, 1, 1, nil, api.OK, 6, [2]uint64{}},                                         // no other bit of them is set
		{27, all, all, nil, api.OK, 6, [2]uint64{all - 1, all - 1}},                     // of one leaf
		{32, all, all, nil, api.OK, 6, [2]uint64{all - 1, all - 1}},                     // of one address
		{20, all, all, nil, api.OK, 6, [2]uint64{all - 1, all - 1}},                     // of two tops
		{20, all - 1<<63, all - 3, nil, api.OK, 5, [2]uint64{all - 1<<63 - 1, all - 3}}, // the root lacks both
		{20, all, all - 2, nil, api.OK, 6, [2]uint64{all - 1, all - 3}},                 // it lacks the second one
	} {
		p := of(x.prefix)
		if x.free == nil {
			x.free = func(int) bool { return false }
		}
		l := p.claimed(x.free)
		l[p.top(0)], l[p.root()] = x.top, x.root
		for _, kind := range kinds() {
			a := p.checkAlone(t, l, kind, 0)
			want := err(x.err)
			if kind == api.Batch {
				want = errs(x.err)
			}
			checkEnd(t, a, x.steps, []int{min(x.steps, 2)}, want)
			if a.l[p.top(0)] != x.then[0] || a.l[p.root()] != x.then[1] {
				t.Errorf("%d: the summaries %#x", i, a.l[p.leaves:])
			}
		}
	}
}

// A leaf that was full, the first, one in the middle and the last one, of a full block: its first
// address that is given back has it marked, its others don't.
func TestAFullLeaf(t *testing.T) { // P19.1, P19.2
	for _, prefix := range []int{32, 30, 27, 26, 24, 20, 18, 16} {
		p := of(prefix)
		full := p.claimed(func(int) bool { return false })
		for _, leaf := range slices.Compact([]int{0, p.leaves / 2, p.leaves - 1}) {
			offs := row(32*leaf, min(p.many, 32))
			for _, offs := range [][]int{offs, falling(offs), mixed(offs)} {
				for _, l := range p.hints(full, leaf) {
					p.checkAlone(t, l, api.Release, offs...)
					p.checkAlone(t, l, api.Batch, offs...)
				}
				effects := []int{2}
				for i := range len(offs) - 1 {
					effects = append(effects, 8+2*i)
				}
				a := p.checkAlone(t, full, api.Batch, offs...)
				checkEnd(t, a, 4+2*len(offs), effects, errs(make([]api.Errno, len(offs))...))
				if !slices.Equal(a.l, p.right(back(full, offs...))) {
					t.Fatalf("/%d, the leaf %d: %#x", prefix, leaf, a.l[p.leaves:])
				}
			}
		}
	}
}

// A batch of used and of free addresses tells which were, in its order, by one effect for each.
func TestErrsAreToldInTheBatchsOrder(t *testing.T) { // P19.2
	for _, prefix := range []int{30, 27, 26, 24, 20, 16} {
		for _, p := range []pool{of(prefix), of(prefix, 0), of(prefix, row(of(prefix).many-2, 2)...)} {
			for _, offs := range p.lists() {
				for rule := range 4 {
					free := map[int]bool{}
					var want []api.Errno
					for i, off := range offs {
						free[off] = []bool{i == 0, i == len(offs)-1, i%2 == 0, i%3 == 0}[rule]
						want = append(want, map[bool]api.Errno{false: api.OK, true: api.ErrFree}[free[off]])
					}
					l := p.claimed(func(off int) bool { return free[off] })
					a := p.checkAlone(t, l, api.Batch, offs...)
					if !slices.Equal(a.o.Answer.Errs, want) || len(a.effects) != len(offs) {
						t.Fatalf("/%d, %v: %v, the effects at %v", prefix, offs, a.o.Answer.Errs, a.effects)
					}
					given := slices.DeleteFunc(slices.Clone(offs), func(off int) bool { return free[off] })
					if !slices.Equal(a.l[:p.leaves], back(l, given...)[:p.leaves]) {
						t.Fatalf("/%d, %v: other leaves", prefix, offs)
					}
				}
			}
		}
	}
}

// A batch of three addresses takes effect three times.
func TestABatchOfThreeAddresses(t *testing.T) { // P19.2, the chapter's example
	p := of(30, 3)
	l := p.claimed(func(int) bool { return false })
	a := p.alone(t, l, api.Batch, 2, 0, 1)
	checkEnd(t, a, 10, []int{2, 8, 10}, errs(api.OK, api.OK, api.OK))
	if !slices.Equal(a.l, []uint64{4*once + 2*once + low - 7, all - 1, all - 1}) {
		t.Errorf("%#x", a.l)
	}
	b := p.alone(t, a.l, api.Batch, 1, 2, 0)
	checkEnd(t, b, 3, []int{1, 2, 3}, errs(api.ErrFree, api.ErrFree, api.ErrFree))
	if !slices.Equal(a.l, b.l) {
		t.Errorf("%#x, not %#x", b.l, a.l)
	}
}

// Release 10.0.0.1, twice: OK, ErrFree. A batch of 10.0.0.1 and 10.0.0.2, the second one used:
// OK, with Errs ErrFree, OK.
func TestTheExamplesOfTheWhole(t *testing.T) { // P19.2
	p := of(30, 0, 3)
	p.c.Block.Base = 0x0a000000
	one := p.alone(t, p.claimed(func(off int) bool { return off == 2 }), api.Release, 1)
	checkEnd(t, one, 2, []int{2}, err(api.OK))
	two := p.alone(t, one.l, api.Release, 1)
	checkEnd(t, two, 1, []int{1}, err(api.ErrFree))
	l := p.claimed(func(off int) bool { return off == 1 })
	checkEnd(t, p.alone(t, l, api.Batch, 1, 2), 3, []int{1, 3}, errs(api.ErrFree, api.OK))
}

// What others do between the reading and the drop, and what the operation comes to: of the offset
// 35, which is the leaf 1's bit 3; alone, and the first, the second and the third one of a batch,
// whose others are of the leaf 0, and used.
func TestBetweenReadingAndDrop(t *testing.T) { // P19.1, P19.2
	type change func(l []uint64)
	nothing := func([]uint64) {}
	claims := func(off int) change {
		return func(l []uint64) { l[off/32] = word.Claim(l[off/32], off%32) }
	}
	drops := func(off int) change {
		return func(l []uint64) { l[off/32] = word.Drop(l[off/32], off%32) }
	}
	both := func(one, two change) change { return func(l []uint64) { one(l); two(l) } }
	p := of(26)
	start := p.claimed(func(off int) bool { return slices.Contains([]int{3, 7, 36, 63}, off) })
	for _, x := range []struct {
		others        change
		effect, steps int
		want          api.Errno
	}{
		{nothing, 2, 2, api.OK},
		// the leaf is as it was read: another leaf, or a summary, is another thing
		{claims(3), 2, 2, api.OK}, {both(drops(31), claims(31)), 2, 2, api.OK},
		{func(l []uint64) { l[2], l[3] = 5, 6 }, 2, 2, api.OK},
		// another bit of it was claimed, or dropped, or both; the leaf became full
		{claims(36), 4, 4, api.OK}, {claims(63), 4, 4, api.OK}, {drops(32), 4, 4, api.OK},
		{both(drops(34), claims(34)), 4, 4, api.OK}, {both(claims(36), drops(36)), 4, 4, api.OK},
		{both(claims(36), claims(63)), 4, 6, api.OK},
		// its own bit
		{drops(35), 3, 3, api.ErrFree}, {both(drops(35), drops(32)), 3, 3, api.ErrFree},
		{both(both(drops(35), claims(35)), drops(35)), 3, 3, api.ErrFree},
		{both(drops(35), claims(35)), 4, 4, api.OK}, {claims(35), 4, 4, api.OK},
	} {
		for at, offs := range [][]int{{35, 4, 5}, {4, 35, 5}, {4, 5, 35}} {
			for _, kind := range kinds()[min(at, 1):] {
				first := true
				a := p.run(t, p.begin(start, kind, offs...), 99, func(a course) {
					if first && a.o.Phase == api.PhDrop && a.o.Item == at {
						first = false
						x.others(a.l)
					}
				})
				if kind == api.Release {
					checkEnd(t, a, x.steps, []int{x.effect}, err(x.want))
					continue
				}
				effects, want := []int{2, 4, 6}, []api.Errno{api.OK, api.OK, api.OK}
				effects[at], want[at] = 2*at+x.effect, x.want
				for i := at + 1; i < 3; i++ {
					effects[i] = 2*i + x.steps
				}
				checkEnd(t, a, 4+x.steps, effects, errs(want...))
			}
		}
	}
}

// Others hinder it, by changing its leaf ahead of each drop, so many times: it reads again, and
// gives its address back by one effect, when they leave it alone, or finds it free, if another
// one gave it back.
func TestOthersHinderIt(t *testing.T) { // P19.2
	p := of(26)
	start := p.claimed(func(off int) bool { return off > 40 })
	for times := range 70 {
		for _, gone := range []bool{false, true} {
			n := 0
			a := p.run(t, p.begin(start, api.Release, 40), 999, func(a course) {
				if a.o.Phase != api.PhDrop || n >= times {
					return
				}
				n++
				off := 41 + n%20
				a.l[1] = word.Drop(word.Claim(a.l[1], off%32), off%32)
				if gone && n == times {
					a.l[1] = word.Drop(a.l[1], 8)
				}
			})
			if gone && times > 0 {
				checkEnd(t, a, 2*times+1, []int{2*times + 1}, err(api.ErrFree))
			} else {
				checkEnd(t, a, 2*times+2, []int{2*times + 2}, err(api.OK))
			}
		}
	}
}

// Another one writes whatever it will into the top, or the root, or changes the leaf, ahead of
// each step of marking: the address is given back still, and that by no more than six steps; the
// batch's next one is come to, and told.
func TestOthersWhileItMarks(t *testing.T) { // P19.2
	p := of(26)
	full := p.claimed(func(off int) bool { return off == 5 })
	for point := 2; point < 6; point++ {
		for cell, words := range [][]uint64{1: {0, low, 9*once + low - 1<<8, 9*once + 1<<8}, 2: {0, all, all - 1, all - 2, 5}, 3: {0, all, all - 1, 5, 1 << 63}} {
			for _, w := range words {
				others := func(a course) {
					if a.steps == point {
						a.l[cell] = w
					}
				}
				a := p.run(t, p.begin(full, api.Release, 40), 6, others)
				checkEnd(t, a, a.steps, []int{2}, err(api.OK))
				a = p.run(t, p.begin(full, api.Batch, 40, 5), 7, others)
				checkEnd(t, a, a.steps, []int{2, a.steps}, errs(api.OK, api.ErrFree))
			}
		}
	}
}

// schedules has two operations do their steps in each order that there is, and hands their ends
// to f, with the cells.
func (p pool) schedules(t *testing.T, l []uint64, two [2]course, f func(l []uint64, two [2]course)) {
	done := true
	for i := range two {
		if two[i].o.Phase == api.PhDone {
			continue
		}
		done = false
		then := two
		then[i].l = l
		then[i] = p.next(t, then[i])
		p.schedules(t, then[i].l, then, f)
	}
	if done {
		f(l, two)
	}
}

// tells is what the operation told of the address of that offset, and whether that is one of its.
func tells(a course, off int) (api.Errno, bool) {
	at := slices.Index(a.offs, off)
	if at < 0 || a.o.Ask.Kind == api.Release {
		return a.o.Answer.Err, at == 0
	}
	return a.o.Answer.Errs[at], true
}

// given are the offsets that the two told OK of: each of one that was used, which is one of their
// addresses, just once, and of no other one; who tells no OK of his own tells ErrFree.
func (p pool) given(t *testing.T, start []uint64, two [2]course) []int {
	t.Helper()
	var given []int
	for off := range p.many {
		oks, his := 0, false
		for _, a := range two {
			e, is := tells(a, off)
			his = his || is
			if is && e == api.OK {
				oks++
			} else if is && e != api.ErrFree {
				t.Fatalf("the offset %d: %+v", off, a.o)
			}
		}
		if oks > 1 || (oks == 1) != (his && set(start[off/32], off%32)) {
			t.Fatalf("the offset %d is told OK %d times: %+v, %+v", off, oks, two[0].o, two[1].o)
		}
		if oks == 1 {
			given = append(given, off)
		}
	}
	return given
}

// Two releases, or two batches, or one of each, in each order of their steps, of the same
// addresses, in one order or in two, of some that are, and of none: each address that is used is
// told OK by just one of them, by whichever it may be, and given back by one change; all else is
// told ErrFree, and stays.
func TestTwoInEachOrder(t *testing.T) { // P19.2
	r, b := api.Release, api.Batch
	for i, x := range []struct {
		prefix int
		kinds  [2]int
		offs   [2][]int
		free   []int
		right  bool // do summaries tell rightly then, whatever the order?
		orders int
	}{
		{32, [2]int{r, r}, [2][]int{{0}, {0}}, nil, true, 70},
		{30, [2]int{r, r}, [2][]int{{2}, {2}}, []int{1}, true, 6},
		{26, [2]int{r, r}, [2][]int{{40}, {40}}, nil, true, 70},
		{26, [2]int{r, r}, [2][]int{{40}, {40}}, []int{40}, true, 2},
		{27, [2]int{r, r}, [2][]int{{31}, {0}}, nil, true, 170},
		{26, [2]int{r, r}, [2][]int{{31}, {32}}, nil, false, 924},
		{26, [2]int{r, b}, [2][]int{{40}, {5, 40}}, []int{41}, false, 36},
		{26, [2]int{r, b}, [2][]int{{40}, {40, 5}}, []int{6, 41}, true, 18},
		{30, [2]int{b, b}, [2][]int{{1, 2}, {1, 2}}, nil, true, 1008},
		{30, [2]int{b, b}, [2][]int{{1, 2}, {2, 1}}, nil, true, 934},
		{30, [2]int{b, b}, [2][]int{{1, 2}, {2, 1}}, []int{0}, true, 90},
		{26, [2]int{b, b}, [2][]int{{5, 40}, {40, 5}}, []int{6, 41}, true, 46},
		{26, [2]int{b, b}, [2][]int{{5, 40, 9}, {5, 40, 9}}, []int{6, 40, 41}, true, 294},
		{26, [2]int{b, b}, [2][]int{{5, 40, 9}, {9, 40, 5}}, []int{6, 41}, true, 756},
		{25, [2]int{b, b}, [2][]int{{5, 100}, {100, 70}}, []int{6, 71, 101}, true, 60},
		{24, [2]int{b, b}, [2][]int{{0, 255}, {100, 70}}, []int{1, 71, 101, 254}, true, 70},
	} {
		p := of(x.prefix)
		start := p.claimed(func(off int) bool { return slices.Contains(x.free, off) })
		n, oks := 0, [2]map[int]int{{}, {}}
		both := [2]course{p.begin(start, x.kinds[0], x.offs[0]...), p.begin(start, x.kinds[1], x.offs[1]...)}
		p.schedules(t, start, both, func(l []uint64, two [2]course) {
			n++
			want := back(start, p.given(t, start, two)...)
			if !slices.Equal(l[:p.leaves], want[:p.leaves]) || x.right && !slices.Equal(l, p.right(want)) {
				t.Fatalf("%d: %#x, not %#x", i, l, p.right(want))
			}
			for k, a := range two {
				if len(a.effects) != len(a.offs) {
					t.Fatalf("%d: the effects at %v: %+v", i, a.effects, a.o)
				}
				for _, off := range a.offs {
					if e, _ := tells(a, off); e == api.OK {
						oks[k][off]++
					}
				}
			}
		})
		for off, times := range oks[0] { // whose it is hangs on the order
			if slices.Contains(both[1].offs, off) && (times == n || oks[1][off] != n-times) {
				t.Errorf("%d: the offset %d: OK %d times, and %d, of %d", i, off, times, oks[1][off], n)
			}
		}
		if n != x.orders {
			t.Errorf("%d: %d orders", i, n)
		}
	}
}

// Some of them, and others who claim, drop, and write into summaries, at any time, by a fixed
// rule: each takes effect once for each address, by what each step may do; and wherever it is,
// alone it ends within six steps for each address that is left, and one, since its first step may
// be a drop that can't be.
func TestAmongOthers(t *testing.T) { // P19.2
	among, alone, again := map[api.Errno]int{}, map[api.Errno]int{}, 0
	for seed := range 6000 {
		r := random(seed)
		p := of([]int{32, 31, 30, 27, 26, 25}[seed%6])
		lists := p.lists()
		near := r.below(p.many)
		l := p.claimed(func(int) bool { return r.below(9) == 0 })
		some := make([]course, 1+r.below(4))
		for i := range some {
			offs := [][]int{{near}, {r.below(p.many)}, lists[r.below(len(lists))]}[r.below(3)]
			some[i] = p.begin(l, kinds()[r.below(2)], offs...)
		}
		for range (1 + r.below(8)) * len(some) {
			i := r.below(len(some))
			l = slices.Clone(l)
			p.meddle(&r, l, near, 1+seed%5)
			was := some[i]
			some[i].l = l
			some[i] = p.run(t, some[i], was.steps+1, nobody)
			l = some[i].l
			if was.o.Phase == api.PhDrop && some[i].o.Phase == api.PhRead && len(some[i].effects) == len(was.effects) {
				again++
			}
		}
		for _, a := range some {
			was := len(a.effects)
			a.l = l
			a = p.run(t, a, a.steps+6*(len(a.offs)-a.o.Item)+1, nobody)
			if a.o.Phase != api.PhDone || len(a.effects) != len(a.offs) {
				t.Fatalf("/%d: the effects at %v, %d steps, %+v", p.c.Block.Prefix, a.effects, a.steps, a.o)
			}
			for i, off := range a.offs {
				ends := alone
				if i < was {
					ends = among
				}
				e, _ := tells(a, off)
				ends[e]++
			}
			l = a.l
		}
	}
	for _, e := range []api.Errno{api.OK, api.ErrFree} {
		if min(among[e], alone[e], again) < 1000 {
			t.Errorf("among others %v, alone %v, again %d", among, alone, again)
		}
	}
}

// roomy is l with such a one behind its length, so that a write there shows.
func roomy[T any](room T, l ...T) []T { return append(slices.Clone(l), room, room)[:len(l)] }

// made is an operation at the leaf 1's bit 3 of a block of two leaves, of a Batch the second of
// three addresses, with lists that have room behind them; made again, it is the same.
func made(kind, phase, at int, w uint64) api.Op {
	return api.Op{
		Ask:    api.Ask{Kind: kind, Addr: base + 35, Addrs: roomy(77, base+5, base+35, base+6)},
		Answer: api.Answer{Addrs: roomy(77, uint32(4), 5), Errs: roomy(api.ErrBusy, api.ErrFree)},
		Phase:  phase, Shard: 1, Sought: 1, Leaf: 1, Bit: 3, Word: w,
		Seen: roomy(77, uint64(21), 22), At: at, Tries: 3, Item: 1, Stamp: 8,
	}
}

// rooms are the operation's lists with the room behind them.
func rooms(o api.Op) []any {
	return []any{o.Ask.Addrs[:5], o.Answer.Addrs[:4], o.Answer.Errs[:3], o.Seen[:4]}
}

// each calls f with cells, with room behind them, and operations of both Kinds, of each Phase and
// of none, so that each end of a step is come to.
func each(f func(l []uint64, kind, phase, at int, w uint64)) {
	for _, kind := range kinds() {
		for phase := range 11 {
			for at := range 2 {
				for _, cell := range []uint64{7, 15, low} {
					for _, sum := range []uint64{cell, all, all - 3} {
						f(roomy(77, 3, cell, sum, sum), kind, phase, at, cell)
						f(roomy(77, 3, cell+once, sum, sum), kind, phase, at, cell)
					}
				}
			}
		}
	}
}

// What the chapters don't name of an operation stays, as it was handed in.
func TestWhatStaysOfTheOperation(t *testing.T) { // P19.1
	for _, kind := range kinds() {
		for _, x := range []struct {
			phase, at    int
			cell, w, sum uint64
			effect       bool
			f            func(o *api.Op)
		}{
			{api.PhRead, 0, 15, 0, 5, false, func(o *api.Op) { o.Phase, o.Word = api.PhDrop, 15 }},
			{api.PhRead, 0, 7, 0, 5, true, func(o *api.Op) { o.Answer, o.Phase = told(*o, api.ErrFree), api.PhDone }},
			{api.PhDrop, 0, 15, 15, 5, true, func(o *api.Op) { o.Answer, o.Phase, o.Word = told(*o, api.OK), api.PhDone, 0 }},
			{api.PhDrop, 0, 14, 15, 5, false, func(o *api.Op) { o.Phase, o.Word = api.PhRead, 0 }},
			{api.PhDrop, 0, low, low, 5, true, func(o *api.Op) { o.Answer, o.Phase, o.Word = told(*o, api.OK), api.PhMark, 0 }},
			{api.PhMark, 0, 7, 0, all, false, func(o *api.Op) { o.Phase, o.Word = api.PhSet, all }},
			{api.PhMark, 0, 7, 0, 5, false, func(o *api.Op) { o.At, o.Word = 1, 5 }},
			{api.PhSet, 0, 7, all, all, false, func(o *api.Op) { o.Phase, o.At, o.Word = api.PhMark, 1, all-2 }},
			{api.PhMark, 1, 7, 5, 4, false, func(o *api.Op) { o.Phase, o.At, o.Word = api.PhDone, 0, 0 }},
			{api.PhSet, 1, 7, all, all, false, func(o *api.Op) { o.Phase, o.At, o.Word = api.PhDone, 0, 0 }},
			{api.PhDone, 0, 15, 0, 5, false, func(o *api.Op) {}},
		} {
			o, want := made(kind, x.phase, x.at, x.w), made(kind, x.phase, x.at, x.w)
			x.f(&want)
			if next := x.at == 1 || x.effect; kind == api.Batch && next && want.Phase == api.PhDone {
				want.Phase, want.Item, want.Leaf, want.Bit = api.PhRead, 2, 0, 6
			}
			if _, got, effect := Step(of(26).c, []uint64{3, x.cell, x.sum, x.sum}, o); !same(got, want) || effect != x.effect {
				t.Errorf("%+v: %+v, %v, not %+v", o, got, effect, want)
			}
		}
	}
}

func TestWhatIsHandedInStays(t *testing.T) { // P19.3
	each(func(l []uint64, kind, phase, at int, w uint64) {
		c := of(26, roomy(9, 1, 2)...).c
		o, was, cells := made(kind, phase, at, w), made(kind, phase, at, w), slices.Clone(l[:6])
		Step(c, l, o)
		Begin(c, o.Ask)
		if !slices.Equal(l[:6], cells) || !slices.Equal(c.Held[:4], []int{1, 2, 9, 9}) {
			t.Errorf("%+v: cells, or Held, changed: %#x, %v", was, l[:6], c.Held[:4])
		}
		if !reflect.DeepEqual(o, was) || !reflect.DeepEqual(rooms(o), rooms(was)) {
			t.Errorf("%+v changed: %+v", was, o)
		}
	})
}

// fill writes x into a list, and into the room behind it.
func fill[T any](l []T, x T) {
	for i := range l[:cap(l)] {
		l[:cap(l)][i] = x
	}
}

// scrawl writes into all that an answer has for itself: not into the request's.
func scrawl(o api.Op) {
	fill(o.Answer.Addrs, 1234)
	fill(o.Answer.Errs, 1234)
	fill(o.Seen, 1234)
}

// The lists of an answer are its own, but what the request holds; so are cells that were written.
func TestWhatIsAnsweredIsNewMemory(t *testing.T) { // P19.3
	wrote := 0
	each(func(l []uint64, kind, phase, at int, w uint64) {
		c, cells := of(26).c, slices.Clone(l[:6])
		o, was := made(kind, phase, at, w), made(kind, phase, at, w)
		m, one, _ := Step(c, l, o)
		n, other, _ := Step(c, l, o)
		then, _, _ := Step(c, l, o)
		_, again, _ := Step(c, l, o)
		scrawl(one)
		scrawl(Begin(c, o.Ask))
		if !slices.Equal(m, l) {
			fill(m, 1234)
			wrote++
		}
		if !slices.Equal(l[:6], cells) || !slices.Equal(n, then) {
			t.Errorf("%+v: a write into the answer's cells shows in others", was)
		}
		if !reflect.DeepEqual(o, was) || !reflect.DeepEqual(rooms(o), rooms(was)) {
			t.Errorf("%+v: a write into the answer shows in what was handed in: %+v", was, o)
		}
		if !same(other, again) || slices.Contains(other.Answer.Addrs, 1234) || slices.Contains(other.Answer.Errs, 1234) || slices.Contains(other.Seen, 1234) {
			t.Errorf("%+v: a write into an answer shows in another one: %+v", was, other)
		}
	})
	if wrote < 8 {
		t.Errorf("cells were written %d times", wrote)
	}
}

// Two lists of one answer share nothing, though those that were handed in did, and Seen was the
// cells.
func TestNoTwoListsOfAnAnswerShareMemory(t *testing.T) { // P19.3
	each(func(l []uint64, kind, phase, at int, w uint64) {
		addrs := []uint32{base + 5, base + 35, base + 6}
		one, cells, o := slices.Clone(addrs), slices.Clone(l), made(kind, phase, at, w)
		o.Ask.Addrs, o.Answer.Addrs, o.Seen = one, one, l[:2]
		m, got, _ := Step(of(26).c, l, o)
		then := slices.Clone(m)
		scrawl(got)
		if !slices.Equal(got.Ask.Addrs, addrs) || !slices.Equal(one, addrs) || !slices.Equal(l, cells) || !slices.Equal(m, then) {
			t.Errorf("%+v: %v, %#x", o, one, l)
		}
	})
}

// Two batches that went on from one, by different ends, don't share the room of its Errs.
func TestBatchesThatPartDontShareErrs(t *testing.T) { // P19.3
	o := made(api.Batch, api.PhRead, 0, 0)
	_, free, _ := Step(of(26).c, []uint64{3, 7, 5, 6}, o)
	o.Phase, o.Word = api.PhDrop, 15
	_, gone, _ := Step(of(26).c, []uint64{3, 15, 5, 6}, o)
	if !slices.Equal(free.Answer.Errs, []api.Errno{api.ErrFree, api.ErrFree}) || !slices.Equal(gone.Answer.Errs, []api.Errno{api.ErrFree, api.OK}) {
		t.Errorf("%v, %v", free.Answer.Errs, gone.Answer.Errs)
	}
}

// Nil and empty lists are one, handed in and answered: of a Release, whose Kind asks for none.
func TestNilAndEmptyLists(t *testing.T) { // P19.1
	each(func(l []uint64, kind, phase, at int, w uint64) {
		o := made(kind, phase, at, w)
		o.Answer.Addrs, o.Answer.Errs, o.Seen = nil, nil, nil
		e := o
		e.Answer.Addrs, e.Answer.Errs, e.Seen = []uint32{}, []api.Errno{}, []uint64{}
		if kind == api.Release {
			o.Ask.Addrs, e.Ask.Addrs = nil, []uint32{}
		}
		m, a, x := Step(of(26).c, l, o)
		n, b, y := Step(of(26, []int{}...).c, l, e)
		if !slices.Equal(m, n) || !same(a, b) || x != y || !same(Begin(of(26).c, o.Ask), Begin(of(26).c, e.Ask)) {
			t.Errorf("%+v, %+v", a, b)
		}
	})
}

// The same is answered each time, and shards, workers, queues and tries are nothing to it.
func TestAnswersHangOnArgumentsAlone(t *testing.T) { // P19.1
	each(func(l []uint64, kind, phase, at int, w uint64) {
		c := of(26).c
		m, a, x := Step(c, l, made(kind, phase, at, w))
		for range 3 {
			c.Shards, c.Workers, c.Queue, c.Tries = c.Shards+1, c.Workers+1, c.Queue+1, c.Tries+1
			if n, b, y := Step(c, l, made(kind, phase, at, w)); !slices.Equal(m, n) || !same(a, b) || x != y {
				t.Errorf("%+v, %+v", a, b)
			}
			if one := Begin(c, a.Ask); !same(one, Begin(of(26).c, a.Ask)) {
				t.Errorf("%+v", one)
			}
		}
	})
}

// An operation that is done, and one in a Phase that neither Kind comes to, stay.
func TestPhasesWithoutAStep(t *testing.T) { // P19.1
	each(func(l []uint64, kind, _, at int, w uint64) {
		for _, phase := range []int{api.PhDone, api.PhSeek, api.PhLook, api.PhClaim, api.PhFirst, api.PhAgain, 10, -1, math.MinInt, math.MaxInt} {
			o := made(kind, phase, at, w)
			if m, p, effect := Step(of(26).c, l, o); !slices.Equal(m, l) || !same(p, o) || effect {
				t.Errorf("the phase %d: %#x, %+v, %v", phase, m, p, effect)
			}
		}
	})
}

// The chapter promises nothing of these but that the calls end and don't panic.
func TestNothingPanics(t *testing.T) { // P1
	odd := []int{math.MinInt, -65536, -64, -1, 0, 1, 2, 31, 32, 64, 2048, math.MaxInt - 1, math.MaxInt}
	few := [][]uint64{nil, {5}, {5, all, 5}, slices.Repeat([]uint64{low}, 40)}
	addrs := [][]uint32{nil, {}, {math.MaxUint32}, {0, 1 << 31, math.MaxUint32}, slices.Repeat([]uint32{base}, 80)}
	confs := []api.Conf{{}}
	for _, prefix := range []int{math.MinInt, -1, 0, 15, 16, 27, 32, 33, math.MaxInt} {
		for _, n := range []int{math.MinInt, -1, 0, 1, 65, math.MaxInt} {
			c := api.Conf{Block: api.Block{Base: 7, Prefix: prefix}, Held: []int{-1, math.MaxInt, 3, 3}, Shards: n, Workers: n, Queue: n, Tries: n}
			confs = append(confs, c, api.Conf{Block: api.Block{Base: 1 << 31, Prefix: prefix}, Shards: n})
		}
	}
	for i, c := range confs {
		for j, leaf := range odd {
			for k, n := range odd {
				kind := []int{api.Batch, api.Release, api.Batch, api.Query, api.Grant, 0, math.MaxInt}[(i+j+k)%7]
				a := api.Ask{Kind: kind, Addr: []uint32{0, 7, base, 1 << 31, math.MaxUint32}[(i+2*j+k)%5], Addrs: addrs[(i+j+3*k)%5]}
				l, seen := few[(i+j+k)%4], few[(i+2*j+3*k)%4]
				Step(c, l, Begin(c, a))
				for phase := -1; phase <= 10; phase++ {
					o := api.Op{Ask: a, Phase: phase, Shard: n, Sought: leaf, Leaf: leaf, Bit: n, Word: 5, Full: j%2 == 0, Seen: seen, At: n, Tries: n, Item: n, Stamp: leaf}
					Step(c, l, o)
				}
			}
		}
	}
}

package snap

import (
	"math"
	"reflect"
	"slices"
	"testing"

	"lodger/api"
	"lodger/block"
	"lodger/model"
	"lodger/word"
)

// low are a leaf's bits, all set; once is one change of it; all is a word all of whose bits are
// set; base is where the tests' blocks begin, if nothing else is said.
const (
	low  = uint64(1)<<32 - 1
	once = uint64(1) << 32
	all  = uint64(math.MaxUint64)
	base = uint32(0x0a010000)
)

// pool is a configuration, and how much its block has.
type pool struct {
	c                  api.Conf
	many, leaves, tops int
}

// of answers the pool of that prefix, of so many tries, and those reserved offsets.
func of(prefix, tries int, held ...int) pool {
	many := 1 << (32 - prefix)
	leaves := (many + 31) / 32
	c := api.Conf{Block: api.Block{Base: base, Prefix: prefix}, Held: held, Shards: 2, Workers: 3, Queue: 4, Tries: tries}
	return pool{c: c, many: many, leaves: leaves, tops: (leaves + 63) / 64}
}

// addr is the address of that offset.
func (p pool) addr(off int) uint32 { return p.c.Block.Base + uint32(off) }

// set tells whether the bit is; with is w whose bit is so.
func set(w uint64, bit int) bool { return w>>bit%2 == 1 }
func with(w uint64, bit int, is bool) uint64 {
	if set(w, bit) != is {
		w ^= 1 << bit
	}
	return w
}

// random is a source of numbers by a fixed rule.
type random uint64

func (r *random) below(n int) int {
	*r = *r*6364136223846793005 + 1442695040888963407
	return int(uint64(*r) >> 32 % uint64(n))
}
func (r *random) word() uint64 { return uint64(r.below(1<<32))<<32 + uint64(r.below(1<<32)) }

// row are the n numbers from first on.
func row(first, n int) []int {
	var l []int
	for i := range n {
		l = append(l, first+i)
	}
	return l
}

// some are the leaves of interest: the first and the last one, their neighbours, and one in the
// middle.
func (p pool) some() []int {
	l := []int{0, min(1, p.leaves-1), p.leaves / 2, max(0, p.leaves-2), p.leaves - 1}
	slices.Sort(l)
	return slices.Compact(l)
}

// cells are as many as there are, all but leaves being any words.
func (p pool) cells(leaves []uint64) []uint64 {
	l, r := slices.Clone(leaves), random(len(leaves))
	for range p.tops + 1 {
		l = append(l, r.word())
	}
	return l
}

// reserved tells which of the offsets are.
func (p pool) reserved() map[int]bool {
	is := map[int]bool{}
	for _, off := range p.c.Held {
		is[off] = true
	}
	return is
}

// filled are cells with claims of the offsets that are used, each claimed once.
func (p pool) filled(used func(off int) bool) []uint64 {
	leaves, held := make([]uint64, p.leaves), p.reserved()
	for off := range 32 * p.leaves {
		switch {
		case off >= p.many || held[off]:
			leaves[off/32] = with(leaves[off/32], off%32, true)
		case used(off):
			leaves[off/32] = with(leaves[off/32], off%32, true) + once
		}
	}
	return p.cells(leaves)
}

// fills are cells with nothing used, every other address, its opposite, the first and the last
// one, some by a fixed rule, and all.
func (p pool) fills() [][]uint64 {
	r := random(p.many)
	return [][]uint64{
		p.filled(func(int) bool { return false }),
		p.filled(func(off int) bool { return off%2 == 0 }),
		p.filled(func(off int) bool { return off%2 != 0 }),
		p.filled(func(off int) bool { return off < 2 || off > p.many-3 }),
		p.filled(func(int) bool { return r.below(3) == 0 }),
		p.filled(func(int) bool { return true }),
	}
}

// helds are reserved offsets: none, at the beginning, at the end, both and one between, and as
// many as can be at the beginning and at the end.
func (p pool) helds() [][]int {
	n := min(p.many, api.MaxHeld)
	ends := []int{0, p.many / 2, p.many - 1}
	return [][]int{nil, {0}, {p.many - 1}, slices.Compact(ends), row(0, n), row(p.many-n, n)}
}

// used are the addresses of the offsets that aren't reserved whose bits are set in those leaves,
// offset by offset.
func (p pool) used(l []uint64) []uint32 {
	var addrs []uint32
	held := p.reserved()
	for off := range p.many {
		if set(l[off/32], off%32) && !held[off] {
			addrs = append(addrs, p.addr(off))
		}
	}
	return addrs
}

// same tells whether the operations are, nil and empty lists being one.
func same(a, b api.Op) bool {
	lists := slices.Equal(a.Ask.Addrs, b.Ask.Addrs) && slices.Equal(a.Answer.Addrs, b.Answer.Addrs) &&
		slices.Equal(a.Answer.Errs, b.Answer.Errs) && slices.Equal(a.Seen, b.Seen)
	for _, o := range []*api.Op{&a, &b} {
		o.Ask.Addrs, o.Answer.Addrs, o.Answer.Errs, o.Seen = nil, nil, nil, nil
	}
	return lists && reflect.DeepEqual(a, b)
}

// meant is what a step makes, from the chapters' words.
func (p pool) meant(l []uint64, o api.Op) (api.Op, bool) {
	switch {
	case o.Phase == api.PhDone:
		return o, false
	case o.Phase == api.PhFirst:
		o.Seen = append(slices.Clone(o.Seen), l[o.At])
		if o.At++; o.At == p.leaves {
			o.Phase, o.At = api.PhAgain, 0
		}
		return o, false
	case l[o.At] != o.Seen[o.At]:
		o.Phase, o.At, o.Seen = api.PhFirst, 0, nil
		if o.Tries++; o.Tries == p.c.Tries {
			o.Phase, o.Answer.Err = api.PhDone, api.ErrRetry
		}
		return o, o.Phase == api.PhDone
	}
	if o.At++; o.At < p.leaves {
		return o, false
	}
	o.Answer.Addrs = p.used(o.Seen)
	o.Phase, o.At, o.Seen = api.PhDone, 0, nil
	return o, true
}

// left is how many steps are, from the chapter's words.
func (p pool) left(o api.Op) int {
	n := 0
	if o.Phase == api.PhDone {
		return n
	}
	for range 2 {
		n += p.leaves
	}
	if n -= o.At; o.Phase == api.PhAgain {
		n -= p.leaves
	}
	for range p.c.Tries - o.Tries - 1 {
		n += p.leaves + p.leaves
	}
	return n
}

// check holds a step, and what is left ahead of it and behind it, against what is meant.
func (p pool) check(t *testing.T, l []uint64, o api.Op) (api.Op, bool) {
	t.Helper()
	want, effect := p.meant(l, o)
	got, took := Step(p.c, l, o)
	if !same(got, want) || took != effect {
		t.Fatalf("/%d, %d tries, %+v:\n%+v, %v, not\n%+v, %v", p.c.Block.Prefix, p.c.Tries, o, got, took, want, effect)
	}
	for _, x := range []api.Op{o, got} {
		if n := Left(p.c, x); n != p.left(x) {
			t.Fatalf("/%d, %d tries, %+v: %d left, not %d", p.c.Block.Prefix, p.c.Tries, x, n, p.left(x))
		}
	}
	return got, took
}

// roomy is l with such a one behind its length, so that a write there shows.
func roomy[T any](room T, l ...T) []T { return append(slices.Clone(l), room, room)[:len(l)] }

// made is an operation none of whose fields is zero, but those that are handed in, with lists
// that have room behind them; made again, it is the same.
func made(phase, at, tries int, seen ...uint64) api.Op {
	return api.Op{
		Ask:    api.Ask{Kind: api.Snapshot, Addr: base + 3, Addrs: roomy(77, base+5, base+6)},
		Answer: api.Answer{Err: api.ErrBusy, Addr: base + 7, Used: true, Addrs: roomy(77, uint32(4), 5), Errs: roomy(api.ErrBusy, api.ErrFree, api.OK)},
		Phase:  phase, Shard: 1, Sought: 2, Leaf: 1234, Bit: 17, Word: 99, Full: true,
		Seen: roomy(77, seen...), At: at, Tries: tries, Item: 6, Stamp: 8,
	}
}

// rooms are the operation's lists with the room behind them.
func rooms(o api.Op) []any {
	return []any{o.Ask.Addrs[:4], o.Answer.Addrs[:4], o.Answer.Errs[:4], o.Seen[:len(o.Seen)+2]}
}

func TestTheConfigurationsMayBe(t *testing.T) {
	for _, x := range [][4]int{{32, 1, 1, 1}, {31, 2, 1, 1}, {30, 4, 1, 1}, {27, 32, 1, 1}, {26, 64, 2, 1}, {24, 256, 8, 1}, {21, 2048, 64, 1}, {20, 4096, 128, 2}, {16, 65536, 2048, 32}} {
		for _, held := range of(x[0], 1).helds() {
			for _, tries := range []int{1, 2, api.MaxTries} {
				p := of(x[0], tries, held...)
				if !block.May(p.c) || p.many != x[1] || p.leaves != x[2] || p.tops != x[3] || len(word.Cells(p.c)) != len(p.fills()[0]) {
					t.Fatalf("%+v", p)
				}
				if !slices.Equal(p.fills()[0][:p.leaves], word.Cells(p.c)[:p.leaves]) {
					t.Fatalf("%+v: %#x", p, p.fills()[0])
				}
			}
		}
	}
}

// Each field of an operation, by its name.
func TestBegin(t *testing.T) { // P20.1
	o := reflect.ValueOf(Begin())
	for i := range o.NumField() {
		name, got := o.Type().Field(i).Name, o.Field(i).Interface()
		switch name {
		case "Ask":
			if a := got.(api.Ask); a.Kind != 6 || a.Addr != 0 || len(a.Addrs) != 0 {
				t.Errorf("the request: %+v", a)
			}
		case "Answer":
			if a := got.(api.Answer); a.Err != 0 || a.Addr != 0 || a.Used || len(a.Addrs)+len(a.Errs) != 0 {
				t.Errorf("the answer: %+v", a)
			}
		case "Phase":
			if got != 6 {
				t.Errorf("the Phase: %v", got)
			}
		case "Seen":
			if len(got.([]uint64)) != 0 {
				t.Errorf("Seen: %v", got)
			}
		default:
			if !o.Field(i).IsZero() {
				t.Errorf("%s: %v", name, got)
			}
		}
	}
}

// Of a block of two leaves, of three tries, the offsets 0 and 33 reserved; how many steps are
// left is of the operation behind the step.
func TestStepByHand(t *testing.T) { // P20.1, P20.2
	p := of(26, 3, 0, 33)
	for i, x := range []struct {
		phase, at, tries int
		zero, one        uint64 // the leaves' words
		seen             []uint64
		then, to, had    int // the Phase, At, Tries
		behind           []uint64
		err              api.Errno
		addrs            []uint32
		effect           bool
		left             int
	}{
		// the first collect takes whatever it reads
		{api.PhFirst, 0, 0, 1, 2, nil, api.PhFirst, 1, 0, []uint64{1}, 0, nil, false, 11},
		{api.PhFirst, 0, 2, 9*once + low, 2, nil, api.PhFirst, 1, 2, []uint64{9*once + low}, 0, nil, false, 3},
		{api.PhFirst, 1, 0, 5, 2, []uint64{1}, api.PhAgain, 0, 0, []uint64{1, 2}, 0, nil, false, 10},
		{api.PhFirst, 1, 1, 1, 7*once + 2, []uint64{1}, api.PhAgain, 0, 1, []uint64{1, 7*once + 2}, 0, nil, false, 6},
		// the leaf is what Seen has
		{api.PhAgain, 0, 0, 1, 7, []uint64{1, 2}, api.PhAgain, 1, 0, []uint64{1, 2}, 0, nil, false, 9},
		{api.PhAgain, 0, 2, 1, 7, []uint64{1, 2}, api.PhAgain, 1, 2, []uint64{1, 2}, 0, nil, false, 1},
		{api.PhAgain, 1, 0, 1, 2, []uint64{1, 2}, api.PhDone, 0, 0, nil, 0, nil, true, 0},
		{api.PhAgain, 1, 2, 7, once + 6, []uint64{5, once + 6}, api.PhDone, 0, 2, nil, 0, []uint32{base + 2, base + 34}, true, 0},
		{api.PhAgain, 1, 1, 7, 3, []uint64{once<<31 + 3, 3}, api.PhDone, 0, 1, nil, 0, []uint32{base + 1, base + 32}, true, 0},
		// it isn't: by a bit that is set, by one that isn't, by its changes alone
		{api.PhAgain, 0, 0, 3, 2, []uint64{1, 2}, api.PhFirst, 0, 1, nil, 0, nil, false, 8},
		{api.PhAgain, 0, 1, 1, 2, []uint64{3, 2}, api.PhFirst, 0, 2, nil, 0, nil, false, 4},
		{api.PhAgain, 0, 0, 2*once + 1, 2, []uint64{1, 2}, api.PhFirst, 0, 1, nil, 0, nil, false, 8},
		{api.PhAgain, 0, 2, 3, 2, []uint64{1, 2}, api.PhDone, 0, 3, nil, api.ErrRetry, nil, true, 0},
		{api.PhAgain, 1, 0, 1, 6, []uint64{1, 2}, api.PhFirst, 0, 1, nil, 0, nil, false, 8},
		{api.PhAgain, 1, 1, 1, 2, []uint64{1, 1<<63 + 2}, api.PhFirst, 0, 2, nil, 0, nil, false, 4},
		{api.PhAgain, 1, 2, 1, 2*once + 2, []uint64{1, 2}, api.PhDone, 0, 3, nil, api.ErrRetry, nil, true, 0},
		// there is no further step
		{api.PhDone, 0, 3, 1, 2, nil, api.PhDone, 0, 3, nil, 0, nil, false, 0},
		{api.PhDone, 0, 0, 1, 2, nil, api.PhDone, 0, 0, nil, 0, nil, false, 0},
	} {
		o := api.Op{Ask: api.Ask{Kind: api.Snapshot}, Phase: x.phase, At: x.at, Tries: x.tries, Seen: x.seen}
		want := api.Op{Ask: api.Ask{Kind: api.Snapshot}, Phase: x.then, At: x.to, Tries: x.had, Seen: x.behind, Answer: api.Answer{Err: x.err, Addrs: x.addrs}}
		got, effect := Step(p.c, []uint64{x.zero, x.one, 5, 6}, o)
		if !same(got, want) || effect != x.effect {
			t.Errorf("%d: %+v, %v, not %+v", i, got, effect, want)
		}
		if n := Left(p.c, got); n != x.left {
			t.Errorf("%d: %d left, not %d", i, n, x.left)
		}
	}
}

// What the chapters don't name of an operation stays, as it was handed in.
func TestWhatStaysOfTheOperation(t *testing.T) { // P20.1
	p := of(26, 3)
	for i, x := range []struct {
		o      api.Op
		effect bool
		f      func(o *api.Op)
	}{
		{made(api.PhFirst, 0, 1), false, func(o *api.Op) { o.At, o.Seen = 1, []uint64{7} }},
		{made(api.PhFirst, 1, 1, 5), false, func(o *api.Op) { o.Phase, o.At, o.Seen = api.PhAgain, 0, []uint64{5, 9} }},
		{made(api.PhAgain, 0, 1, 7, 5), false, func(o *api.Op) { o.At = 1 }},
		{made(api.PhAgain, 0, 1, 6, 9), false, func(o *api.Op) { o.Phase, o.Tries, o.Seen = api.PhFirst, 2, nil }},
		{made(api.PhAgain, 1, 2, 7, 5), true, func(o *api.Op) {
			o.Phase, o.At, o.Tries, o.Seen, o.Answer.Err = api.PhDone, 0, 3, nil, api.ErrRetry
		}},
		{made(api.PhAgain, 1, 1, 2, 9), true, func(o *api.Op) {
			o.Phase, o.At, o.Seen, o.Answer.Addrs = api.PhDone, 0, nil, []uint32{base + 1, base + 32, base + 35}
		}},
		{made(api.PhDone, 1, 1, 2, 9), false, func(o *api.Op) {}},
	} {
		want := x.o
		x.f(&want)
		if got, effect := Step(p.c, []uint64{7, 9, 5, 6}, x.o); !same(got, want) || effect != x.effect {
			t.Errorf("%d: %+v, %v, not %+v", i, got, effect, want)
		}
	}
}

// words are leaves' words: changed never, often, and as often as can be; empty, full, with some
// set.
func words() []uint64 {
	var l []uint64
	for _, changed := range []uint64{0, 1, 1 << 31, 1<<32 - 1} {
		for _, bits := range []uint64{0, low, 1, 1 << 31, low - 1, low >> 1, 0x55555555, 0xaaaaaaaa, 0x0000ffff} {
			l = append(l, changed*once+bits)
		}
	}
	return l
}

// others are words that aren't w: by one of the lowest bits, by the changes alone, by both.
func others(w uint64) []uint64 {
	return []uint64{
		w ^ 1, w ^ 1<<17, w ^ 1<<31, w ^ 1<<32, w ^ 1<<63, w + once, w + 2*once, w - once, w ^ low, ^w,
		word.Claim(w, 3), word.Drop(w, 3),
	}
}

// had are tries that are of interest: none, one in the middle, all but one.
func had(tries int) []int {
	l := []int{0, tries / 2, tries - 1}
	slices.Sort(l)
	return slices.Compact(l)
}

// Each word at each leaf of interest, of each block: read for the first collect, and for the
// second one, where it is what was seen, and where it isn't.
func TestStepsOfEachWord(t *testing.T) { // P20.1, P20.2
	for _, prefix := range []int{32, 30, 27, 26, 24, 21, 20, 16} {
		for i, w := range words() {
			if prefix <= 21 && i%7 > 0 { // of many leaves some of the words
				continue
			}
			p := of(prefix, []int{1, 2, 3, api.MaxTries}[i%4], 0)
			for _, at := range p.some() {
				r := random(at)
				seen := make([]uint64, p.leaves)
				for leaf := range seen {
					seen[leaf] = r.word()
				}
				seen[at] = w
				for _, tries := range had(p.c.Tries) {
					l := p.cells(seen)
					p.check(t, l, made(api.PhFirst, at, tries, seen[:at]...))
					p.check(t, l, made(api.PhAgain, at, tries, seen...))
					for _, now := range others(w) {
						l[at] = now
						if p.leaves < 100 || tries == 0 {
							p.check(t, l, made(api.PhAgain, at, tries, seen...))
						}
					}
				}
			}
		}
	}
}

func TestLeftByHand(t *testing.T) { // P20.2
	for _, x := range []struct{ prefix, tries, phase, at, had, left int }{
		{32, 1, api.PhFirst, 0, 0, 2},
		{32, 1, api.PhAgain, 0, 0, 1},
		{27, 3, api.PhFirst, 0, 0, 6}, // the chapter's example
		{27, 3, api.PhAgain, 0, 0, 5},
		{27, 3, api.PhFirst, 0, 1, 4},
		{27, 3, api.PhAgain, 0, 1, 3},
		{27, 3, api.PhFirst, 0, 2, 2},
		{27, 3, api.PhAgain, 0, 2, 1},
		{26, 1, api.PhFirst, 0, 0, 4},
		{26, 1, api.PhFirst, 1, 0, 3},
		{26, 1, api.PhAgain, 0, 0, 2},
		{26, 1, api.PhAgain, 1, 0, 1},
		{24, 8, api.PhFirst, 0, 0, 128},
		{24, 8, api.PhFirst, 7, 0, 121},
		{24, 8, api.PhAgain, 0, 0, 120},
		{24, 8, api.PhAgain, 7, 3, 65},
		{24, 8, api.PhAgain, 7, 7, 1},
		{16, 1, api.PhFirst, 0, 0, 4096},
		{16, 8, api.PhFirst, 0, 0, 32768},
		{16, 8, api.PhFirst, 2047, 4, 14337},
		{16, 8, api.PhAgain, 0, 4, 14336},
		{16, 8, api.PhAgain, 2047, 7, 1},
	} {
		p := of(x.prefix, x.tries)
		seen := make([]uint64, p.leaves)
		if x.phase == api.PhFirst {
			seen = seen[:x.at]
		}
		for _, o := range []api.Op{made(x.phase, x.at, x.had, seen...), {Ask: api.Ask{Kind: api.Snapshot}, Phase: x.phase, At: x.at, Tries: x.had, Seen: seen}} {
			if n := Left(p.c, o); n != x.left {
				t.Errorf("/%d, %d tries: of the Phase %d, At %d, Tries %d: %d, not %d", x.prefix, x.tries, x.phase, x.at, x.had, n, x.left)
			}
		}
	}
}

// Of each block, each number of tries, each number of those that were, and each step; of what
// is done none is left, whatever else it holds.
func TestLeftOfEachOperation(t *testing.T) { // P20.2
	for prefix := api.MinPrefix; prefix <= api.MaxPrefix; prefix++ {
		for tries := 1; tries <= api.MaxTries; tries++ {
			p := of(prefix, tries, 0)
			seen := make([]uint64, p.leaves)
			want := 2 * p.leaves * tries
			if n := Left(p.c, Begin()); n != want {
				t.Fatalf("/%d, %d tries, at the beginning: %d, not %d", prefix, tries, n, want)
			}
			for had := range tries {
				for _, phase := range []int{api.PhFirst, api.PhAgain} {
					for at := range p.leaves {
						o := api.Op{Ask: api.Ask{Kind: api.Snapshot}, Phase: phase, At: at, Tries: had, Seen: seen}
						if n := Left(p.c, o); n != want {
							t.Fatalf("/%d, %d tries, %+v: %d, not %d", prefix, tries, o, n, want)
						}
						want--
					}
				}
			}
			for had := range tries + 1 {
				if n := Left(p.c, made(api.PhDone, 0, had)); n != 0 || want != 0 {
					t.Fatalf("/%d, %d tries, done behind %d: %d, %d", prefix, tries, had, n, want)
				}
			}
		}
	}
}

// course is how far a snapshot is: the cells, the operation, how many steps it did, at which of
// them, counted from 1, it took effect, which of its tries were hindered, the leaves as they were
// read first in this try, and all as they were when its first collect ended.
type course struct {
	l        []uint64
	o        api.Op
	steps    int
	effects  []int
	hindered int
	read     []uint64
	then     []uint64
}

// begin is a snapshot that begins, in these cells.
func begin(l []uint64) course { return course{l: slices.Clone(l), o: Begin()} }

// next does a step, and holds it against what is meant; fewer steps are left behind it. It keeps
// by itself which leaf is read, when, and what it was.
func (p pool) next(t *testing.T, a course) course {
	t.Helper()
	was, left := slices.Clone(a.l), Left(p.c, a.o)
	o, effect := p.check(t, a.l, a.o)
	if n := Left(p.c, o); n >= left || n < 0 || n == 0 && o.Phase != api.PhDone || effect != (o.Phase == api.PhDone) || !slices.Equal(a.l, was) {
		t.Fatalf("/%d, %+v: %d left, not below %d, %v, or other cells", p.c.Block.Prefix, o, n, left, effect)
	}
	a.o, a.steps = o, a.steps+1
	if effect {
		a.effects = append(slices.Clip(a.effects), a.steps)
	}
	if n := len(a.read); n < p.leaves {
		if a.read = append(slices.Clip(a.read), a.l[n]); n+1 == p.leaves {
			a.then = slices.Clone(a.l[:p.leaves])
		}
		return a
	}
	at := len(a.then) - p.leaves // then grows by a word for each leaf that was read again
	if a.l[at] != a.read[at] {
		a.hindered, a.read, a.then = a.hindered+1, nil, nil
		return a
	}
	a.then = append(slices.Clip(a.then), a.l[at])
	return a
}

// run does a snapshot's steps until it is done; ahead of each one others do theirs, in the
// cells. It holds it against how many are left at its beginning, and against what it ends with.
func (p pool) run(t *testing.T, a course, others func(a course)) course {
	t.Helper()
	for most := Left(p.c, a.o); a.o.Phase != api.PhDone; a = p.next(t, a) {
		if a.steps == most {
			t.Fatalf("/%d, %d tries: %d steps, and it isn't done: %+v", p.c.Block.Prefix, p.c.Tries, most, a.o)
		}
		others(a)
	}
	p.checkEnd(t, a)
	return a
}

// checkEnd holds a snapshot that is done against what it must come to: it took effect once, with
// its last step; with ErrRetry, if each of its tries was hindered, else with what was used when
// the first collect of the last one ended.
func (p pool) checkEnd(t *testing.T, a course) {
	t.Helper()
	want := api.Op{Ask: api.Ask{Kind: api.Snapshot}, Tries: a.hindered, Answer: api.Answer{Err: api.ErrRetry}}
	if a.hindered < p.c.Tries {
		want.Answer = api.Answer{Addrs: p.used(a.then)}
	}
	if !same(a.o, want) || !slices.Equal(a.effects, []int{a.steps}) {
		t.Fatalf("/%d, %d tries, %d hindered, %d steps, effects at %v: %+v, not %+v", p.c.Block.Prefix, p.c.Tries, a.hindered, a.steps, a.effects, a.o, want)
	}
	if a.hindered < p.c.Tries && !slices.Equal(a.then[:p.leaves], a.then[p.leaves:]) {
		t.Fatalf("/%d: other leaves when the collects ended: %#x", p.c.Block.Prefix, a.then)
	}
	l := a.o.Answer.Addrs
	for i := range l[:max(0, len(l)-1)] {
		if l[i] >= l[i+1] {
			t.Fatalf("/%d: the addresses don't rise: %v", p.c.Block.Prefix, l)
		}
	}
}

// nobody does nothing.
func nobody(course) {}

// With nobody else, each leaf is read twice, whatever is used and reserved, and however many
// tries there are; what is told are the addresses of the set that the cells tell.
func TestAlone(t *testing.T) { // P20.3
	for _, prefix := range []int{32, 31, 30, 27, 26, 24, 21, 20, 16} {
		for i, held := range of(prefix, 1).helds() {
			if prefix == 16 && i != 0 && i != 3 {
				continue
			}
			p := of(prefix, 1+(prefix+i)%api.MaxTries, held...)
			for j, l := range p.fills() {
				if prefix == 16 && j%2 == 0 {
					continue
				}
				a := p.run(t, begin(l), nobody)
				if a.steps != 2*p.leaves || a.hindered != 0 || !slices.Equal(a.o.Answer.Addrs, model.Addrs(p.c, model.Of(p.c, l))) {
					t.Fatalf("/%d, %v reserved: %d steps, %+v", prefix, held, a.steps, a.o)
				}
				if n := len(a.o.Answer.Addrs); j == 0 && n != 0 || j == 5 && n != p.many-len(held) {
					t.Fatalf("/%d, %v reserved: %d addresses", prefix, held, n)
				}
			}
		}
	}
}

// The greatest block, of one try: none used, and all.
func TestTheGreatestBlockAlone(t *testing.T) { // P20.3
	p := of(16, 1)
	for used, l := range map[int][]uint64{0: p.fills()[0], 65536: p.fills()[5]} {
		a := p.run(t, begin(l), nobody)
		if a.steps != 4096 || len(a.o.Answer.Addrs) != used {
			t.Errorf("%d steps, %d addresses", a.steps, len(a.o.Answer.Addrs))
		}
		for off, addr := range a.o.Answer.Addrs {
			if addr != base+uint32(off) {
				t.Fatalf("the address %d: %#x", off, addr)
			}
		}
	}
}

// The addresses hang on where the block begins.
func TestBlocksWhereverTheyBegin(t *testing.T) { // P20.3
	for _, prefix := range []int{32, 30, 26, 24} {
		p := of(prefix, 2, 0)
		for _, base := range []uint32{0, 0x7fffff00, 0x80000000, uint32(math.MaxUint32) - uint32(p.many) + 1} {
			if p.c.Block.Base = base; !block.May(p.c) {
				t.Fatalf("it may not be: %v", p.c)
			}
			for _, l := range p.fills() {
				p.run(t, begin(l), nobody)
			}
		}
	}
}

// change claims the leaf's first bit of an offset that isn't reserved, or drops it; with twice it
// is as it was but for its changes.
func (p pool) change(l []uint64, leaf int, twice bool) {
	held, bit := p.reserved(), 0
	for held[32*leaf+bit] {
		bit++
	}
	flip(l, leaf, bit)
	if twice {
		flip(l, leaf, bit)
	}
}

// flip claims the leaf's bit, or drops it if it is set.
func flip(l []uint64, leaf, bit int) {
	if set(l[leaf], bit) {
		l[leaf] = word.Drop(l[leaf], bit)
	} else {
		l[leaf] = word.Claim(l[leaf], bit)
	}
}

// points are the steps ahead of which a leaf may be changed: all of them or, of many leaves,
// those about its readings and the collects' ends.
func (p pool) points(leaf int) []int {
	if p.leaves <= 8 {
		return row(0, 2*p.leaves)
	}
	return []int{0, leaf, leaf + 1, p.leaves - 1, p.leaves, p.leaves + leaf, min(p.leaves+leaf+1, 2*p.leaves-1), 2*p.leaves - 1}
}

// A leaf is changed once, ahead of each step of the first try: just if that is between its two
// readings, the try is hindered.
func TestALeafChangedOnce(t *testing.T) { // P20.3
	for _, prefix := range []int{32, 30, 27, 26, 24, 21} {
		for _, tries := range []int{1, 2, api.MaxTries} {
			p := of(prefix, tries)
			for i, l := range p.fills()[1:3] {
				for _, leaf := range p.some() {
					for _, point := range p.points(leaf) {
						a := p.run(t, begin(l), func(a course) {
							if a.steps == point {
								p.change(a.l, leaf, i == 0)
							}
						})
						hindered, steps, err := 0, 2*p.leaves, api.OK
						if leaf < point && point <= p.leaves+leaf {
							hindered, steps = 1, p.leaves+leaf+1+2*p.leaves
						}
						if hindered == tries {
							steps, err = p.leaves+leaf+1, api.ErrRetry
						}
						if a.hindered != hindered || a.steps != steps || a.o.Answer.Err != err {
							t.Fatalf("/%d, %d tries, the leaf %d ahead of the step %d: %d steps, not %d, %+v", prefix, tries, leaf, point, a.steps, steps, a.o)
						}
					}
				}
			}
		}
	}
}

// A leaf is changed ahead of each step: each try ends at its second reading, with ErrRetry behind
// the last one. Of the last leaf that takes as many steps as were left at the beginning.
func TestALeafChangedAtEachStep(t *testing.T) { // P20.3
	for _, prefix := range []int{32, 30, 27, 26, 24, 21} {
		for tries := 1; tries <= api.MaxTries; tries++ {
			p := of(prefix, tries)
			for i, l := range p.fills()[:2] {
				for _, leaf := range p.some() {
					a := p.run(t, begin(l), func(a course) { p.change(a.l, leaf, i == 0) })
					if a.o.Answer.Err != api.ErrRetry || a.hindered != tries || a.steps != tries*(p.leaves+leaf+1) {
						t.Fatalf("/%d, %d tries, the leaf %d: %d steps, %+v", prefix, tries, leaf, a.steps, a.o)
					}
					if most := Left(p.c, Begin()); (a.steps == most) != (leaf == p.leaves-1) {
						t.Fatalf("/%d, %d tries, the leaf %d: %d steps of %d", prefix, tries, leaf, a.steps, most)
					}
				}
			}
		}
	}
}

// A leaf is changed ahead of its second reading in so many tries, and in no further one: it is
// ErrRetry just where that are all.
func TestALeafChangedInSomeTries(t *testing.T) { // P20.3
	for _, prefix := range []int{32, 27, 26, 24} {
		for tries := 1; tries <= api.MaxTries; tries++ {
			p := of(prefix, tries)
			for _, leaf := range p.some() {
				for hinders := range tries + 1 {
					for i, l := range p.fills()[1:3] {
						a := p.run(t, begin(l), func(a course) {
							if a.o.Phase == api.PhAgain && a.o.At == leaf && a.hindered < hinders {
								p.change(a.l, leaf, i == 0)
							}
						})
						steps := hinders * (p.leaves + leaf + 1)
						if hinders < tries {
							steps += 2 * p.leaves
						}
						if a.hindered != hinders || (a.o.Answer.Err == api.ErrRetry) != (hinders == tries) || a.steps != steps {
							t.Fatalf("/%d, %d tries, the leaf %d, %d times: %d steps, not %d, %+v", prefix, tries, leaf, hinders, a.steps, steps, a.o)
						}
					}
				}
			}
		}
	}
}

// whatever does all that may be: ahead of each step each of the leaves, or none, is changed. It
// counts the ends.
func (p pool) whatever(t *testing.T, a course, ends map[api.Errno]int) {
	if a.o.Phase == api.PhDone {
		p.checkEnd(t, a)
		ends[a.o.Answer.Err]++
		return
	}
	p.whatever(t, p.next(t, a), ends)
	for leaf := range p.leaves {
		for twice := range 2 {
			b := a
			b.l = slices.Clone(a.l)
			p.change(b.l, leaf, twice == 1)
			p.whatever(t, p.next(t, b), ends)
		}
	}
}

// Of a leaf and of two, all that others may do: it ends within as many steps as are left.
func TestWhateverOthersDo(t *testing.T) { // P20.3
	for _, x := range [][2]int{{32, 1}, {30, 2}, {27, 3}, {31, 4}, {26, 1}, {26, 2}} {
		p, ends := of(x[0], x[1]), map[api.Errno]int{}
		if p.many > 2 {
			p.c.Held = []int{0}
		}
		p.whatever(t, begin(p.fills()[1]), ends)
		if ends[api.OK] < 2 || ends[api.ErrRetry] < 1 || ends[api.OK]+ends[api.ErrRetry] < 9 {
			t.Errorf("/%d, %d tries: %v", x[0], x[1], ends)
		}
	}
}

// Others claim and drop at any time, and write any words into tops and the root, by a fixed rule.
func TestOthersAtAnyTime(t *testing.T) { // P20.3
	ends := map[api.Errno]int{}
	for _, prefix := range []int{30, 27, 26, 24, 22} {
		for i := range 400 {
			r := random(1000*prefix + i)
			p := of(prefix, 1+i%api.MaxTries, 1)
			a := p.run(t, begin(p.fills()[i%6]), func(a course) {
				a.l[p.leaves+r.below(p.tops+1)] = r.word()
				if r.below(3*p.leaves) > 1+i%3 {
					return
				}
				if off := r.below(p.many); off != 1 { // which is reserved
					flip(a.l, off/32, off%32)
				}
			})
			ends[a.o.Answer.Err]++
		}
	}
	if ends[api.OK] < 300 || ends[api.ErrRetry] < 100 {
		t.Errorf("the ends: %v", ends)
	}
}

// Of one leaf, three tries: six steps are left when it begins.
func TestOneLeafThreeTries(t *testing.T) { // P20.2, the chapter's example
	for _, prefix := range []int{27, 28, 29, 30, 31, 32} {
		if n := Left(of(prefix, 3).c, Begin()); n != 6 {
			t.Errorf("/%d: %d", prefix, n)
		}
	}
}

// each calls f with cells, of a block of two leaves, with room behind them, and with operations
// made by make, so that each end of a step is come to.
func each(f func(l []uint64, make func() api.Op)) {
	for _, w := range []uint64{low, 5, once + low} {
		l := roomy(77, w, w, 5, 6)
		f(l, func() api.Op { return made(api.PhFirst, 0, 1) })
		f(l, func() api.Op { return made(api.PhFirst, 1, 1, low) })
		for tries := range 3 {
			f(l, func() api.Op { return made(api.PhAgain, 0, tries, low, 5) })
			f(l, func() api.Op { return made(api.PhAgain, 1, tries, 5, low) })
		}
		f(l, func() api.Op { return made(api.PhDone, 1, 1, 5, low) })
		f(l, func() api.Op { return made(api.PhDone, 0, 3) })
	}
}

func TestWhatIsHandedInStays(t *testing.T) { // P20.4
	each(func(l []uint64, make func() api.Op) {
		c := of(26, 3, roomy(9, 1, 2)...).c
		cells, o, was := slices.Clone(l[:6]), make(), make()
		Step(c, l, o)
		Left(c, o)
		if !slices.Equal(l[:6], cells) || !slices.Equal(c.Held[:4], []int{1, 2, 9, 9}) {
			t.Fatalf("%+v: cells, or Held, changed: %#x, %v", was, l[:6], c.Held[:4])
		}
		if !reflect.DeepEqual(o, was) || !reflect.DeepEqual(rooms(o), rooms(was)) {
			t.Fatalf("%+v changed: %+v", was, o)
		}
	})
}

// fill writes x into a list, and into the room behind it.
func fill[T any](l []T, x T) {
	for i := range l[:cap(l)] {
		l[:cap(l)][i] = x
	}
}

// scrawl writes into all lists of an answer.
func scrawl(o api.Op) {
	fill(o.Ask.Addrs, 1234)
	fill(o.Answer.Addrs, 1234)
	fill(o.Answer.Errs, 1234)
	fill(o.Seen, 1234)
}

func TestWhatIsAnsweredIsNewMemory(t *testing.T) { // P20.4
	each(func(l []uint64, make func() api.Op) {
		c, cells := of(26, 3).c, slices.Clone(l[:6])
		o, was := make(), make()
		one, _ := Step(c, l, o)
		other, _ := Step(c, l, o)
		scrawl(one)
		again, _ := Step(c, l, o)
		if !slices.Equal(l[:6], cells) || !reflect.DeepEqual(o, was) || !reflect.DeepEqual(rooms(o), rooms(was)) {
			t.Fatalf("%+v: a write into the answer shows in what was handed in: %+v", was, o)
		}
		if !same(other, again) {
			t.Fatalf("%+v: a write into an answer shows in another one: %+v", was, other)
		}
	})
	one, other := Begin(), Begin()
	scrawl(one)
	if !same(other, Begin()) {
		t.Errorf("%+v", other)
	}
}

// Two lists of one answer share nothing, though those that were handed in did, and Seen was the
// cells.
func TestNoTwoListsOfAnAnswerShareMemory(t *testing.T) { // P20.4
	each(func(l []uint64, make func() api.Op) {
		o := make()
		one, cells := []uint32{5, 6}, slices.Clone(l)
		o.Ask.Addrs, o.Answer.Addrs, o.Seen = one, one, l[:len(o.Seen)]
		got, _ := Step(of(26, 3).c, l, o)
		fill(got.Answer.Addrs, 1234)
		if !slices.Equal(got.Ask.Addrs, []uint32{5, 6}) {
			t.Fatalf("%+v: %+v", o, got)
		}
		scrawl(got)
		if !slices.Equal(one, []uint32{5, 6}) || !slices.Equal(l, cells) {
			t.Fatalf("%+v: %v, %#x", o, one, l)
		}
	})
}

// Two first collects that went on from one don't share the room of its Seen.
func TestSnapshotsThatPartDontShareSeen(t *testing.T) { // P20.4
	o := made(api.PhFirst, 1, 0, 7)
	one, _ := Step(of(24, 3).c, slices.Repeat([]uint64{8}, 10), o)
	two, _ := Step(of(24, 3).c, slices.Repeat([]uint64{9}, 10), o)
	if !slices.Equal(one.Seen, []uint64{7, 8}) || !slices.Equal(two.Seen, []uint64{7, 9}) {
		t.Errorf("%v, %v", one.Seen, two.Seen)
	}
}

// Nil and empty lists are one, handed in and answered.
func TestNilAndEmptyLists(t *testing.T) { // P20.1
	each(func(l []uint64, make func() api.Op) {
		o := make()
		o.Ask.Addrs, o.Answer.Addrs, o.Answer.Errs = nil, nil, nil
		e := o
		e.Ask.Addrs, e.Answer.Addrs, e.Answer.Errs = []uint32{}, []uint32{}, []api.Errno{}
		if len(o.Seen) == 0 {
			o.Seen, e.Seen = nil, []uint64{}
		}
		a, x := Step(of(26, 3).c, l, o)
		b, y := Step(of(26, 3, []int{}...).c, l, e)
		if !same(a, b) || x != y || Left(of(26, 3).c, o) != Left(of(26, 3).c, e) {
			t.Errorf("%+v, %+v", a, b)
		}
	})
}

// The same is answered each time, and shards, workers and queues are nothing to it; tops and the
// root aren't either.
func TestAnswersHangOnArgumentsAlone(t *testing.T) { // P20.1, P20.2
	each(func(l []uint64, make func() api.Op) {
		c, m := of(26, 3).c, slices.Clone(l)
		a, x := Step(c, l, make())
		n := Left(c, make())
		for i := range 3 {
			c.Shards, c.Workers, c.Queue = c.Shards+1, c.Workers+1, c.Queue+1
			m[2], m[3] = all>>i, uint64(i)
			if b, y := Step(c, m, make()); !same(a, b) || x != y || n != Left(c, make()) || !same(Begin(), Begin()) {
				t.Errorf("%+v, %+v", a, b)
			}
		}
	})
}

// An operation that is done, and one in a Phase that no snapshot comes to, stay.
func TestPhasesWithoutAStep(t *testing.T) { // P20.1
	each(func(l []uint64, make func() api.Op) {
		for _, phase := range []int{api.PhDone, api.PhSeek, api.PhLook, api.PhClaim, api.PhMark, api.PhSet, api.PhRead, api.PhDrop, 10, -1, math.MinInt, math.MaxInt} {
			o := make()
			o.Phase = phase
			if p, effect := Step(of(26, 3).c, l, o); !same(p, o) || effect {
				t.Errorf("the phase %d: %+v, %v", phase, p, effect)
			}
		}
	})
}

// The chapter promises nothing of these but that the calls end and don't panic; what is done is
// done, whatever it is.
func TestNothingPanics(t *testing.T) { // P1
	odd := []int{math.MinInt, -65536, -1, 0, 1, 2, 33, 2048, math.MaxInt - 1, math.MaxInt}
	few := [][]uint64{nil, {low}, {5, low, 5}, slices.Repeat([]uint64{low}, 40)}
	confs := []api.Conf{{}}
	for _, prefix := range []int{math.MinInt, -1, 0, 15, 16, 26, 27, 32, 33, math.MaxInt} {
		for _, tries := range []int{math.MinInt, 0, 1, 9, math.MaxInt} {
			confs = append(confs, of(27, tries, -1, math.MinInt, 7, 7, math.MaxInt).c)
			confs[len(confs)-1].Block.Prefix = prefix
		}
	}
	for i, c := range confs {
		Step(c, few[i%4], Begin())
		Left(c, Begin())
		for j, at := range odd {
			for k, tries := range odd {
				for phase := -1; phase <= 10; phase++ {
					for kind := -1; kind <= 8; kind++ {
						o := made(phase, at, tries, few[(i+2*j+3*k)%4]...)
						o.Ask.Kind = kind
						got, effect := Step(c, few[(i+j+k)%4], o)
						if n := Left(c, o); phase == api.PhDone && (!same(got, o) || effect || n != 0) {
							t.Fatalf("the kind %d: %+v, %v, %d", kind, got, effect, n)
						}
					}
				}
			}
		}
	}
}

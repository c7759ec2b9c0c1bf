package pool

import (
	"math"
	"reflect"
	"slices"
	"testing"

	"lodger/api"
	"lodger/ask"
	"lodger/batch"
	"lodger/block"
	"lodger/exact"
	"lodger/grant"
	"lodger/snap"
	"lodger/spec"
	"lodger/word"
)

// low are a leaf's bits, all set; once is one change of it; all is a word all of whose bits are
// set; base is where the tests' blocks begin, if nothing else is said.
const (
	low  = uint64(1)<<32 - 1
	once = uint64(1) << 32
	all  = uint64(math.MaxUint64)
	base = uint32(0x0a010000)
)

// pool is a configuration, how much its block has, and which offsets are reserved.
type pool struct {
	c                  api.Conf
	many, leaves, tops int
	held               map[int]bool
}

// lay answers the pool of that prefix, of so many shards and tries, and those reserved offsets.
func lay(prefix, shards, tries int, held ...int) pool {
	many := 1 << (32 - prefix)
	leaves := (many + 31) / 32
	c := api.Conf{Block: api.Block{Base: base, Prefix: prefix}, Held: held, Shards: shards, Workers: 3, Queue: 4, Tries: tries}
	p := pool{c: c, many: many, leaves: leaves, tops: (leaves + 63) / 64, held: map[int]bool{}}
	for _, off := range held {
		p.held[off] = true
	}
	return p
}

// top and root are the places of the cells in which a leaf is summed, and the tops are.
func (p pool) top(leaf int) int { return p.leaves + leaf/64 }
func (p pool) root() int        { return p.leaves + p.tops }

// addr is the address of that offset.
func (p pool) addr(off int) uint32 { return p.c.Block.Base + uint32(off) }

// stepping are the Kinds whose right requests need steps.
func stepping() []int {
	return []int{api.Grant, api.Exact, api.Release, api.Batch, api.Query, api.Snapshot}
}

// ask is the request of that Kind, of those offsets, or the first one. What says nothing of its
// Kind isn't empty.
func (p pool) ask(kind int, offs ...int) api.Ask {
	a := api.Ask{Kind: kind, Addr: p.addr(offs[0] ^ 1)}
	switch kind {
	case api.Exact, api.Release, api.Query:
		a.Addr, offs = p.addr(offs[0]), offs[1:]
	}
	for _, off := range offs {
		a.Addrs = append(a.Addrs, p.addr(off))
	}
	return a
}

// set tells whether the bit is; with is w whose bit is so.
func set(w uint64, bit int) bool { return w>>bit%2 == 1 }
func with(w uint64, bit int, is bool) uint64 {
	if set(w, bit) != is {
		w ^= 1 << bit
	}
	return w
}

// random is a source of numbers by a fixed rule.
type random uint64

func (r *random) below(n int) int {
	*r = *r*6364136223846793005 + 1442695040888963407
	return int(uint64(*r) >> 32 % uint64(n))
}
func (r *random) word() uint64 { return uint64(r.below(1<<32))<<32 + uint64(r.below(1<<32)) }

// row are the n numbers from first on; falling are numbers from the last one on.
func row(first, n int) []int {
	var l []int
	for i := range n {
		l = append(l, first+i)
	}
	return l
}
func falling(l []int) []int {
	l = slices.Clone(l)
	slices.Reverse(l)
	return l
}

// usable are the offsets that aren't reserved.
func (p pool) usable() []int {
	return slices.DeleteFunc(row(0, p.many), func(off int) bool { return p.held[off] })
}

// used are the offsets that aren't reserved whose bits are set.
func (p pool) used(l []uint64) []int {
	var offs []int
	for off := range p.many {
		if set(l[off/32], off%32) && !p.held[off] {
			offs = append(offs, off)
		}
	}
	return offs
}

// some are offsets of interest that aren't reserved: the first and the last one that aren't, one
// in the middle, and those at leaves' edges, and tops'.
func (p pool) some() []int {
	u := p.usable()
	if len(u) == 0 {
		return nil
	}
	l := []int{u[0], u[len(u)-1], u[len(u)/2]}
	for _, off := range []int{31, 32, 2047, 2048, p.many - 32} {
		if slices.Contains(u, off) {
			l = append(l, off)
		}
	}
	slices.Sort(l)
	return slices.Compact(l)
}

// lists are offsets that a batch may be of: of one, of some, and as many as may be, at the
// beginning, at the end, and all over; rising and falling.
func (p pool) lists() [][]int {
	u := p.usable()
	if len(u) == 0 {
		return nil
	}
	most := min(len(u), api.MaxBatch)
	var apart []int
	for i := range most {
		apart = append(apart, u[i*len(u)/most])
	}
	return [][]int{u[:1], u[len(u)-1:], p.some(), falling(p.some()), u[:most], falling(u[len(u)-most:]), apart}
}

// asks are right requests of all Kinds that need steps, of offsets of interest.
func (p pool) asks() []api.Ask {
	l := []api.Ask{
		{Kind: api.Grant}, {Kind: api.Snapshot},
		{Kind: api.Grant, Addr: 9, Addrs: []uint32{7, 7}}, {Kind: api.Snapshot, Addr: base, Addrs: []uint32{0}},
	}
	for _, off := range p.some() {
		for _, kind := range []int{api.Exact, api.Release, api.Query} {
			l = append(l, p.ask(kind, off))
		}
	}
	for _, offs := range p.lists() {
		l = append(l, p.ask(api.Batch, offs...))
	}
	return l
}

// claimed are the first cells, but all used that free doesn't tell of: of the i-th of n offsets
// that aren't reserved.
func (p pool) claimed(free func(i, n int) bool) []uint64 {
	l, offs := word.Cells(p.c), p.usable()
	for i, off := range offs {
		if !free(i, len(offs)) {
			l[off/32] = word.Claim(l[off/32], off%32)
		}
	}
	return p.summed(l, func(leaf int) bool { return l[leaf]%once != low })
}

// fills are cells with nothing used, every other address, its opposite, all but the first, the
// middle, or the last one, and all.
func (p pool) fills() [][]uint64 {
	return [][]uint64{
		p.claimed(func(int, int) bool { return true }),
		p.claimed(func(i, _ int) bool { return i%2 == 0 }),
		p.claimed(func(i, _ int) bool { return i%2 == 1 }),
		p.claimed(func(i, _ int) bool { return i == 0 }),
		p.claimed(func(i, n int) bool { return i == n/2 }),
		p.claimed(func(i, n int) bool { return i == n-1 }),
		p.claimed(func(int, int) bool { return false }),
	}
}

// summed are those cells with summaries that tell room where it is told.
func (p pool) summed(l []uint64, room func(leaf int) bool) []uint64 {
	l = slices.Clone(l)
	for cell := p.leaves; cell < len(l); cell++ {
		l[cell] = all
	}
	for leaf := range p.leaves {
		if room(leaf) {
			l[p.top(leaf)] = with(l[p.top(leaf)], leaf%64, false)
			l[p.root()] = with(l[p.root()], leaf/64, false)
		}
	}
	return l
}

// hints are those cells with summaries that are right, that are wrong, that tell room all over
// and nowhere, in the tops and in the root alone, and with any words there.
func (p pool) hints(l []uint64) [][]uint64 {
	right, some := func(leaf int) bool { return l[leaf]%once != low }, slices.Clone(l)
	for cell, r := p.leaves, random(len(l)); cell < len(l); cell++ {
		some[cell] = r.word()
	}
	over := p.summed(l, func(int) bool { return true })
	nowhere := p.summed(l, func(int) bool { return false })
	tops, root := slices.Clone(over), slices.Clone(nowhere)
	tops[p.root()], root[p.root()] = all, 0
	return [][]uint64{
		p.summed(l, right),
		p.summed(l, func(leaf int) bool { return !right(leaf) }),
		over, nowhere, tops, root, some,
	}
}

// helds are reserved offsets of a block of so many addresses: none, at the beginning, at the end,
// both and one between, and as many as can be at the beginning and at the end, which is all of a
// small block.
func helds(many int) [][]int {
	n := min(many, api.MaxHeld)
	return [][]int{
		nil, {0}, {many - 1}, slices.Compact([]int{0, many / 2, many - 1}),
		row(0, n), row(many-n, n),
	}
}

// pools are those of that prefix, with each of helds, of one shard, some, and the most, and of one
// try, some, and the most.
func pools(prefix int) []pool {
	var l []pool
	for i, held := range helds(1 << (32 - prefix)) {
		l = append(l, lay(prefix, []int{1, 2, 3, api.MaxShards}[i%4], []int{2, 1, api.MaxTries}[i%3], held...))
	}
	return l
}

// same tells whether the operations are, nil and empty lists being one; alike whether answers are.
func same(a, b api.Op) bool {
	lists := slices.Equal(a.Ask.Addrs, b.Ask.Addrs) && slices.Equal(a.Seen, b.Seen) && alike(a.Answer, b.Answer)
	for _, o := range []*api.Op{&a, &b} {
		o.Ask.Addrs, o.Answer, o.Seen = nil, api.Answer{}, nil
	}
	return lists && reflect.DeepEqual(a, b)
}
func alike(a, b api.Answer) bool {
	lists := slices.Equal(a.Addrs, b.Addrs) && slices.Equal(a.Errs, b.Errs)
	a.Addrs, b.Addrs, a.Errs, b.Errs = nil, nil, nil, nil
	return lists && reflect.DeepEqual(a, b)
}

// wrong is a request that isn't right, and the error that it has.
type wrong struct {
	a   api.Ask
	err api.Errno
}

// addrs are the addresses of those offsets, of no block in particular.
func addrs(offs ...int) []uint32 {
	var l []uint32
	for _, off := range offs {
		l = append(l, base+uint32(off))
	}
	return l
}

// wrongs are requests that aren't right of a block of 64 addresses, of which the first one and 33
// are reserved: each of the errors, of each Kind that may have it, and of such as apply at once
// the first one.
func wrongs() []wrong {
	var l []wrong
	for _, kind := range []int{0, 8, -1, 9, 64, math.MinInt, math.MaxInt} {
		l = append(l,
			wrong{api.Ask{Kind: kind}, api.ErrArg},
			wrong{api.Ask{Kind: kind, Addr: base + 5, Addrs: addrs(5, 6)}, api.ErrArg},
			wrong{api.Ask{Kind: kind, Addr: base, Addrs: addrs(0, 64)}, api.ErrArg})
	}
	for _, kind := range []int{api.Exact, api.Release, api.Query} {
		for _, x := range []wrong{
			{api.Ask{Addr: base - 1}, api.ErrOutside}, {api.Ask{Addr: base + 64}, api.ErrOutside},
			{api.Ask{}, api.ErrOutside}, {api.Ask{Addr: math.MaxUint32, Addrs: addrs(5)}, api.ErrOutside},
			{api.Ask{Addr: base}, api.ErrReserved}, {api.Ask{Addr: base + 33, Addrs: addrs(5, 6)}, api.ErrReserved},
		} {
			x.a.Kind = kind
			l = append(l, x)
		}
	}
	for _, x := range []struct {
		addrs []uint32
		err   api.Errno
	}{
		{nil, api.ErrEmpty}, {[]uint32{}, api.ErrEmpty},
		{addrs(row(100, 65)...), api.ErrArg}, {slices.Repeat(addrs(5), 65), api.ErrArg}, {slices.Repeat(addrs(0), 128), api.ErrArg},
		{addrs(64), api.ErrOutside}, {addrs(5, -1), api.ErrOutside}, {addrs(5, 6, 1000, 0, 5), api.ErrOutside},
		{addrs(0), api.ErrReserved}, {addrs(5, 33), api.ErrReserved}, {addrs(5, 6, 0, 64, 5), api.ErrReserved},
		{addrs(5, 5), api.ErrTwice}, {addrs(5, 6, 7, 6, 0), api.ErrTwice}, {slices.Repeat(addrs(5), 64), api.ErrTwice},
		{append(addrs(row(34, 30)...), addrs(append(row(1, 32), 1, 2)...)...), api.ErrTwice},
	} {
		l = append(l, wrong{api.Ask{Kind: api.Batch, Addrs: x.addrs}, x.err}, wrong{api.Ask{Kind: api.Batch, Addr: base + 5, Addrs: x.addrs}, x.err})
	}
	return l
}

// closes are requests to close, which are right whatever else they say.
func closes() []api.Ask {
	return []api.Ask{{Kind: api.Close}, {Kind: api.Close, Addr: base + 5}, {Kind: api.Close, Addr: base, Addrs: addrs(0, 0, 64)}}
}

func TestTheConfigurationsMayBe(t *testing.T) {
	for _, x := range [][4]int{{32, 1, 1, 1}, {31, 2, 1, 1}, {30, 4, 1, 1}, {27, 32, 1, 1}, {26, 64, 2, 1}, {24, 256, 8, 1}, {21, 2048, 64, 1}, {20, 4096, 128, 2}, {16, 65536, 2048, 32}} {
		for _, p := range pools(x[0]) {
			if !block.May(p.c) || p.many != x[1] || p.leaves != x[2] || p.tops != x[3] || len(word.Cells(p.c)) != p.root()+1 {
				t.Fatalf("%+v", p)
			}
			for _, a := range append(p.asks(), closes()...) {
				if ask.Check(p.c, a) != api.OK {
					t.Fatalf("%+v: %+v", p, a)
				}
			}
			if n := len(p.asks()); (n == 4) != (len(p.c.Held) == p.many) || n > 4 && n < 14 {
				t.Fatalf("%+v: %d requests", p, n)
			}
		}
	}
	met := map[api.Errno]bool{}
	for _, x := range wrongs() {
		met[x.err] = true
	}
	if len(met) != 5 {
		t.Errorf("the errors: %v", met)
	}
}

// Of a block of 64 addresses, of three shards: each field, of each Kind. The home is a Grant's
// alone.
func TestBeginByHand(t *testing.T) { // P21.1
	p := lay(26, 3, 2, 0, 33)
	for home := range 3 {
		for i, x := range []struct {
			a api.Ask
			o api.Op
		}{
			{api.Ask{Kind: api.Grant}, api.Op{Phase: api.PhSeek, Shard: home}},
			{api.Ask{Kind: api.Exact, Addr: base + 35}, api.Op{Phase: api.PhRead, Leaf: 1, Bit: 3}},
			{api.Ask{Kind: api.Exact, Addr: base + 31}, api.Op{Phase: api.PhRead, Bit: 31}},
			{api.Ask{Kind: api.Release, Addr: base + 32}, api.Op{Phase: api.PhRead, Leaf: 1}},
			{api.Ask{Kind: api.Release, Addr: base + 1}, api.Op{Phase: api.PhRead, Bit: 1}},
			{api.Ask{Kind: api.Batch, Addrs: addrs(35)}, api.Op{Phase: api.PhRead, Leaf: 1, Bit: 3}},
			{api.Ask{Kind: api.Batch, Addrs: addrs(6, 35, 5)}, api.Op{Phase: api.PhRead, Bit: 6}},
			{api.Ask{Kind: api.Query, Addr: base + 63}, api.Op{Phase: api.PhRead, Leaf: 1, Bit: 31}},
			{api.Ask{Kind: api.Snapshot}, api.Op{Phase: api.PhFirst}},
			{api.Ask{Kind: api.Close}, api.Op{}},
			// what says nothing of its Kind is kept too
			{api.Ask{Kind: api.Grant, Addr: 9, Addrs: addrs(0, 0)}, api.Op{Phase: api.PhSeek, Shard: home}},
			{api.Ask{Kind: api.Exact, Addr: base + 35, Addrs: addrs(5, 64)}, api.Op{Phase: api.PhRead, Leaf: 1, Bit: 3}},
			{api.Ask{Kind: api.Release, Addr: base + 35, Addrs: slices.Repeat(addrs(0), 128)}, api.Op{Phase: api.PhRead, Leaf: 1, Bit: 3}},
			{api.Ask{Kind: api.Batch, Addr: base + 35, Addrs: addrs(6)}, api.Op{Phase: api.PhRead, Bit: 6}},
			{api.Ask{Kind: api.Batch, Addr: base, Addrs: addrs(6, 7)}, api.Op{Phase: api.PhRead, Bit: 6}},
			{api.Ask{Kind: api.Query, Addr: base + 35, Addrs: addrs(1, 2, 3)}, api.Op{Phase: api.PhRead, Leaf: 1, Bit: 3}},
			{api.Ask{Kind: api.Snapshot, Addr: base + 5, Addrs: addrs(35)}, api.Op{Phase: api.PhFirst}},
			{api.Ask{Kind: api.Close, Addr: base + 5, Addrs: addrs(35)}, api.Op{}},
		} {
			x.o.Ask = x.a
			if o, done := Begin(p.c, home, x.a); !same(o, x.o) || done != (x.a.Kind == api.Close) {
				t.Errorf("%d: %+v, %v, not %+v", i, o, done, x.o)
			}
		}
	}
}

// Its error, that it is done, the request as it was handed in, and all else zero, the home too;
// that is what it tells, and no step of it does anything.
func TestBeginOfWrongRequests(t *testing.T) { // P21.1, P21.2
	p := lay(26, 3, 2, 0, 33)
	l := p.fills()[1]
	for _, x := range wrongs() {
		for home := range 3 {
			p.ended(t, l, home, x.a, x.err)
		}
	}
}

// ended holds a request that needs no step against what is told of it.
func (p pool) ended(t *testing.T, l []uint64, home int, a api.Ask, err api.Errno) {
	t.Helper()
	want := api.Op{Ask: a, Answer: api.Answer{Err: err}}
	o, done := Begin(p.c, home, a)
	if !same(o, want) || !done {
		t.Fatalf("%+v: %+v, %v, not %+v", a, o, done, want)
	}
	if x := Told(o); !alike(x, api.Answer{Err: err}) {
		t.Fatalf("%+v: it tells %+v", a, x)
	}
	if n := Most(p.c, a); n != 0 {
		t.Fatalf("%+v: %d steps at most", a, n)
	}
	if m, q, effect := Step(p.c, l, o); !slices.Equal(m, l) || !same(q, want) || effect {
		t.Fatalf("%+v: a step of it: %+v, %v", a, q, effect)
	}
	if s, right := spec.Legal(p.c, p.used(l), a, Told(o)); !right || !slices.Equal(s, p.used(l)) {
		t.Fatalf("%+v isn't answered rightly by %+v", a, o.Answer)
	}
}

// As of a request that isn't right, with OK.
func TestBeginOfClose(t *testing.T) { // P21.1, P21.2
	for _, prefix := range []int{32, 30, 26, 20} {
		for _, p := range pools(prefix) {
			for _, a := range closes() {
				p.ended(t, p.fills()[1], 0, a, api.OK)
				p.ended(t, p.fills()[6], p.c.Shards-1, a, api.OK)
			}
		}
	}
}

// begun is the operation that begins with a right request, from the chapters' words.
func (p pool) begun(home int, a api.Ask) api.Op {
	o, off := api.Op{Ask: a}, int(a.Addr-p.c.Block.Base)
	switch a.Kind {
	case api.Grant:
		o.Phase, o.Shard = api.PhSeek, home
		return o
	case api.Snapshot:
		o.Phase = api.PhFirst
		return o
	case api.Batch:
		off = int(a.Addrs[0] - p.c.Block.Base)
	}
	o.Phase, o.Leaf, o.Bit = api.PhRead, off/32, off%32
	return o
}

// Of each block, wherever it begins, of the first and the last home.
func TestBegin(t *testing.T) { // P21.1
	for _, prefix := range []int{32, 31, 30, 27, 26, 24, 21, 20, 16} {
		for i, p := range pools(prefix) {
			p.c.Block.Base = []uint32{0, base, math.MaxUint32 - uint32(p.many) + 1}[i%3]
			for _, home := range []int{0, p.c.Shards / 2, p.c.Shards - 1} {
				for _, a := range p.asks() {
					if o, done := Begin(p.c, home, a); !same(o, p.begun(home, a)) || done {
						t.Fatalf("/%d, the home %d, %+v: %+v, %v", prefix, home, a, o, done)
					}
				}
			}
		}
	}
}

// A release of a reserved address: ErrReserved, and it has taken effect at once.
func TestAReleaseOfAReservedAddress(t *testing.T) { // P21.1, the chapter's example
	for _, prefix := range []int{32, 30, 26, 24, 16} {
		for _, p := range pools(prefix)[1:] {
			for _, off := range p.c.Held {
				a := api.Ask{Kind: api.Release, Addr: p.addr(off)}
				o, done := Begin(p.c, p.c.Shards-1, a)
				if !same(o, api.Op{Ask: a, Answer: api.Answer{Err: api.ErrReserved}}) || !done {
					t.Fatalf("/%d, the offset %d: %+v, %v", prefix, off, o, done)
				}
			}
		}
	}
}

// step is a step of an operation in these cells, and what is behind it.
type step struct {
	l      [4]uint64
	o      api.Op
	then   [4]uint64
	want   api.Op
	effect bool
}

// holds holds the steps, of requests like a, against what is told.
func holds(t *testing.T, a api.Ask, steps []step) {
	t.Helper()
	p := lay(26, 2, 2)
	for i, x := range steps {
		x.o.Ask, x.want.Ask = a, a
		l, o, effect := Step(p.c, x.l[:], x.o)
		if !slices.Equal(l, x.then[:]) || !same(o, x.want) || effect != x.effect {
			t.Errorf("the Kind %d, %d: %#x, %+v, %v, not %#x, %+v", a.Kind, i, l, o, effect, x.then, x.want)
		}
	}
}

// Summaries: no room; room in the leaf, or the top, 0; in the leaf 1, too.
const none, zero, both = all, all - 1, all - 3

// Of a block of two leaves, of two shards and two tries: the cells are these, the top, the root;
// the first shard has the leaf 0, the second one the leaf 1.
func TestStepsOfAGrantByHand(t *testing.T) { // P21.1
	got := func(off int) api.Answer { return api.Answer{Addr: base + uint32(off)} }
	holds(t, api.Ask{Kind: api.Grant, Addr: 9, Addrs: addrs(5)}, []step{
		// seeking
		{[4]uint64{3, 3, both, zero}, api.Op{Phase: api.PhSeek}, [4]uint64{3, 3, both, zero}, api.Op{Phase: api.PhSeek, At: 1, Word: zero}, false},
		{[4]uint64{3, 3, both, none}, api.Op{Phase: api.PhSeek}, [4]uint64{3, 3, both, none}, api.Op{Phase: api.PhSeek, Sought: 1}, false},
		{[4]uint64{3, 3, both, none}, api.Op{Phase: api.PhSeek, Shard: 1, Sought: 1}, [4]uint64{3, 3, both, none}, api.Op{Phase: api.PhFirst, Shard: 1, Sought: 2}, false},
		{[4]uint64{3, 3, both, none}, api.Op{Phase: api.PhSeek, At: 1, Word: zero, Shard: 1}, [4]uint64{3, 3, both, none}, api.Op{Phase: api.PhLook, Shard: 1, Leaf: 1}, false},
		// claiming
		{[4]uint64{3, 3, both, zero}, api.Op{Phase: api.PhLook}, [4]uint64{3, 3, both, zero}, api.Op{Phase: api.PhClaim, Word: 3, Bit: 2}, false},
		{[4]uint64{low, 3, both, zero}, api.Op{Phase: api.PhLook}, [4]uint64{low, 3, both, zero}, api.Op{Phase: api.PhSeek, Sought: 1}, false},
		{[4]uint64{3, 3, both, zero}, api.Op{Phase: api.PhClaim, Leaf: 1, Bit: 2, Word: 3}, [4]uint64{3, once + 7, both, zero}, api.Op{Leaf: 1, Bit: 2, Answer: got(34)}, true},
		{[4]uint64{low >> 1, 3, both, zero}, api.Op{Phase: api.PhClaim, Bit: 31, Word: low >> 1}, [4]uint64{once + low, 3, both, zero}, api.Op{Phase: api.PhMark, Bit: 31, Full: true, Answer: got(31)}, true},
		{[4]uint64{once + 3, 3, both, zero}, api.Op{Phase: api.PhClaim, Bit: 2, Word: 3}, [4]uint64{once + 3, 3, both, zero}, api.Op{Phase: api.PhLook, Bit: 2}, false},
		// marking
		{[4]uint64{low, 3, both, zero}, api.Op{Phase: api.PhMark, Full: true, Answer: got(31)}, [4]uint64{low, 3, both, zero}, api.Op{Phase: api.PhSet, Full: true, Word: both, Answer: got(31)}, false},
		{[4]uint64{low, 3, both, zero}, api.Op{Phase: api.PhSet, Full: true, Word: both, Answer: got(31)}, [4]uint64{low, 3, both + 1, zero}, api.Op{Answer: got(31)}, false},
		{[4]uint64{low, low, zero, zero}, api.Op{Phase: api.PhSet, Full: true, Word: zero, Answer: got(31)}, [4]uint64{low, low, none, zero}, api.Op{Phase: api.PhMark, Full: true, At: 1, Word: none, Answer: got(31)}, false},
		{[4]uint64{low, low, none, zero}, api.Op{Phase: api.PhSet, Full: true, At: 1, Word: zero, Answer: got(31)}, [4]uint64{low, low, none, none}, api.Op{Answer: got(31)}, false},
		// sweeping
		{[4]uint64{low, 3, none, none}, api.Op{Phase: api.PhFirst, Sought: 2}, [4]uint64{low, 3, none, none}, api.Op{Phase: api.PhFirst, Sought: 2, At: 1, Seen: []uint64{low}}, false},
		{[4]uint64{low, low, none, none}, api.Op{Phase: api.PhFirst, Sought: 2, At: 1, Seen: []uint64{low}}, [4]uint64{low, low, none, none}, api.Op{Phase: api.PhAgain, Sought: 2, Seen: []uint64{low, low}}, false},
		{[4]uint64{low, 3, none, none}, api.Op{Phase: api.PhFirst, Sought: 2, At: 1, Seen: []uint64{low}}, [4]uint64{low, 3, none, none}, api.Op{Phase: api.PhClaim, Sought: 2, Leaf: 1, Bit: 2, Word: 3}, false},
		{[4]uint64{3, low, none, none}, api.Op{Phase: api.PhAgain, Sought: 2, Seen: []uint64{low, low}}, [4]uint64{3, low, none, none}, api.Op{Phase: api.PhFirst, Sought: 2}, false},
		{[4]uint64{low, low, 0, 0}, api.Op{Phase: api.PhAgain, Sought: 2, Seen: []uint64{low, low}}, [4]uint64{low, low, 0, 0}, api.Op{Phase: api.PhAgain, Sought: 2, At: 1, Seen: []uint64{low, low}}, false},
		{[4]uint64{low, low, 0, 0}, api.Op{Phase: api.PhAgain, Sought: 2, At: 1, Seen: []uint64{low, low}}, [4]uint64{low, low, 0, 0}, api.Op{Sought: 2, Answer: api.Answer{Err: api.ErrFull}}, true},
		// done
		{[4]uint64{3, 3, both, zero}, api.Op{Leaf: 1, Bit: 2, Answer: got(34)}, [4]uint64{3, 3, both, zero}, api.Op{Leaf: 1, Bit: 2, Answer: got(34)}, false},
	})
}

// Of the offset 35, which is the leaf 1's bit 3.
func TestStepsOfOneAddressByHand(t *testing.T) { // P21.1
	got, free := api.Answer{Addr: base + 35}, api.Answer{Err: api.ErrFree}
	holds(t, api.Ask{Kind: api.Exact, Addr: base + 35, Addrs: addrs(5)}, []step{
		{[4]uint64{8, 7, both, zero}, api.Op{Phase: api.PhRead, Leaf: 1, Bit: 3}, [4]uint64{8, 7, both, zero}, api.Op{Phase: api.PhClaim, Leaf: 1, Bit: 3, Word: 7}, false},
		{[4]uint64{7, 8, both, zero}, api.Op{Phase: api.PhRead, Leaf: 1, Bit: 3}, [4]uint64{7, 8, both, zero}, api.Op{Leaf: 1, Bit: 3, Answer: api.Answer{Err: api.ErrUsed}}, true},
		{[4]uint64{8, 7, both, zero}, api.Op{Phase: api.PhClaim, Leaf: 1, Bit: 3, Word: 7}, [4]uint64{8, once + 15, both, zero}, api.Op{Leaf: 1, Bit: 3, Answer: got}, true},
		{[4]uint64{8, low - 8, both, zero}, api.Op{Phase: api.PhClaim, Leaf: 1, Bit: 3, Word: low - 8}, [4]uint64{8, once + low, both, zero}, api.Op{Phase: api.PhMark, Leaf: 1, Bit: 3, Full: true, Answer: got}, true},
		{[4]uint64{8, once + 7, both, zero}, api.Op{Phase: api.PhClaim, Leaf: 1, Bit: 3, Word: 7}, [4]uint64{8, once + 7, both, zero}, api.Op{Phase: api.PhRead, Leaf: 1, Bit: 3}, false},
		{[4]uint64{8, low, both, zero}, api.Op{Phase: api.PhMark, Leaf: 1, Full: true, Answer: got}, [4]uint64{8, low, both, zero}, api.Op{Phase: api.PhSet, Leaf: 1, Full: true, Word: both, Answer: got}, false},
		{[4]uint64{8, low, both, zero}, api.Op{Phase: api.PhSet, Leaf: 1, Full: true, Word: both, Answer: got}, [4]uint64{8, low, both + 2, zero}, api.Op{Leaf: 1, Answer: got}, false},
		{[4]uint64{8, 7, both, zero}, api.Op{Leaf: 1, Bit: 3, Answer: got}, [4]uint64{8, 7, both, zero}, api.Op{Leaf: 1, Bit: 3, Answer: got}, false},
	})
	holds(t, api.Ask{Kind: api.Query, Addr: base + 35, Addrs: addrs(5)}, []step{
		{[4]uint64{8, 7, both, zero}, api.Op{Phase: api.PhRead, Leaf: 1, Bit: 3}, [4]uint64{8, 7, both, zero}, api.Op{Leaf: 1, Bit: 3}, true},
		{[4]uint64{7, 8, both, zero}, api.Op{Phase: api.PhRead, Leaf: 1, Bit: 3}, [4]uint64{7, 8, both, zero}, api.Op{Leaf: 1, Bit: 3, Answer: api.Answer{Used: true}}, true},
		{[4]uint64{8, 7, both, zero}, api.Op{Leaf: 1, Bit: 3, Answer: api.Answer{Used: true}}, [4]uint64{8, 7, both, zero}, api.Op{Leaf: 1, Bit: 3, Answer: api.Answer{Used: true}}, false},
	})
	holds(t, api.Ask{Kind: api.Release, Addr: base + 35, Addrs: addrs(5)}, []step{
		{[4]uint64{7, 8, both, zero}, api.Op{Phase: api.PhRead, Leaf: 1, Bit: 3}, [4]uint64{7, 8, both, zero}, api.Op{Phase: api.PhDrop, Leaf: 1, Bit: 3, Word: 8}, false},
		{[4]uint64{8, 7, both, zero}, api.Op{Phase: api.PhRead, Leaf: 1, Bit: 3}, [4]uint64{8, 7, both, zero}, api.Op{Leaf: 1, Bit: 3, Answer: free}, true},
		{[4]uint64{7, 8, both, zero}, api.Op{Phase: api.PhDrop, Leaf: 1, Bit: 3, Word: 8}, [4]uint64{7, once, both, zero}, api.Op{Leaf: 1, Bit: 3}, true},
		{[4]uint64{7, low, none, none}, api.Op{Phase: api.PhDrop, Leaf: 1, Bit: 3, Word: low}, [4]uint64{7, once + low - 8, none, none}, api.Op{Phase: api.PhMark, Leaf: 1, Bit: 3}, true},
		{[4]uint64{7, once + 8, both, zero}, api.Op{Phase: api.PhDrop, Leaf: 1, Bit: 3, Word: 8}, [4]uint64{7, once + 8, both, zero}, api.Op{Phase: api.PhRead, Leaf: 1, Bit: 3}, false},
		{[4]uint64{7, 8, none, none}, api.Op{Phase: api.PhMark, Leaf: 1}, [4]uint64{7, 8, none, none}, api.Op{Phase: api.PhSet, Leaf: 1, Word: none}, false},
		{[4]uint64{7, 8, none, none}, api.Op{Phase: api.PhSet, Leaf: 1, Word: none}, [4]uint64{7, 8, none - 2, none}, api.Op{Phase: api.PhMark, Leaf: 1, At: 1, Word: none - 2}, false},
		{[4]uint64{7, 8, none, none}, api.Op{Phase: api.PhSet, Leaf: 1, At: 1, Word: none}, [4]uint64{7, 8, none, zero}, api.Op{Leaf: 1}, false},
		{[4]uint64{7, 8, both, zero}, api.Op{Leaf: 1, Bit: 3, Answer: free}, [4]uint64{7, 8, both, zero}, api.Op{Leaf: 1, Bit: 3, Answer: free}, false},
	})
}

// Of the offsets 35 and 5, which are the leaf 1's bit 3 and the leaf 0's bit 5.
func TestStepsOfManyAddressesByHand(t *testing.T) { // P21.1
	errs := func(l ...api.Errno) api.Answer { return api.Answer{Errs: l} }
	holds(t, api.Ask{Kind: api.Batch, Addr: base + 4, Addrs: addrs(35, 5)}, []step{
		{[4]uint64{7, 8, both, zero}, api.Op{Phase: api.PhRead, Leaf: 1, Bit: 3}, [4]uint64{7, 8, both, zero}, api.Op{Phase: api.PhDrop, Leaf: 1, Bit: 3, Word: 8}, false},
		{[4]uint64{8, 7, both, zero}, api.Op{Phase: api.PhRead, Leaf: 1, Bit: 3}, [4]uint64{8, 7, both, zero}, api.Op{Phase: api.PhRead, Bit: 5, Item: 1, Answer: errs(api.ErrFree)}, true},
		{[4]uint64{7, 8, both, zero}, api.Op{Phase: api.PhDrop, Leaf: 1, Bit: 3, Word: 8}, [4]uint64{7, once, both, zero}, api.Op{Phase: api.PhRead, Bit: 5, Item: 1, Answer: errs(api.OK)}, true},
		{[4]uint64{7, low, none, none}, api.Op{Phase: api.PhDrop, Leaf: 1, Bit: 3, Word: low}, [4]uint64{7, once + low - 8, none, none}, api.Op{Phase: api.PhMark, Leaf: 1, Bit: 3, Answer: errs(api.OK)}, true},
		{[4]uint64{7, once + 8, both, zero}, api.Op{Phase: api.PhDrop, Leaf: 1, Bit: 3, Word: 8}, [4]uint64{7, once + 8, both, zero}, api.Op{Phase: api.PhRead, Leaf: 1, Bit: 3}, false},
		{[4]uint64{7, 8, none, none}, api.Op{Phase: api.PhSet, Leaf: 1, At: 1, Word: none, Answer: errs(api.OK)}, [4]uint64{7, 8, none, zero}, api.Op{Phase: api.PhRead, Bit: 5, Item: 1, Answer: errs(api.OK)}, false},
		{[4]uint64{7, 8, both, zero}, api.Op{Phase: api.PhRead, Bit: 5, Item: 1, Answer: errs(api.OK)}, [4]uint64{7, 8, both, zero}, api.Op{Bit: 5, Item: 1, Answer: errs(api.OK, api.ErrFree)}, true},
		{[4]uint64{32, 8, both, zero}, api.Op{Phase: api.PhDrop, Bit: 5, Item: 1, Word: 32, Answer: errs(api.ErrFree)}, [4]uint64{once, 8, both, zero}, api.Op{Bit: 5, Item: 1, Answer: errs(api.ErrFree, api.OK)}, true},
		{[4]uint64{7, 8, none, none}, api.Op{Phase: api.PhMark, Item: 1, Answer: errs(api.OK, api.OK)}, [4]uint64{7, 8, none, none}, api.Op{Phase: api.PhSet, Item: 1, Word: none, Answer: errs(api.OK, api.OK)}, false},
		{[4]uint64{7, 8, zero, zero}, api.Op{Phase: api.PhMark, At: 1, Item: 1, Word: zero, Answer: errs(api.OK, api.OK)}, [4]uint64{7, 8, zero, zero}, api.Op{Item: 1, Answer: errs(api.OK, api.OK)}, false},
		{[4]uint64{7, 8, both, zero}, api.Op{Bit: 5, Item: 1, Answer: errs(api.OK, api.ErrFree)}, [4]uint64{7, 8, both, zero}, api.Op{Bit: 5, Item: 1, Answer: errs(api.OK, api.ErrFree)}, false},
	})
}

func TestStepsOfASnapshotByHand(t *testing.T) { // P21.1
	l := [4]uint64{3, once + 4, both, zero}
	seen := func(l ...uint64) []uint64 { return l }
	tells := api.Answer{Addrs: addrs(0, 1, 34)}
	holds(t, api.Ask{Kind: api.Snapshot, Addr: base + 4, Addrs: addrs(5)}, []step{
		{l, api.Op{Phase: api.PhFirst}, l, api.Op{Phase: api.PhFirst, At: 1, Seen: seen(3)}, false},
		{l, api.Op{Phase: api.PhFirst, At: 1, Tries: 1, Seen: seen(7)}, l, api.Op{Phase: api.PhAgain, Tries: 1, Seen: seen(7, once+4)}, false},
		{l, api.Op{Phase: api.PhAgain, Tries: 1, Seen: seen(3, 3)}, l, api.Op{Phase: api.PhAgain, At: 1, Tries: 1, Seen: seen(3, 3)}, false},
		{l, api.Op{Phase: api.PhAgain, At: 1, Tries: 1, Seen: seen(3, once+4)}, l, api.Op{Tries: 1, Answer: tells}, true},
		{l, api.Op{Phase: api.PhAgain, At: 1, Seen: seen(3, 4)}, l, api.Op{Phase: api.PhFirst, Tries: 1}, false},
		{l, api.Op{Phase: api.PhAgain, Tries: 1, Seen: seen(7, once+4)}, l, api.Op{Tries: 2, Answer: api.Answer{Err: api.ErrRetry}}, true},
		{l, api.Op{Tries: 1, Answer: tells}, l, api.Op{Tries: 1, Answer: tells}, false},
	})
	// a Close is done as it begins
	for _, a := range closes() {
		holds(t, a, []step{{l, api.Op{}, l, api.Op{}, false}})
	}
}

// Of any operation: of a Batch with Errs the last one, all else being zero; else the answer,
// whatever it is.
func TestTold(t *testing.T) { // P21.1
	used := api.Answer{Err: api.ErrUsed, Addr: base + 7, Used: true, Addrs: addrs(4, 5)}
	many := used
	many.Errs = []api.Errno{api.ErrFree, api.OK, api.ErrBusy}
	for _, kind := range []int{api.Grant, api.Exact, api.Release, api.Query, api.Snapshot, api.Close, 0, 8, -4, 5, math.MinInt, math.MaxInt} {
		for _, x := range []api.Answer{{}, {Err: api.ErrFull}, {Err: api.ErrFree}, {Addr: base}, {Used: true}, {Addrs: addrs(1)}, {Errs: []api.Errno{api.ErrFree}}, used, many} {
			for phase := -1; phase <= 10; phase++ {
				if got := Told(api.Op{Ask: api.Ask{Kind: kind, Addrs: addrs(4, 5)}, Answer: x, Phase: phase, Item: 1}); !alike(got, x) {
					t.Errorf("the Kind %d, the Phase %d: %+v, not %+v", kind, phase, got, x)
				}
			}
		}
	}
	for _, x := range []struct {
		answer, want api.Answer
	}{
		{api.Answer{}, api.Answer{}},
		{api.Answer{Err: api.ErrTwice}, api.Answer{Err: api.ErrTwice}},
		{api.Answer{Err: api.ErrEmpty, Errs: []api.Errno{}}, api.Answer{Err: api.ErrEmpty}},
		{used, used},
		{api.Answer{Errs: []api.Errno{api.OK}}, api.Answer{}},
		{api.Answer{Errs: []api.Errno{api.ErrFree}}, api.Answer{Err: api.ErrFree}},
		{api.Answer{Errs: []api.Errno{api.OK, api.ErrFree}}, api.Answer{Err: api.ErrFree}},
		{api.Answer{Errs: []api.Errno{api.ErrFree, api.OK}}, api.Answer{}},
		{api.Answer{Err: api.ErrArg, Errs: []api.Errno{api.ErrFree, api.OK}}, api.Answer{}},
		{api.Answer{Errs: append(make([]api.Errno, 63), api.ErrFree)}, api.Answer{Err: api.ErrFree}},
		{api.Answer{Errs: append([]api.Errno{api.ErrFree}, make([]api.Errno, 99)...)}, api.Answer{}},
		{api.Answer{Errs: []api.Errno{99, -7}}, api.Answer{Err: -7}},
		{many, api.Answer{Err: api.ErrBusy}},
	} {
		for phase := -1; phase <= 10; phase++ {
			for item := -1; item <= 3; item++ { // where it is says nothing of what was told
				o := api.Op{Ask: api.Ask{Kind: api.Batch, Addrs: addrs(4, 5, 6)}, Answer: x.answer, Phase: phase, Item: item}
				if got := Told(o); !alike(got, x.want) {
					t.Errorf("%+v: %+v, not %+v", o, got, x.want)
				}
			}
		}
	}
}

func TestMostByHand(t *testing.T) { // P21.2
	for _, x := range []struct{ prefix, shards, tries, grant, snapshot int }{
		{32, 1, 1, 12, 2},
		{27, 1, 1, 12, 2},
		{27, 1, 3, 12, 6},
		{28, 3, 2, 20, 4},
		{27, 64, 8, 264, 16},
		{26, 1, 1, 14, 4},
		{26, 2, 8, 18, 32},
		{26, 64, 1, 266, 4},
		{24, 5, 4, 42, 64},
		{21, 1, 2, 138, 256}, // 64 leaves, one top
		{20, 1, 1, 267, 256}, // 128 leaves, two tops
		{20, 3, 1, 277, 256},
		{16, 1, 1, 4137, 4096}, // 2048 leaves, 32 tops
		{16, 64, 8, 6342, 32768},
	} {
		for _, held := range [][]int{nil, {0}} {
			c := lay(x.prefix, x.shards, x.tries, held...).c
			for _, rest := range []api.Ask{{}, {Addr: 9, Addrs: addrs(5, 5, 5)}} {
				rest.Kind = api.Grant
				if n := Most(c, rest); n != x.grant {
					t.Errorf("/%d, %d shards: a Grant: %d, not %d", x.prefix, x.shards, n, x.grant)
				}
				rest.Kind = api.Snapshot
				if n := Most(c, rest); n != x.snapshot {
					t.Errorf("/%d, %d tries: a Snapshot: %d, not %d", x.prefix, x.tries, n, x.snapshot)
				}
			}
		}
	}
}

// most is how many steps a right request alone takes at most, from the chapter's words.
func (p pool) most(a api.Ask) int {
	switch a.Kind {
	case api.Grant:
		return p.c.Shards*(p.tops+3) + p.leaves + p.leaves + 6
	case api.Snapshot:
		return 2 * p.leaves * p.c.Tries
	case api.Batch:
		return 6 * len(a.Addrs)
	}
	return 6
}

func TestMost(t *testing.T) { // P21.2
	for _, prefix := range []int{32, 31, 30, 27, 26, 24, 21, 20, 16} {
		for _, p := range pools(prefix) {
			for _, a := range p.asks() {
				if n := Most(p.c, a); n != p.most(a) {
					t.Fatalf("/%d, %d shards, %d tries, %+v: %d, not %d", prefix, p.c.Shards, p.c.Tries, a, n, p.most(a))
				}
			}
		}
	}
	p := lay(24, 2, 2, 0)
	for n := range api.MaxBatch {
		if got := Most(p.c, p.ask(api.Batch, row(7, n+1)...)); got != 6*(n+1) {
			t.Errorf("a Batch of %d: %d", n+1, got)
		}
	}
	if n := Most(p.c, p.ask(api.Batch, row(7, api.MaxBatch+1)...)); n != 0 {
		t.Errorf("a Batch of too many: %d", n)
	}
}

// layer is a step by the layer that the request's Kind is of.
func (p pool) layer(l []uint64, o api.Op) ([]uint64, api.Op, bool) {
	switch o.Ask.Kind {
	case api.Grant:
		return grant.Step(p.c, l, o)
	case api.Exact, api.Query:
		return exact.Step(p.c, l, o)
	case api.Release, api.Batch:
		return batch.Step(p.c, l, o)
	case api.Snapshot:
		o, effect := snap.Step(p.c, l, o)
		return l, o, effect
	}
	return l, o, false
}

// course is how far an operation is: the cells, the operation, how many steps it did, how often it
// took effect, what that told last, and what was used when its first collect ended.
type course struct {
	l       []uint64
	o       api.Op
	steps   int
	effects int
	told    api.Answer
	seen    []int
}

// begin is the operation that begins, of a home, in these cells.
func (p pool) begin(l []uint64, home int, a api.Ask) course {
	o, _ := Begin(p.c, home, a)
	return course{l: l, o: o}
}

// next does a step, and holds it against the layer's, and what each may do: take effect, or leave
// all leaves as they are.
func (p pool) next(t *testing.T, a course) course {
	t.Helper()
	l, o, effect := Step(p.c, a.l, a.o)
	m, q, is := p.layer(a.l, a.o)
	if !slices.Equal(l, m) || !same(o, q) || effect != is || !ask.Same(o.Ask, a.o.Ask) {
		t.Fatalf("%+v: %+v, %v, not %+v, %v, or other cells", a.o, o, effect, q, is)
	}
	b := course{l, o, a.steps + 1, a.effects, a.told, a.seen}
	if effect {
		b.effects, b.told = a.effects+1, Told(o)
		p.right(t, a, b)
		return b
	}
	if !slices.Equal(l[:p.leaves], a.l[:p.leaves]) || !alike(Told(o), a.told) {
		t.Fatalf("%+v: %+v takes no effect, but leaves changed, or %+v is told", a.o, o, Told(o))
	}
	if a.o.Phase == api.PhFirst && o.Phase == api.PhAgain {
		b.seen = p.used(l)
	}
	return b
}

// asked is the request that the next effect is of: of a Batch a release of one of its addresses.
func (a course) asked() api.Ask {
	if a.o.Ask.Kind == api.Batch {
		return api.Ask{Kind: api.Release, Addr: a.o.Ask.Addrs[a.effects]}
	}
	return a.o.Ask
}

// right holds an effect, from a to b, against what is right at once of the set as it was: where
// two collects are the same, when the first one ended. It makes the set that is.
func (p pool) right(t *testing.T, a, b course) {
	t.Helper()
	was, now := p.used(a.l), p.used(b.l)
	then, right := spec.Legal(p.c, was, a.asked(), b.told)
	if a.o.Phase == api.PhAgain && b.told.Err != api.ErrRetry {
		_, right = spec.Legal(p.c, a.seen, a.asked(), b.told)
		then = was
	}
	if !right || !slices.Equal(then, now) {
		t.Fatalf("%+v: %+v, %v was used, and is %v", a.o, b.o, was, now)
	}
	switch b.told.Err { // which of any request would be right at once
	case api.ErrBusy, api.ErrClosed:
		t.Fatalf("%+v: %+v", a.o, b.o)
	}
	for leaf, w := range b.l[:p.leaves] {
		if first := word.New(p.c, leaf); w&first&low != first {
			t.Fatalf("%+v: the leaf %d is %#x", a.o, leaf, w)
		}
	}
}

// run does an operation's steps until it is done, but at most so many; ahead of each one others
// do theirs, in the cells.
func (p pool) run(t *testing.T, a course, most int, others func(a course)) course {
	t.Helper()
	a.l = slices.Clone(a.l)
	for a.o.Phase != api.PhDone && a.steps < most {
		others(a)
		a = p.next(t, a)
	}
	return a
}

// nobody does nothing.
func nobody(course) {}

// times is how often a right request takes effect by its steps.
func times(a api.Ask) int {
	if a.Kind == api.Batch {
		return len(a.Addrs)
	}
	return 1
}

// checkEnd holds an operation that should be done against how often it took effect.
func (p pool) checkEnd(t *testing.T, a course) {
	t.Helper()
	if a.o.Phase != api.PhDone || a.effects != times(a.o.Ask) || a.o.Ask.Kind == api.Batch && len(a.o.Answer.Errs) != a.effects {
		t.Fatalf("/%d, %v reserved, %d shards, %d tries: %d steps, %d effects, %+v", p.c.Block.Prefix, p.c.Held, p.c.Shards, p.c.Tries, a.steps, a.effects, a.o)
	}
}

// checkAlone holds a request alone against what follows: it ends within its most steps, and the
// whole of its answer is right at once of the set as it was, and makes the set that is.
func (p pool) checkAlone(t *testing.T, l []uint64, home int, a api.Ask) course {
	t.Helper()
	b := p.run(t, p.begin(l, home, a), Most(p.c, a), nobody)
	p.checkEnd(t, b)
	then, right := spec.Legal(p.c, p.used(l), a, b.o.Answer)
	if !right || !slices.Equal(then, p.used(b.l)) || b.o.Answer.Err == api.ErrRetry {
		t.Fatalf("/%d: %+v", p.c.Block.Prefix, b.o)
	}
	if m, o, effect := Step(p.c, b.l, b.o); !slices.Equal(m, b.l) || !same(o, b.o) || effect {
		t.Fatalf("a step behind the last one: %+v, %v, not %+v", o, effect, b.o)
	}
	return b
}

// Of each block, with offsets reserved, whatever is used, and is told by the summaries, each Kind,
// of the first and the last home. (Of many leaves, one of so many of these, spread over them.)
func TestAlone(t *testing.T) { // P21.1, P21.2, P21.3
	ends := map[[2]int]int{}
	for _, x := range []struct{ prefix, every int }{
		{32, 1}, {31, 1}, {30, 1}, {28, 1}, {27, 5}, {26, 5}, {25, 7}, {24, 13}, {21, 89}, {20, 151}, {16, 2399},
	} {
		n := 0
		for _, p := range pools(x.prefix) {
			asks := p.asks()
			for _, fill := range p.fills() {
				for _, l := range p.hints(fill) {
					for _, a := range asks {
						if n++; n%x.every == 0 {
							b := p.checkAlone(t, l, n%2*(p.c.Shards-1), a)
							ends[[2]int{a.Kind, int(b.o.Answer.Err)}]++
						}
					}
				}
			}
		}
	}
	for _, x := range [][2]int{{api.Grant, 0}, {api.Grant, 9}, {api.Exact, 0}, {api.Exact, 5}, {api.Release, 0}, {api.Release, 6}, {api.Batch, 0}, {api.Query, 0}, {api.Snapshot, 0}} {
		if ends[x] < 200 || len(ends) != 9 {
			t.Errorf("the Kind %d, the error %d: %v", x[0], x[1], ends)
		}
	}
}

// Requests alone that need as many steps as they may: of one address six, and of a Batch six for
// each of its addresses, where each is the first of a full leaf that is given back.
func TestAsManyStepsAsMayBe(t *testing.T) { // P21.2, P21.3
	p := lay(21, 1, 1)
	full := p.claimed(func(int, int) bool { return false })
	last := p.claimed(func(i, _ int) bool { return i == 100 })
	last[p.top(0)] = with(last[p.top(0)], 3, false)
	for _, x := range []struct {
		l     []uint64
		a     api.Ask
		steps int
	}{
		{last, p.ask(api.Exact, 100), 6},
		{full, p.ask(api.Release, 100), 6},
		{full, p.ask(api.Batch, 100), 6},
	} {
		if b := p.checkAlone(t, x.l, 0, x.a); b.steps != x.steps || Most(p.c, x.a) != x.steps {
			t.Errorf("%+v: %d steps of %d", x.a, b.steps, Most(p.c, x.a))
		}
	}
	// the root tells what it did, so others of the same top find it right
	var offs []int
	for i := range 64 {
		offs = append(offs, 32*i+i/2)
	}
	a := p.ask(api.Batch, offs...)
	b := p.run(t, p.begin(full, 0, a), Most(p.c, a), func(b course) {
		if b.o.Phase == api.PhMark && b.o.At == 1 {
			b.l[p.root()] = all
		}
	})
	if p.checkEnd(t, b); b.steps != 6*64 || Most(p.c, a) != 6*64 {
		t.Errorf("%d steps of %d", b.steps, Most(p.c, a))
	}
}

// A pool that is filled by grants, asked about, and emptied again, request behind request.
func TestOneBehindTheOther(t *testing.T) { // P21.3
	for _, prefix := range []int{32, 30, 27, 26, 24} {
		for _, p := range pools(prefix) {
			l, u := word.Cells(p.c), p.usable()
			do := func(a api.Ask, want api.Answer) {
				b := p.checkAlone(t, l, len(u)%p.c.Shards, a)
				if !alike(b.o.Answer, want) {
					t.Fatalf("/%d, %+v: %+v, not %+v", prefix, a, b.o.Answer, want)
				}
				l = b.l
			}
			var lent []uint32
			for range u {
				b := p.checkAlone(t, l, p.c.Shards-1, api.Ask{Kind: api.Grant})
				l, lent = b.l, append(lent, b.o.Answer.Addr)
			}
			slices.Sort(lent)
			do(api.Ask{Kind: api.Grant}, api.Answer{Err: api.ErrFull})
			do(api.Ask{Kind: api.Snapshot}, api.Answer{Addrs: lent})
			for _, off := range u {
				do(p.ask(api.Query, off), api.Answer{Used: true})
				do(p.ask(api.Exact, off), api.Answer{Err: api.ErrUsed})
				do(p.ask(api.Release, off), api.Answer{})
				do(p.ask(api.Query, off), api.Answer{})
				do(p.ask(api.Release, off), api.Answer{Err: api.ErrFree})
				do(p.ask(api.Exact, off), api.Answer{Addr: p.addr(off)})
			}
			for len(u) > 0 {
				some := falling(u[:min(len(u), api.MaxBatch)])
				do(p.ask(api.Batch, some...), api.Answer{Errs: make([]api.Errno, len(some))})
				do(p.ask(api.Batch, some...), api.Answer{Errs: slices.Repeat([]api.Errno{api.ErrFree}, len(some))})
				u = u[len(some):]
			}
			do(api.Ask{Kind: api.Snapshot}, api.Answer{})
		}
	}
}

// schedules has two operations do their steps in each order that there is, and hands their ends
// to f.
func (p pool) schedules(t *testing.T, l []uint64, two [2]course, f func(two [2]course)) {
	done := true
	for i := range two {
		if two[i].o.Phase == api.PhDone {
			continue
		}
		done = false
		then := two
		then[i].l = l
		then[i] = p.next(t, then[i])
		p.schedules(t, then[i].l, then, f)
	}
	if done {
		f(two)
	}
}

// pair are requests of each Kind that needs steps, of the offsets 1 and off.
func (p pool) pair(off int) []api.Ask {
	return []api.Ask{
		p.ask(api.Grant, off), p.ask(api.Exact, off), p.ask(api.Release, off),
		p.ask(api.Batch, 1, off), p.ask(api.Query, off), p.ask(api.Snapshot, off),
	}
}

// Two of all Kinds, in each order of their steps: each takes effect as often as it should, each
// effect being right at once; and no address is granted to both.
func TestTwoInEachOrder(t *testing.T) { // P21.3
	n, ends := 0, map[[2]int]int{}
	for _, x := range []struct{ prefix, off, fills int }{{30, 1, 4}, {30, 3, 3}, {26, 40, 3}} {
		p := lay(x.prefix, 2, 2, 0)
		pair := p.pair(x.off)
		if x.off == 1 {
			pair[3] = p.ask(api.Batch, 1, 2)
		}
		for _, fill := range []func(i, n int) bool{
			func(int, int) bool { return true },
			func(i, _ int) bool { return i != 0 && i != x.off-1 },
			func(i, _ int) bool { return i == x.off-1 },
			func(int, int) bool { return false }, // of which there are many orders
		}[:x.fills] {
			l := p.claimed(fill)
			for i, a := range pair {
				for _, b := range pair[i:] {
					two := [2]course{p.begin(l, 0, a), p.begin(l, 1, b)}
					p.schedules(t, l, two, func(two [2]course) {
						n++
						for _, a := range two {
							p.checkEnd(t, a)
							ends[[2]int{a.o.Ask.Kind, int(a.o.Answer.Err)}]++
						}
						if x := two[0].o.Answer; x.Addr != 0 && x.Addr == two[1].o.Answer.Addr {
							t.Fatalf("%+v, %+v", two[0].o, two[1].o)
						}
					})
				}
			}
		}
	}
	for _, x := range [][2]int{{api.Grant, 0}, {api.Grant, 9}, {api.Exact, 0}, {api.Exact, 5}, {api.Release, 0}, {api.Release, 6}, {api.Batch, 0}, {api.Query, 0}, {api.Snapshot, 0}, {api.Snapshot, 11}} {
		if ends[x] < 40 {
			t.Errorf("the Kind %d, the error %d: %v, of %d", x[0], x[1], ends, n)
		}
	}
}

// turns has the operations do steps by turns, in that order of turns, until all are done.
func (p pool) turns(t *testing.T, l []uint64, some []course, order []int, meddle func(l []uint64)) ([]uint64, []course) {
	t.Helper()
	some = slices.Clone(some)
	for turn := 0; slices.ContainsFunc(some, func(a course) bool { return a.o.Phase != api.PhDone }); turn++ {
		i := order[turn%len(order)]
		if some[i].o.Phase == api.PhDone {
			continue
		}
		l = slices.Clone(l)
		meddle(l)
		some[i].l = l
		some[i] = p.next(t, some[i])
		l = some[i].l
	}
	return l, some
}

// Three of all Kinds, by turns of some orders, while any words may be written behind the leaves.
func TestThreeByTurns(t *testing.T) { // P21.3
	orders := [][]int{{0, 1, 2}, {2, 1, 0}, {0, 0, 1, 2}, {0, 1, 1, 1, 2, 2}, {2, 0, 0, 0, 1, 1, 1, 1}, {0, 1, 0, 2, 1, 2, 2}}
	r, ends := random(7), map[[2]int]int{}
	for _, x := range []struct{ prefix, off int }{{30, 3}, {27, 31}, {26, 40}} {
		p := lay(x.prefix, 2, 2, 0)
		pair := p.pair(x.off)
		for f, l := range p.fills() {
			for i, a := range pair {
				for j, b := range pair {
					for k, c := range pair {
						some := []course{p.begin(l, 0, a), p.begin(l, 1, b), p.begin(l, 0, c)}
						order := orders[(f+i+2*j+3*k)%len(orders)]
						_, some = p.turns(t, l, some, order, func(l []uint64) {
							if cell := p.leaves + r.below(9); cell < len(l) {
								l[cell] = r.word()
							}
						})
						for _, a := range some {
							p.checkEnd(t, a)
							ends[[2]int{a.o.Ask.Kind, int(a.o.Answer.Err)}]++
						}
					}
				}
			}
		}
	}
	for _, x := range [][2]int{{api.Grant, 0}, {api.Grant, 9}, {api.Exact, 0}, {api.Exact, 5}, {api.Release, 0}, {api.Release, 6}, {api.Batch, 0}, {api.Query, 0}, {api.Snapshot, 0}, {api.Snapshot, 11}} {
		if ends[x] < 40 {
			t.Errorf("the Kind %d, the error %d: %v", x[0], x[1], ends)
		}
	}
}

// meddle is what others may do: claims and drops of offsets that aren't reserved, near to one, and
// any words behind the leaves.
func (p pool) meddle(r *random, l []uint64, near, most int) {
	for range r.below(most) {
		if r.below(3) == 0 {
			l[p.leaves+r.below(p.tops+1)] = r.word()
			continue
		}
		off := (near + r.below(4)) % p.many
		if p.held[off] {
			continue
		}
		change := word.Claim
		if set(l[off/32], off%32) {
			change = word.Drop
		}
		l[off/32] = change(l[off/32], off%32)
	}
}

// Some of any Kinds, and others who claim, drop, and write into summaries, at any time, by a fixed
// rule: each takes effect as often as it should, and each effect is right at once; and wherever it
// is, alone it ends within twice its most steps.
func TestAmongOthers(t *testing.T) { // P21.3
	ends := map[[2]int]int{}
	for seed := range 6000 {
		r := random(seed)
		prefix := []int{32, 31, 30, 27, 26, 25}[seed%6]
		p := lay(prefix, 1+seed%4, 1+seed%3)
		if prefix < 31 {
			p = lay(prefix, 1+seed%4, 1+seed%3, r.below(2), 2)
		}
		fills, asks := p.fills(), p.asks()
		l := fills[r.below(len(fills))]
		near := r.below(p.many)
		some := make([]course, 1+r.below(4))
		for i := range some {
			a := asks[r.below(len(asks))]
			if kind := stepping()[r.below(6)]; r.below(2) == 0 && !p.held[near] {
				a = p.ask(kind, near)
			}
			some[i] = p.begin(l, r.below(p.c.Shards), a)
		}
		for range (1 + r.below(12)) * len(some) {
			i := r.below(len(some))
			l = slices.Clone(l)
			p.meddle(&r, l, near, 1+seed%5)
			some[i].l = l
			some[i] = p.run(t, some[i], some[i].steps+1, nobody)
			l = some[i].l
		}
		for _, a := range some {
			a.l = l
			a = p.run(t, a, a.steps+2*Most(p.c, a.o.Ask), nobody)
			p.checkEnd(t, a)
			ends[[2]int{a.o.Ask.Kind, int(a.o.Answer.Err)}]++
			l = a.l
		}
	}
	for _, x := range [][2]int{{api.Grant, 0}, {api.Grant, 9}, {api.Exact, 0}, {api.Exact, 5}, {api.Release, 0}, {api.Release, 6}, {api.Batch, 0}, {api.Query, 0}, {api.Snapshot, 0}, {api.Snapshot, 11}} {
		if ends[x] < 100 {
			t.Errorf("the Kind %d, the error %d: %v", x[0], x[1], ends)
		}
	}
}

// roomy is l with such a one behind its length, so that a write there shows.
func roomy[T any](room T, l ...T) []T { return append(slices.Clone(l), room, room)[:len(l)] }

// made is an operation at the leaf 1's bit 3 of a block of two leaves, of a Batch the second of
// three addresses, with lists that have room behind them; made again, it is the same.
func made(kind, phase, at int, w uint64) api.Op {
	seen := []uint64{w, w}
	if phase == api.PhFirst {
		seen = seen[:at]
	}
	return api.Op{
		Ask:    api.Ask{Kind: kind, Addr: base + 35, Addrs: roomy(77, base+5, base+35, base+6)},
		Answer: api.Answer{Addrs: roomy(77, uint32(4), 5), Errs: roomy(api.ErrBusy, api.ErrFree)},
		Phase:  phase, Shard: 1, Sought: 1, Leaf: 1, Bit: 3, Word: w,
		Seen: roomy(77, seen...), At: at, Tries: 1, Item: 1, Stamp: 8,
	}
}

// rooms are the operation's lists with the room behind them.
func rooms(o api.Op) []any {
	return []any{o.Ask.Addrs[:5], o.Answer.Addrs[:4], o.Answer.Errs[:3], o.Seen[:len(o.Seen)+2]}
}

// steppings calls f with cells, with room behind them, and operations of all Kinds, and of none,
// of each Phase, and of none, so that each end of a step is come to.
func steppings(f func(l []uint64, kind, phase, at int, w uint64)) {
	for kind := range 9 {
		for phase := range 11 {
			for at := range 2 {
				for _, cell := range []uint64{7, 15, low} {
					for _, sum := range []uint64{cell, all, all - 3} {
						f(roomy(77, cell, cell, sum, sum), kind, phase, at, cell)
						f(roomy(77, 3, cell+once, sum, sum), kind, phase, at, cell)
					}
				}
			}
		}
	}
}

func TestWhatIsHandedInStays(t *testing.T) { // P21.4
	steppings(func(l []uint64, kind, phase, at int, w uint64) {
		p := lay(26, 2, 2, roomy(9, 1, 2)...)
		o, was, cells := made(kind, phase, at, w), made(kind, phase, at, w), slices.Clone(l[:6])
		Step(p.c, l, o)
		Begin(p.c, 1, o.Ask)
		Told(o)
		Most(p.c, o.Ask)
		if !slices.Equal(l[:6], cells) || !slices.Equal(p.c.Held[:4], []int{1, 2, 9, 9}) {
			t.Errorf("%+v: cells, or Held, changed: %#x, %v", was, l[:6], p.c.Held[:4])
		}
		if !reflect.DeepEqual(o, was) || !reflect.DeepEqual(rooms(o), rooms(was)) {
			t.Errorf("%+v changed: %+v", was, o)
		}
	})
	for _, x := range wrongs() {
		p := lay(26, 3, 2, 0, 33)
		a, n := x.a, len(x.a.Addrs)
		a.Addrs = roomy(77, a.Addrs...)
		Begin(p.c, 2, a)
		Most(p.c, a)
		if !slices.Equal(a.Addrs[:n+2], append(slices.Clone(x.a.Addrs), 77, 77)) {
			t.Errorf("%+v changed: %v", x.a, a.Addrs[:n+2])
		}
	}
}

// fill writes x into a list, and into the room behind it.
func fill[T any](l []T, x T) {
	for i := range l[:cap(l)] {
		l[:cap(l)][i] = x
	}
}

// scrawl writes into all that an answer has for itself: not into the request's.
func scrawl(x api.Answer, seen []uint64) {
	fill(x.Addrs, 1234)
	fill(x.Errs, 1234)
	fill(seen, 1234)
}

// The lists of an answer are its own, but what the request holds; so are cells that were written.
func TestWhatIsAnsweredIsNewMemory(t *testing.T) { // P21.4
	wrote := 0
	steppings(func(l []uint64, kind, phase, at int, w uint64) {
		c, cells := lay(26, 2, 2).c, slices.Clone(l[:6])
		o, was := made(kind, phase, at, w), made(kind, phase, at, w)
		m, one, _ := Step(c, l, o)
		n, other, _ := Step(c, l, o)
		then, _, _ := Step(c, l, o)
		told, tells := Told(one), Told(o)
		ones, tellss := Told(one), Told(o)
		begun, _ := Begin(c, 1, o.Ask)
		again, _ := Begin(c, 1, o.Ask)
		scrawl(Told(one), nil)
		scrawl(Told(o), nil)
		if !alike(told, ones) || !alike(tells, tellss) || !same(one, other) || slices.Contains(one.Answer.Errs, 1234) {
			t.Errorf("%+v: a write into what was told shows: %+v, %+v, %+v", was, told, tells, one)
		}
		scrawl(one.Answer, one.Seen)
		scrawl(begun.Answer, begun.Seen)
		if !slices.Equal(m, l) {
			fill(m, 1234)
			wrote++
		}
		if !slices.Equal(l[:6], cells) || !slices.Equal(n, then) {
			t.Errorf("%+v: a write into the answer's cells shows in others", was)
		}
		if !reflect.DeepEqual(o, was) || !reflect.DeepEqual(rooms(o), rooms(was)) {
			t.Errorf("%+v: a write into the answer shows in what was handed in: %+v", was, o)
		}
		if !alike(told, ones) || len(again.Answer.Addrs)+len(again.Answer.Errs)+len(again.Seen) != 0 {
			t.Errorf("%+v: a write into an answer shows in another one: %+v, %+v", was, told, again)
		}
		if _, q, _ := Step(c, l, o); !same(other, q) || slices.Contains(other.Answer.Errs, 1234) || slices.Contains(other.Seen, 1234) {
			t.Errorf("%+v: a write into an answer shows in another one: %+v", was, other)
		}
	})
	if wrote < 20 {
		t.Errorf("cells were written %d times", wrote)
	}
}

// Two lists of one answer share nothing, though those that were handed in did, and Seen was the
// cells.
func TestNoTwoListsOfAnAnswerShareMemory(t *testing.T) { // P21.4
	steppings(func(l []uint64, kind, phase, at int, w uint64) {
		handed := addrs(5, 35, 6)
		one, cells, o := slices.Clone(handed), slices.Clone(l), made(kind, phase, at, w)
		o.Ask.Addrs, o.Answer.Addrs, o.Seen = one, one, l[:len(o.Seen)]
		m, got, _ := Step(lay(26, 2, 2).c, l, o)
		then := slices.Clone(m)
		scrawl(Told(o), nil)
		scrawl(got.Answer, got.Seen)
		if !slices.Equal(got.Ask.Addrs, handed) || !slices.Equal(one, handed) || !slices.Equal(l, cells) || !slices.Equal(m, then) {
			t.Errorf("%+v: %v, %#x", o, one, l)
		}
	})
}

// Nil and empty lists are one, handed in and answered.
func TestNilAndEmptyLists(t *testing.T) { // P21.1, P21.2
	steppings(func(l []uint64, kind, phase, at int, w uint64) {
		o := made(kind, phase, at, w)
		o.Answer.Addrs, o.Answer.Errs = nil, nil
		e := o
		e.Answer.Addrs, e.Answer.Errs = []uint32{}, []api.Errno{}
		if kind != api.Batch {
			o.Ask.Addrs, e.Ask.Addrs = nil, []uint32{}
		}
		if len(o.Seen) == 0 {
			o.Seen, e.Seen = nil, []uint64{}
		}
		c, d := lay(26, 2, 2).c, lay(26, 2, 2, []int{}...).c
		m, a, x := Step(c, l, o)
		n, b, y := Step(d, l, e)
		if !slices.Equal(m, n) || !same(a, b) || x != y || !alike(Told(o), Told(e)) || Most(c, o.Ask) != Most(d, e.Ask) {
			t.Errorf("%+v, %+v", a, b)
		}
		a, x = Begin(c, 1, o.Ask)
		b, y = Begin(d, 1, e.Ask)
		if !same(a, b) || x != y {
			t.Errorf("%+v, %+v", a, b)
		}
	})
}

// The same is answered each time, and workers and queues are nothing to it; nor are shards, but to
// a Grant, and tries, but to a Snapshot.
func TestAnswersHangOnArgumentsAlone(t *testing.T) { // P21.1, P21.2
	steppings(func(l []uint64, kind, phase, at int, w uint64) {
		c := lay(26, 2, 2).c
		a := made(kind, phase, at, w).Ask
		m, o, x := Step(c, l, made(kind, phase, at, w))
		begun, y := Begin(c, 1, a)
		n := Most(c, a)
		for range 3 {
			c.Workers, c.Queue = c.Workers+1, c.Queue+1
			if kind != api.Grant {
				c.Shards++
			}
			if kind != api.Snapshot {
				c.Tries++
			}
			then, q, effect := Step(c, l, made(kind, phase, at, w))
			other, done := Begin(c, 1, a)
			if !slices.Equal(m, then) || !same(o, q) || effect != x || !same(begun, other) || done != y || Most(c, a) != n {
				t.Errorf("%+v, %+v", o, q)
			}
		}
	})
}

// An operation that is done stays, of whatever Kind it is, and so does one of a Close, or of a
// Kind that there isn't.
func TestOperationsWithoutAStep(t *testing.T) { // P21.1
	stays := func(l []uint64, o api.Op) {
		if m, q, effect := Step(lay(26, 2, 2).c, l, o); !slices.Equal(m, l) || !same(q, o) || effect {
			t.Errorf("%+v: %+v, %v", o, q, effect)
		}
	}
	steppings(func(l []uint64, kind, phase, at int, w uint64) {
		stays(l, made(kind, api.PhDone, at, w))
		for _, kind := range []int{api.Close, 0, 8, -1 - kind, 8 + kind, math.MinInt, math.MaxInt} {
			stays(l, made(kind, phase, at, w))
		}
	})
}

// The chapter promises nothing of these but that the calls end and don't panic.
func TestNothingPanics(t *testing.T) { // P1
	odd := []int{math.MinInt, -65536, -1, 0, 1, 2, 31, 64, 2048, math.MaxInt}
	few := [][]uint64{nil, {5}, {5, all, 5}, slices.Repeat([]uint64{low}, 40)}
	lists := [][]uint32{nil, {}, {math.MaxUint32}, {0, 1 << 31, math.MaxUint32}, slices.Repeat([]uint32{base}, 80)}
	confs := []api.Conf{{}}
	for _, prefix := range []int{math.MinInt, -1, 0, 15, 16, 27, 32, 33, math.MaxInt} {
		for _, n := range []int{math.MinInt, -1, 0, 1, 65, math.MaxInt} {
			c := api.Conf{Block: api.Block{Base: 7, Prefix: prefix}, Held: []int{-1, math.MaxInt, 3, 3}, Shards: n, Workers: n, Queue: n, Tries: n}
			confs = append(confs, c, api.Conf{Block: api.Block{Base: 1 << 31, Prefix: prefix}, Shards: n})
		}
	}
	for i, c := range confs {
		for j, leaf := range odd {
			for k, n := range odd {
				kind := []int{1, 2, 3, 4, 5, 6, 7, 8, 0, -1, math.MaxInt}[(i+j+3*k)%11]
				a := api.Ask{Kind: kind, Addr: []uint32{0, 7, base, 1 << 31, math.MaxUint32}[(i+2*j+k)%5], Addrs: lists[(i+j+3*k)%5]}
				l, seen := few[(i+j+k)%4], few[(i+2*j+3*k)%4]
				o, _ := Begin(c, n, a)
				Step(c, l, o)
				Told(o)
				Most(c, a)
				for phase := -1; phase <= 10; phase++ {
					o := api.Op{Ask: a, Phase: phase, Shard: n, Sought: leaf, Leaf: leaf, Bit: n, Word: 5, Full: j%2 == 0, Seen: seen, At: n, Tries: n, Item: n, Stamp: leaf}
					Step(c, l, o)
					Told(o)
				}
			}
		}
	}
}

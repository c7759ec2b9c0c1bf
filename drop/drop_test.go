package drop

import (
	"math"
	"reflect"
	"slices"
	"testing"

	"lodger/api"
	"lodger/block"
	"lodger/word"
)

// low are a leaf's bits, all set; once is one change of it.
const (
	low  = uint64(1)<<32 - 1
	once = uint64(1) << 32
)

// base is where the tests' blocks begin, if nothing else is said.
const base = uint32(0x0a010000)

// of answers a configuration of that prefix and those reserved offsets.
func of(prefix int, held ...int) api.Conf {
	return api.Conf{Block: api.Block{Base: base, Prefix: prefix}, Held: held, Shards: 2, Workers: 3, Queue: 4, Tries: 5}
}

// at answers that configuration with another Base.
func at(c api.Conf, base uint32) api.Conf {
	c.Block.Base = base
	return c
}

// shape is what a block of a prefix has, written down by hand.
type shape struct{ prefix, many, leaves, cells int }

func shapes() []shape {
	return []shape{
		{32, 1, 1, 3}, {31, 2, 1, 3}, {30, 4, 1, 3}, {28, 16, 1, 3}, {27, 32, 1, 3}, {26, 64, 2, 4},
		{24, 256, 8, 10}, {21, 2048, 64, 66}, {20, 4096, 128, 131}, {16, 65536, 2048, 2081},
	}
}

// some are the first and the last leaf, and some between.
func (s shape) some() []int {
	l := []int{0, s.leaves - 1, s.leaves / 2}
	for _, leaf := range []int{1, 63, 64, 127, 1000} {
		if leaf < s.leaves {
			l = append(l, leaf)
		}
	}
	return l
}

// own are the first and the last bit that a leaf has, and some between.
func (s shape) own() []int {
	width := min(s.many, 32)
	return []int{0, width - 1, width / 2, width / 3}
}

// holding are as many cells as there are, of a fixed rule, each another word, but with w in
// the leaf.
func (s shape) holding(leaf int, w uint64) []uint64 {
	l := make([]uint64, s.cells)
	x := uint64(leaf) + 7
	for i := range l {
		x = x*6364136223846793005 + 1442695040888963407
		l[i] = x
	}
	l[leaf] = w
	return l
}

// digits writes w as 64 bools, the lowest bit first, by division alone, so that the tests
// hold the package's words against something else.
func digits(w uint64) [64]bool {
	var d [64]bool
	for i := range d {
		d[i] = w%2 == 1
		w /= 2
	}
	return d
}

// with is w whose bit is so.
func with(w uint64, bit int, is bool) uint64 {
	d := digits(w)
	d[bit] = is
	w = 0
	for i := range d {
		w *= 2
		if d[63-i] {
			w++
		}
	}
	return w
}

// dropped is w with the bit not set, changed once more, and claimed with it set.
func dropped(w uint64, bit int) uint64 { return with(w, bit, false) + once }
func claimed(w uint64, bit int) uint64 { return with(w, bit, true) + once }

// words are leaves' words: changed never, often, and as often as can be; empty, full, with
// one bit left, with one set, with the first or the last ones set.
func words() []uint64 {
	var l []uint64
	for _, changed := range []uint64{0, 1, 5, 1 << 31, 1<<32 - 1} {
		for _, bits := range []uint64{0, low, 0x55555555, 0xaaaaaaaa, 0x0000ffff, 0xffff0000, 0x7ffffffe} {
			l = append(l, changed*once+bits)
		}
		for bit := range 32 {
			l = append(l, changed*once+with(low, bit, false), changed*once+with(0, bit, true))
		}
	}
	return l
}

// words are, of a block of two leaves, all of these words, of others some, since each is held
// against all cells.
func (s shape) words() []uint64 {
	if s.prefix == 26 {
		return words()
	}
	return []uint64{0, 1, low, low - 1, low >> 1, 5*once + 0x55555555, 1<<63 + low - 1, math.MaxUint64, math.MaxUint64 - 1<<31}
}

// kinds are those that give back.
func kinds() []int { return []int{api.Release, api.Batch} }

// roomy is l with such a one behind its length, so that a write there shows.
func roomy[T any](room T, l ...T) []T { return append(slices.Clone(l), room, room)[:len(l)] }

// whole is an operation none of whose fields is zero, with lists that have room behind them:
// of a Batch of three addresses, at the second one.
func whole(kind, phase, leaf, bit int, w uint64) api.Op {
	return api.Op{
		Ask:    api.Ask{Kind: kind, Addr: 0x0a010000, Addrs: roomy(77, base, base, base)},
		Answer: api.Answer{Err: api.ErrRetry, Addr: 0x0a010007, Used: true, Addrs: roomy(77, uint32(4), 5), Errs: roomy(api.ErrBusy, api.ErrFull)},
		Phase:  phase, Shard: 1, Sought: 2, Leaf: leaf, Bit: bit, Word: w, Full: true,
		Seen: roomy(77, uint64(21), 22, 23), At: 3, Tries: 3, Item: 1, Stamp: 8,
	}
}

// rooms are the operation's lists with the room behind them.
func rooms(o api.Op) []any {
	return []any{o.Ask.Addrs[:5], o.Answer.Addrs[:4], o.Answer.Errs[:3], o.Seen[:5]}
}

// same tells whether the operations are, nil and empty lists being one.
func same(a, b api.Op) bool {
	for _, o := range []*api.Op{&a, &b} {
		o.Ask.Addrs = append([]uint32(nil), o.Ask.Addrs...)
		o.Answer.Addrs = append([]uint32(nil), o.Answer.Addrs...)
		o.Answer.Errs = append([]api.Errno(nil), o.Answer.Errs...)
		o.Seen = append([]uint64(nil), o.Seen...)
	}
	return reflect.DeepEqual(a, b)
}

// told is o with err in its answer, from the chapter's words.
func told(o api.Op, err api.Errno) api.Op {
	if o.Ask.Kind == 3 {
		o.Answer.Err = err
		return o
	}
	o.Answer.Errs = append(slices.Clone(o.Answer.Errs), err)
	return o
}

// onward is o, gone on, from chapter 8's words.
func onward(c api.Conf, o api.Op) api.Op {
	o.Phase, o.Word, o.Full, o.At = api.PhDone, 0, false, 0
	if o.Ask.Kind == 4 && o.Item+1 < len(o.Ask.Addrs) {
		o.Item++
		off := int(o.Ask.Addrs[o.Item] - c.Block.Base)
		o.Phase, o.Leaf, o.Bit = api.PhRead, off/32, off%32
	}
	return o
}

// meant is what a step makes, from the chapter's words.
func meant(c api.Conf, l []uint64, o api.Op) ([]uint64, api.Op, bool) {
	l = slices.Clone(l)
	if o.Phase == api.PhRead {
		if digits(l[o.Leaf])[o.Bit] {
			o.Word, o.Phase = l[o.Leaf], api.PhDrop
			return l, o, false
		}
		return l, onward(c, told(o, api.ErrFree)), true
	}
	if l[o.Leaf] != o.Word {
		o.Phase, o.Word = api.PhRead, 0
		return l, o, false
	}
	l[o.Leaf] = dropped(o.Word, o.Bit)
	o = told(o, api.OK)
	if o.Word%once != low {
		return l, onward(c, o), true
	}
	o.Phase, o.Full, o.At, o.Word = api.PhMark, false, 0, 0
	return l, o, true
}

// check holds a step against what is meant.
func check(t *testing.T, c api.Conf, l []uint64, o api.Op) {
	t.Helper()
	wl, wo, wt := meant(c, l, o)
	gl, got, effect := Step(c, l, o)
	if !slices.Equal(gl, wl) || !same(got, wo) || effect != wt {
		t.Fatalf("/%d, the leaf's word %#x, %+v:\n%+v, %v, not\n%+v, %v, or other cells", c.Block.Prefix, l[o.Leaf], o, got, effect, wo, wt)
	}
}

func TestTheConfigurationsMayBe(t *testing.T) {
	for _, s := range shapes() {
		if c := of(s.prefix, 0); !block.May(c) || block.Many(c.Block) != s.many || len(word.Cells(c)) != s.cells {
			t.Errorf("%v", c)
		}
	}
}

// release and batch are requests of a block of two leaves: the leaf 1 has the offsets from 32
// on; the batch has three addresses, those of its bits 3, 31 and 0.
func release() api.Ask { return api.Ask{Kind: api.Release, Addr: 0x0a010023} }
func batch() api.Ask {
	return api.Ask{Kind: api.Batch, Addrs: []uint32{0x0a010023, 0x0a01003f, 0x0a010020}}
}

// err and errs are answers of a Release and of a Batch.
func err(e api.Errno) api.Answer     { return api.Answer{Err: e} }
func errs(l ...api.Errno) api.Answer { return api.Answer{Errs: l} }

// Of a block of two leaves: its cells are these, the top, the root.
func TestReadByHand(t *testing.T) { // P14.1
	for i, x := range []struct {
		w      uint64 // the word of the leaf 1
		ask    api.Ask
		o      api.Op
		want   api.Op
		effect bool
	}{
		// the bit is set
		{8, release(), api.Op{Bit: 3}, api.Op{Phase: api.PhDrop, Bit: 3, Word: 8}, false},
		{1, release(), api.Op{Bit: 0}, api.Op{Phase: api.PhDrop, Bit: 0, Word: 1}, false},
		{1 << 31, release(), api.Op{Bit: 31}, api.Op{Phase: api.PhDrop, Bit: 31, Word: 1 << 31}, false},
		{4<<32 + low, release(), api.Op{Bit: 3, Word: 9}, api.Op{Phase: api.PhDrop, Bit: 3, Word: 4<<32 + low}, false},
		{math.MaxUint64, batch(), api.Op{Bit: 3}, api.Op{Phase: api.PhDrop, Bit: 3, Word: math.MaxUint64}, false},
		{8, batch(), api.Op{Bit: 3, Answer: errs(api.OK), Item: 2, Full: true, At: 2}, api.Op{Phase: api.PhDrop, Bit: 3, Word: 8, Answer: errs(api.OK), Item: 2, Full: true, At: 2}, false},
		// it isn't
		{0, release(), api.Op{Bit: 3}, api.Op{Bit: 3, Answer: err(api.ErrFree)}, true},
		{4<<32 + low - 8, release(), api.Op{Bit: 3, Word: 9, Full: true, At: 2}, api.Op{Bit: 3, Answer: err(api.ErrFree)}, true},
		{low - 1, release(), api.Op{Bit: 0}, api.Op{Bit: 0, Answer: err(api.ErrFree)}, true},
		{math.MaxUint64 - 1<<31, release(), api.Op{Bit: 31}, api.Op{Bit: 31, Answer: err(api.ErrFree)}, true},
		{low - 8, batch(), api.Op{Bit: 3}, api.Op{Phase: api.PhRead, Item: 1, Bit: 31, Answer: errs(api.ErrFree)}, true},
		{0, batch(), api.Op{Bit: 31, Item: 1, Answer: errs(api.OK)}, api.Op{Phase: api.PhRead, Item: 2, Bit: 0, Answer: errs(api.OK, api.ErrFree)}, true},
		{0, batch(), api.Op{Bit: 0, Item: 2, Answer: errs(api.OK, api.ErrFree)}, api.Op{Item: 2, Bit: 0, Answer: errs(api.OK, api.ErrFree, api.ErrFree)}, true},
		{0, api.Ask{Kind: api.Batch, Addrs: []uint32{0x0a010023}}, api.Op{Bit: 3}, api.Op{Bit: 3, Answer: errs(api.ErrFree)}, true},
	} {
		x.o.Phase, x.o.Leaf, x.want.Leaf, x.o.Ask, x.want.Ask = api.PhRead, 1, 1, x.ask, x.ask
		l := []uint64{3, x.w, 5, 6}
		got, o, effect := Step(of(26), l, x.o)
		if !slices.Equal(got, l) || !same(o, x.want) || effect != x.effect {
			t.Errorf("%d: %#x, %+v, %v", i, got, o, effect)
		}
	}
}

func TestDropByHand(t *testing.T) { // P14.1
	for i, x := range []struct {
		w      uint64 // the word of the leaf 1
		ask    api.Ask
		o      api.Op
		then   uint64
		want   api.Op
		effect bool
	}{
		// the cell is Word
		{8, release(), api.Op{Bit: 3, Word: 8}, once, api.Op{Bit: 3}, true},
		{9<<32 + 15, release(), api.Op{Bit: 3, Word: 9<<32 + 15, Answer: err(api.ErrFree), At: 2, Full: true}, 10<<32 + 7, api.Op{Bit: 3}, true},
		{low - 8, release(), api.Op{Bit: 0, Word: low - 8}, once + low - 9, api.Op{Bit: 0}, true},
		{1<<31 + 1, release(), api.Op{Bit: 31, Word: 1<<31 + 1}, once + 1, api.Op{Bit: 31}, true},
		{8, batch(), api.Op{Bit: 3, Word: 8}, once, api.Op{Phase: api.PhRead, Item: 1, Bit: 31, Answer: errs(api.OK)}, true},
		{1 << 31, batch(), api.Op{Bit: 31, Word: 1 << 31, Item: 1, Answer: errs(api.ErrFree)}, once, api.Op{Phase: api.PhRead, Item: 2, Bit: 0, Answer: errs(api.ErrFree, api.OK)}, true},
		{3, batch(), api.Op{Bit: 0, Word: 3, Item: 2, Answer: errs(api.ErrFree, api.OK)}, once + 2, api.Op{Item: 2, Bit: 0, Answer: errs(api.ErrFree, api.OK, api.OK)}, true},
		// Word was full
		{low, release(), api.Op{Bit: 3, Word: low, At: 2, Full: true}, once + low - 8, api.Op{Phase: api.PhMark, Bit: 3}, true},
		{9<<32 + low, release(), api.Op{Bit: 31, Word: 9<<32 + low, Answer: err(api.ErrFree)}, 10<<32 + low>>1, api.Op{Phase: api.PhMark, Bit: 31}, true},
		{low, batch(), api.Op{Bit: 3, Word: low}, once + low - 8, api.Op{Phase: api.PhMark, Bit: 3, Answer: errs(api.OK)}, true},
		{low, batch(), api.Op{Bit: 0, Word: low, Item: 2, Answer: errs(api.OK, api.ErrFree)}, once + low - 1, api.Op{Phase: api.PhMark, Item: 2, Bit: 0, Answer: errs(api.OK, api.ErrFree, api.OK)}, true},
		// it was changed as often as can be told
		{math.MaxUint64, release(), api.Op{Bit: 0, Word: math.MaxUint64}, low - 1, api.Op{Phase: api.PhMark, Bit: 0}, true},
		{math.MaxUint64 - 1, release(), api.Op{Bit: 3, Word: math.MaxUint64 - 1}, low - 9, api.Op{Bit: 3}, true},
		// it isn't Word any more: another bit was dropped, was claimed; the same one was dropped, and claimed again
		{once + 8, release(), api.Op{Bit: 3, Word: 12, At: 2, Full: true}, once + 8, api.Op{Phase: api.PhRead, Bit: 3, At: 2, Full: true}, false},
		{once + 12, release(), api.Op{Bit: 3, Word: 8}, once + 12, api.Op{Phase: api.PhRead, Bit: 3}, false},
		{once, release(), api.Op{Bit: 3, Word: 8, Answer: err(api.ErrFull)}, once, api.Op{Phase: api.PhRead, Bit: 3, Answer: err(api.ErrFull)}, false},
		{2*once + 8, release(), api.Op{Bit: 3, Word: 8}, 2*once + 8, api.Op{Phase: api.PhRead, Bit: 3}, false},
		{2*once + low, batch(), api.Op{Bit: 3, Word: low}, 2*once + low, api.Op{Phase: api.PhRead, Bit: 3}, false},
		{once + 1, batch(), api.Op{Bit: 31, Word: 1<<31 + 1, Item: 1, Answer: errs(api.OK)}, once + 1, api.Op{Phase: api.PhRead, Bit: 31, Item: 1, Answer: errs(api.OK)}, false},
	} {
		x.o.Phase, x.o.Leaf, x.want.Leaf, x.o.Ask, x.want.Ask = api.PhDrop, 1, 1, x.ask, x.ask
		l, o, effect := Step(of(26), []uint64{3, x.w, 5, 6}, x.o)
		if !slices.Equal(l, []uint64{3, x.then, 5, 6}) || !same(o, x.want) || effect != x.effect {
			t.Errorf("%d: %#x, %+v, %v", i, l, o, effect)
		}
	}
}

// Each word, at each bit and leaf of interest, of each block, of each kind.
func TestReadOfEachWord(t *testing.T) { // P14.1, P14.2
	for _, s := range shapes() {
		for _, leaf := range s.some() {
			for _, w := range s.words() {
				for _, bit := range s.own() {
					for _, kind := range kinds() {
						check(t, of(s.prefix), s.holding(leaf, w), whole(kind, api.PhRead, leaf, bit, 99))
					}
				}
			}
		}
	}
}

// Each word: where the cell is it, and where it was changed, by a claim or a drop of that bit
// or of another one, by both, or back to what it was.
func TestDropOfEachWord(t *testing.T) { // P14.1, P14.2
	for _, s := range shapes() {
		for _, leaf := range s.some() {
			for _, w := range s.words() {
				for _, bit := range s.own() {
					checkDrops(t, s, leaf, bit, with(w, bit, true))
					// of a bit that isn't set in Word the chapter's words say no other thing
					checkDrops(t, s, leaf, bit, with(w, bit, false))
				}
			}
		}
	}
}

// checkDrops holds drops of the bit against what is meant, of each kind, of cells that are w
// and that aren't any more.
func checkDrops(t *testing.T, s shape, leaf, bit int, w uint64) {
	t.Helper()
	for _, cell := range []uint64{w, w + once, w + 2*once, dropped(w, bit), claimed(w, 31-bit), dropped(w, 31-bit), w ^ low, 0} {
		for _, kind := range kinds() {
			check(t, of(s.prefix), s.holding(leaf, cell), whole(kind, api.PhDrop, leaf, bit, w))
		}
	}
}

// Of each of a leaf's bits, full and with one other bit left.
func TestDropOfEachBit(t *testing.T) { // P14.1, P14.2
	for bit := range 32 {
		for _, w := range []uint64{low, with(low, (bit+1)%32, false), with(0, bit, true)} {
			for _, kind := range kinds() {
				l := []uint64{3, w, 5, 6}
				check(t, of(26), l, whole(kind, api.PhDrop, 1, bit, w))
				m, o, effect := Step(of(26), l, whole(kind, api.PhDrop, 1, bit, w))
				if !effect || o.Full || (o.Phase == api.PhMark) != (w == low) || m[1] != dropped(w, bit) {
					t.Errorf("the kind %d, the bit %d of %#x: %#x, %+v", kind, bit, w, m, o)
				}
			}
		}
	}
}

// A batch at each of its addresses, with as many errors as it has by then, and with none.
func TestEachAddressOfABatch(t *testing.T) { // P14.1
	c := of(16)
	for _, many := range []int{1, 2, 3, 64} {
		o := api.Op{Ask: api.Ask{Kind: api.Batch}}
		for i := range many {
			o.Ask.Addrs = append(o.Ask.Addrs, base+65535-uint32(i)*1023)
		}
		for item := range many {
			for _, some := range []int{0, item} {
				off := 65535 - item*1023
				o.Item, o.Leaf, o.Bit, o.Answer = item, off/32, off%32, api.Answer{Err: api.ErrBusy, Errs: slices.Repeat([]api.Errno{api.ErrFree}, some)}
				for _, w := range []uint64{with(0, o.Bit, true), 0, low, with(low, o.Bit, false)} {
					l := make([]uint64, 2081)
					l[o.Leaf] = w
					o.Phase, o.Word = api.PhRead, 0
					check(t, c, l, o)
					if o.Phase, o.Word = api.PhDrop, w; digits(w)[o.Bit] {
						check(t, c, l, o)
					}
				}
			}
		}
	}
}

// Which leaf and bit are next hangs on where the block begins; what is dropped doesn't.
func TestBlocksWhereverTheyBegin(t *testing.T) { // P14.1
	for _, s := range shapes() {
		for _, base := range []uint32{0, 0x7fff0000, 0x80000000, uint32(math.MaxUint32) - uint32(s.many) + 1} {
			c := at(of(s.prefix), base)
			if !block.May(c) {
				t.Fatalf("it may not be: %v", c)
			}
			for _, off := range []int{0, s.many - 1, s.many / 2, s.many / 3} {
				for _, kind := range kinds() {
					o := api.Op{Ask: api.Ask{Kind: kind, Addr: base, Addrs: []uint32{base, base + uint32(off)}}, Phase: api.PhRead}
					check(t, c, s.holding(0, 0), o)
					o.Phase, o.Word = api.PhDrop, 5
					check(t, c, s.holding(0, 5), o)
				}
			}
		}
	}
}

// Of a Release the answer's Err alone is told, of a Batch one of its Errs; all else stays.
func TestWhatStaysOfTheAnswer(t *testing.T) { // P14.1
	was := whole(api.Release, api.PhRead, 1, 3, 8).Answer
	for _, x := range []struct {
		kind, phase int
		w, cell     uint64
		want        api.Answer
	}{
		{api.Release, api.PhRead, 99, 8, was},
		{api.Release, api.PhRead, 99, 7, api.Answer{Err: api.ErrFree, Addr: was.Addr, Used: true, Addrs: was.Addrs, Errs: was.Errs}},
		{api.Release, api.PhDrop, 8, 8, api.Answer{Err: api.OK, Addr: was.Addr, Used: true, Addrs: was.Addrs, Errs: was.Errs}},
		{api.Release, api.PhDrop, low, low, api.Answer{Err: api.OK, Addr: was.Addr, Used: true, Addrs: was.Addrs, Errs: was.Errs}},
		{api.Release, api.PhDrop, 8, 9, was},
		{api.Batch, api.PhRead, 99, 8, was},
		{api.Batch, api.PhRead, 99, 7, api.Answer{Err: was.Err, Addr: was.Addr, Used: true, Addrs: was.Addrs, Errs: []api.Errno{api.ErrFull, api.ErrFree}}},
		{api.Batch, api.PhDrop, 8, 8, api.Answer{Err: was.Err, Addr: was.Addr, Used: true, Addrs: was.Addrs, Errs: []api.Errno{api.ErrFull, api.OK}}},
		{api.Batch, api.PhDrop, low, low, api.Answer{Err: was.Err, Addr: was.Addr, Used: true, Addrs: was.Addrs, Errs: []api.Errno{api.ErrFull, api.OK}}},
		{api.Batch, api.PhDrop, 8, 9, was},
	} {
		_, o, _ := Step(of(26), []uint64{3, x.cell, 5, 6}, whole(x.kind, x.phase, 1, 3, x.w))
		if !reflect.DeepEqual(o.Answer, x.want) {
			t.Errorf("%+v: %+v", x, o.Answer)
		}
	}
}

// Of an operation that read, one drop of a bit that was set, and no other cell changes; it
// fails just if the cell changed meanwhile.
func TestAtMostOneDrop(t *testing.T) { // P14.2
	for _, s := range shapes() {
		c := of(s.prefix)
		for _, leaf := range s.some() {
			for i, w := range s.words() {
				bit := s.own()[i%4]
				l := s.holding(leaf, w)
				m, o, effect := Step(c, l, api.Op{Ask: api.Ask{Kind: api.Release}, Phase: api.PhRead, Leaf: leaf, Bit: bit})
				used := digits(w)[bit]
				if !slices.Equal(m, l) || effect == used || (o.Phase == api.PhDrop) != used {
					t.Fatalf("/%d, the leaf %d of %#x, read: %+v, %v", s.prefix, leaf, w, o, effect)
				}
				if !used {
					continue
				}
				now, want := slices.Clone(l), slices.Clone(l)
				want[leaf] = dropped(w, bit)
				if i%2 == 1 {
					now[leaf] = claimed(w, i%32)
					want = slices.Clone(now)
				}
				m, _, effect = Step(c, now, o)
				if !slices.Equal(m, want) || effect != (i%2 == 0) {
					t.Fatalf("/%d, the leaf %d of %#x: %#x, %v", s.prefix, leaf, w, m[leaf], effect)
				}
			}
		}
	}
}

// Another leaf, or a summary, that changed meanwhile is nothing to a drop.
func TestDropLooksAtItsOwnCellAlone(t *testing.T) { // P14.2
	for _, kind := range kinds() {
		for other := range 4 {
			l := []uint64{3, 15, 5, 6}
			if other != 1 {
				l[other] = claimed(l[other], 9)
			}
			want := slices.Clone(l)
			want[1] = once + 7
			m, _, effect := Step(of(26), l, api.Op{Ask: api.Ask{Kind: kind}, Phase: api.PhDrop, Leaf: 1, Bit: 3, Word: 15})
			if !slices.Equal(m, want) || !effect {
				t.Errorf("the cell %d: %#x, %v", other, m, effect)
			}
		}
	}
}

// The bit was dropped and claimed meanwhile: the word's bits are as they were, and the changes
// alone tell. Read again, it is given back.
func TestDroppedAndClaimedMeanwhile(t *testing.T) { // P14.1, P14.2
	for _, kind := range kinds() {
		for _, w := range []uint64{15, low} {
			c, l := of(26), []uint64{3, w, 5, 6}
			_, o, _ := Step(c, l, api.Op{Ask: api.Ask{Kind: kind, Addrs: []uint32{base + 35}}, Phase: api.PhRead, Leaf: 1, Bit: 3})
			l[1] = word.Claim(word.Drop(l[1], 3), 3)
			if l[1] != 2*once+w {
				t.Fatalf("%#x", l[1])
			}
			m, o, effect := Step(c, l, o)
			if !slices.Equal(m, l) || o.Phase != api.PhRead || o.Word != 0 || effect || o.Answer.Err != api.OK || len(o.Answer.Errs) != 0 {
				t.Errorf("%#x, %+v, %v", m, o, effect)
			}
			m, o, _ = Step(c, m, o)
			m, _, effect = Step(c, m, o)
			if m[1] != 3*once+w-8 || !effect {
				t.Errorf("%#x, %v", m, effect)
			}
		}
	}
}

// Two who give one address back: the second one finds it free.
func TestTwoWhoGiveOneAddressBack(t *testing.T) { // P14.1, P14.2
	c := of(26)
	l := []uint64{0, 8, 0, 0}
	begin := api.Op{Ask: release(), Phase: api.PhRead, Leaf: 1, Bit: 3}
	_, one, _ := Step(c, l, begin)
	_, two, _ := Step(c, l, begin)
	l, one, first := Step(c, l, one)
	l, two, second := Step(c, l, two)
	if !first || second || one.Phase != api.PhDone || one.Answer.Err != api.OK || two.Phase != api.PhRead || two.Answer.Err != api.OK {
		t.Fatalf("%+v, %v, %+v, %v", one, first, two, second)
	}
	l, two, second = Step(c, l, two)
	if !second || two.Phase != api.PhDone || two.Answer.Err != api.ErrFree || l[1] != once {
		t.Errorf("%#x, %+v, %v", l[1], two, second)
	}
}

// A batch of a used and a free address: Errs are OK and ErrFree.
func TestABatchOfAUsedAndAFreeAddress(t *testing.T) { // P14.1, the chapter's example
	c := of(30, 0, 3)
	l := word.Cells(c)
	l[0] = word.Claim(l[0], 1)
	o := api.Op{Ask: api.Ask{Kind: api.Batch, Addrs: []uint32{base + 1, base + 2}}, Phase: api.PhRead, Bit: 1}
	for i, want := range []struct {
		phase, item, errs int
		effect            bool
	}{{api.PhDrop, 0, 0, false}, {api.PhRead, 1, 1, true}, {api.PhDone, 1, 2, true}} {
		var effect bool
		l, o, effect = Step(c, l, o)
		if o.Phase != want.phase || o.Item != want.item || len(o.Answer.Errs) != want.errs || effect != want.effect {
			t.Fatalf("%d: %+v, %v", i, o, effect)
		}
	}
	if !slices.Equal(o.Answer.Errs, []api.Errno{api.OK, api.ErrFree}) || o.Answer.Err != api.OK || l[0] != 2*once+low-6 {
		t.Errorf("%#x, %+v", l[0], o)
	}
}

// With nobody else, the last leaf of the greatest block, and of the least one, is given back
// bit by bit: the first drop alone is of a full word.
func TestALeafIsGivenBack(t *testing.T) { // P14.1, P14.2
	for _, s := range shapes() {
		c, leaf := of(s.prefix), s.leaves-1
		l := word.Cells(c)
		for bit := range min(s.many, 32) {
			l[leaf] = word.Claim(l[leaf], bit)
		}
		want := slices.Clone(l)
		for bit := range min(s.many, 32) {
			o := api.Op{Ask: api.Ask{Kind: api.Release}, Phase: api.PhRead, Leaf: leaf, Bit: bit}
			var effect bool
			l, o, _ = Step(c, l, o)
			l, o, effect = Step(c, l, o)
			want[leaf] = dropped(want[leaf], bit)
			if !effect || o.Answer.Err != api.OK || o.Full || (o.Phase == api.PhMark) != (bit == 0) || !slices.Equal(l, want) {
				t.Fatalf("/%d, the bit %d: %#x, %+v", s.prefix, bit, l[leaf], o)
			}
		}
	}
}

// each calls f with operations and words of their leaf, so that each end of a step is come to.
func each(f func(kind, phase int, word, cell uint64)) {
	for _, kind := range kinds() {
		for _, cell := range []uint64{15, low, 7, low - 8} {
			f(kind, api.PhRead, 99, cell)
			f(kind, api.PhDrop, with(cell, 3, true), cell)
		}
		f(kind, api.PhDone, 15, 15)
	}
	f(api.Query, api.PhDrop, 15, 15)
}

func TestWhatIsHandedInStays(t *testing.T) { // P14.3
	each(func(kind, phase int, w, cell uint64) {
		c := of(26, roomy(9, 1, 2)...)
		l := roomy(77, 3, cell, 5, 6)
		o, was := whole(kind, phase, 1, 3, w), whole(kind, phase, 1, 3, w)
		Step(c, l, o)
		if !slices.Equal(l[:6], []uint64{3, cell, 5, 6, 77, 77}) || !slices.Equal(c.Held[:4], []int{1, 2, 9, 9}) {
			t.Errorf("%+v: cells, or Held, changed: %#x, %v", was, l[:6], c.Held[:4])
		}
		if !reflect.DeepEqual(o, was) || !reflect.DeepEqual(rooms(o), rooms(was)) {
			t.Errorf("%+v changed: %+v", was, o)
		}
	})
}

// fill writes x into a list, and into the room behind it.
func fill[T any](l []T, x T) {
	for i := range l[:cap(l)] {
		l[:cap(l)][i] = x
	}
}

// scrawl writes into all that an answer has for itself: not into the request's.
func scrawl(o api.Op) {
	fill(o.Answer.Addrs, 1234)
	fill(o.Answer.Errs, 1234)
	fill(o.Seen, 1234)
}

// The lists of an answer are its own, but the request's; so are cells that were written.
func TestWhatIsAnsweredIsNewMemory(t *testing.T) { // P14.3
	each(func(kind, phase int, w, cell uint64) {
		l := roomy(77, 3, cell, 5, 6)
		o, was := whole(kind, phase, 1, 3, w), whole(kind, phase, 1, 3, w)
		m, one, _ := Step(of(26), l, o)
		n, other, _ := Step(of(26), l, o)
		then := slices.Clone(n)
		_, again, _ := Step(of(26), l, o)
		scrawl(one)
		if !slices.Equal(m, l) {
			fill(m, 1234)
		}
		if !reflect.DeepEqual(o, was) || !reflect.DeepEqual(rooms(o), rooms(was)) {
			t.Errorf("%+v: a write into the answer shows in what was handed in: %+v", was, o)
		}
		if !slices.Equal(l[:6], []uint64{3, cell, 5, 6, 77, 77}) || !slices.Equal(n, then) {
			t.Errorf("%+v: a write into the answer's cells shows in others", was)
		}
		if slices.Contains(other.Answer.Errs, 1234) || slices.Contains(other.Answer.Addrs, 1234) || slices.Contains(other.Seen, 1234) || !same(other, again) {
			t.Errorf("%+v: a write into an answer shows in another one: %+v", was, other)
		}
	})
}

// Two operations that went on from one, by different ends, don't share the room of its Errs.
func TestOperationsThatPartDontShareErrs(t *testing.T) { // P14.3
	o := whole(api.Batch, api.PhRead, 1, 3, 99)
	_, free, _ := Step(of(26), []uint64{3, 7, 5, 6}, o)
	o.Phase, o.Word = api.PhDrop, 15
	_, gone, _ := Step(of(26), []uint64{3, 15, 5, 6}, o)
	if !slices.Equal(free.Answer.Errs, []api.Errno{api.ErrFull, api.ErrFree}) || !slices.Equal(gone.Answer.Errs, []api.Errno{api.ErrFull, api.OK}) {
		t.Errorf("%v, %v", free.Answer.Errs, gone.Answer.Errs)
	}
}

// Two lists of one answer share nothing, though those that were handed in did.
func TestNoTwoListsOfAnAnswerShareMemory(t *testing.T) { // P14.3
	for _, phase := range []int{api.PhRead, api.PhDrop} {
		for _, w := range []uint64{7, 15, low} {
			one, seen := []uint32{base + 5, base + 6}, []uint64{3, w, 5, 6}
			o := api.Op{Ask: api.Ask{Kind: api.Batch, Addrs: one}, Answer: api.Answer{Addrs: one}, Phase: phase, Leaf: 1, Bit: 3, Word: w, Seen: seen}
			_, got, _ := Step(of(26), seen, o)
			scrawl(got)
			if !slices.Equal(one, []uint32{base + 5, base + 6}) || !slices.Equal(seen, []uint64{3, w, 5, 6}) {
				t.Errorf("the phase %d: %v, %v", phase, one, seen)
			}
		}
	}
}

// Nil and empty lists are one, handed in and answered.
func TestNilAndEmptyLists(t *testing.T) { // P14.1
	for _, kind := range kinds() {
		for _, phase := range []int{api.PhRead, api.PhDrop} {
			for _, w := range []uint64{0, 1, low} {
				o := api.Op{Ask: api.Ask{Kind: kind}, Phase: phase, Leaf: 1, Word: w | 1}
				e := o
				e.Ask.Addrs, e.Answer.Addrs, e.Answer.Errs, e.Seen = []uint32{}, []uint32{}, []api.Errno{}, []uint64{}
				l := []uint64{3, w, 5, 6}
				m, a, x := Step(of(26), l, o)
				n, b, y := Step(of(26), l, e)
				if !slices.Equal(m, n) || !same(a, b) || x != y {
					t.Errorf("%+v, %+v", a, b)
				}
			}
		}
	}
}

func TestAnswersHangOnArgumentsAlone(t *testing.T) { // P14.1
	for range 3 {
		each(func(kind, phase int, w, cell uint64) {
			if kind != api.Query && phase != api.PhDone {
				check(t, of(26), []uint64{3, cell, 5, 6}, whole(kind, phase, 1, 3, w))
			}
		})
	}
}

// The chapter promises nothing of these but that the calls end and don't panic; of another
// kind or phase all stays.
func TestNothingPanics(t *testing.T) { // P1
	odd := []int{math.MinInt, -65536, -64, -1, 0, 1, 2, 9, 31, 32, 64, 2048, 65536, math.MaxInt}
	for _, c := range []api.Conf{{}, of(27), of(16, -1), of(-1, 3), of(33, 65), of(math.MaxInt, math.MaxInt), of(math.MinInt, math.MinInt)} {
		for _, leaf := range odd {
			for _, n := range odd {
				for _, kind := range []int{math.MinInt, -1, 0, 1, 2, 3, 4, 5, 6, 7, 8, math.MaxInt} {
					for _, phase := range []int{math.MinInt, -1, 0, 1, 2, 3, 4, 5, 6, 7, 8, 9, 10, math.MaxInt} {
						o := api.Op{Ask: api.Ask{Kind: kind, Addrs: []uint32{0, 1 << 31, math.MaxUint32}}, Phase: phase, Leaf: leaf, Bit: n, At: n, Item: n, Word: 5}
						for _, l := range [][]uint64{nil, {5}, {5, math.MaxUint64, 5}} {
							m, p, effect := Step(c, l, o)
							gives := (kind == 3 || kind == 4) && (phase == 8 || phase == 9)
							if !gives && (!slices.Equal(m, l) || !same(p, o) || effect) {
								t.Fatalf("the kind %d, the phase %d: %#x, %+v", kind, phase, m, p)
							}
						}
					}
				}
			}
		}
	}
}

package claim

import (
	"math"
	"reflect"
	"slices"
	"testing"

	"lodger/api"
	"lodger/block"
	"lodger/hint"
	"lodger/word"
)

// low are a leaf's bits, all set; once is one change of it.
const (
	low  = uint64(1)<<32 - 1
	once = uint64(1) << 32
)

// of answers a configuration of that prefix, of so many shards, and those reserved offsets.
func of(prefix, shards int, held ...int) api.Conf {
	return api.Conf{Block: api.Block{Base: 0x0a010000, Prefix: prefix}, Held: held, Shards: shards, Workers: 3, Queue: 4, Tries: 5}
}

// at answers that configuration with another Base.
func at(c api.Conf, base uint32) api.Conf {
	c.Block.Base = base
	return c
}

// shape is what a block of a prefix has, written down by hand.
type shape struct{ prefix, many, leaves, cells int }

func shapes() []shape {
	return []shape{
		{32, 1, 1, 3}, {31, 2, 1, 3}, {30, 4, 1, 3}, {28, 16, 1, 3}, {27, 32, 1, 3}, {26, 64, 2, 4},
		{24, 256, 8, 10}, {21, 2048, 64, 66}, {20, 4096, 128, 131}, {16, 65536, 2048, 2081},
	}
}

// some are the first and the last leaf, and some between.
func (s shape) some() []int {
	l := []int{0, s.leaves - 1, s.leaves / 2}
	for _, leaf := range []int{1, 63, 64, 127, 1000} {
		if leaf < s.leaves {
			l = append(l, leaf)
		}
	}
	return l
}

// beyond are the bits of a leaf that are no offset's: of blocks of less than a leaf alone.
func (s shape) beyond() uint64 {
	w := uint64(0)
	for bit := s.many; bit < 32; bit++ {
		w = with(w, bit, true)
	}
	return w
}

// filled are as many cells as there are, of a fixed rule, each another word.
func (s shape) filled(w uint64) []uint64 {
	l := make([]uint64, s.cells)
	for i := range l {
		w = w*6364136223846793005 + 1442695040888963407
		l[i] = w
	}
	return l
}

// holding are these cells, but with w in the leaf.
func (s shape) holding(leaf int, w uint64) []uint64 {
	l := s.filled(uint64(leaf) + 7)
	l[leaf] = w
	return l
}

// digits writes w as 64 bools, the lowest bit first, by division alone, so that the tests
// hold the package's words against something else.
func digits(w uint64) [64]bool {
	var d [64]bool
	for i := range d {
		d[i] = w%2 == 1
		w /= 2
	}
	return d
}

// with is w whose bit is so.
func with(w uint64, bit int, is bool) uint64 {
	d := digits(w)
	d[bit] = is
	w = 0
	for i := range d {
		w *= 2
		if d[63-i] {
			w++
		}
	}
	return w
}

// least is the least of the lowest 32 bits that isn't set, or 32.
func least(w uint64) int {
	d := digits(w)
	for i := range 32 {
		if !d[i] {
			return i
		}
	}
	return 32
}

// claimed is w with the bit set, changed once more.
func claimed(w uint64, bit int) uint64 { return with(w, bit, true) + once }

// words are leaves' words: changed never, often, and as often as can be; empty, full, with
// one bit left, with one set, with the first or the last ones set.
func words() []uint64 {
	var l []uint64
	for _, changed := range []uint64{0, 1, 5, 1 << 31, 1<<32 - 1} {
		for _, bits := range []uint64{0, low, 0x55555555, 0xaaaaaaaa, 0x0000ffff, 0xffff0000, 0x7ffffffe} {
			l = append(l, changed*once+bits)
		}
		for bit := range 32 {
			l = append(l, changed*once+with(low, bit, false), changed*once+with(0, bit, true))
		}
	}
	return l
}

// words are, of a block of two leaves, all of these words, of others some, since each is held
// against all cells.
func (s shape) words() []uint64 {
	if s.prefix == 26 {
		return words()
	}
	return []uint64{0, 1, low, low - 1, low >> 1, 5*once + 0x55555555, 1<<63 + low - 1, math.MaxUint64, math.MaxUint64 - 1<<31}
}

// kinds are those that there are, and some that there aren't.
func kinds() []int { return []int{math.MinInt, -1, 0, 1, 2, 3, 4, 5, 6, 7, 8, 257, math.MaxInt} }

// whole is an operation none of whose fields is zero, with lists that have room behind them.
func whole(kind, phase, leaf, bit int, w uint64) api.Op {
	return api.Op{
		Ask:    api.Ask{Kind: kind, Addr: 0x0a010003, Addrs: roomy(77, uint32(0x0a010005), 0x0a010006)},
		Answer: api.Answer{Err: api.ErrRetry, Addr: 0x0a010007, Used: true, Addrs: roomy(77, uint32(4), 5), Errs: roomy(api.ErrBusy, api.ErrFree, api.OK)},
		Phase:  phase, Shard: 1, Sought: 1, Leaf: leaf, Bit: bit, Word: w, Full: true,
		Seen: roomy(77, uint64(21), 22, 23), At: 3, Tries: 3, Item: 1, Stamp: 8,
	}
}

// roomy is l with such a one behind its length, so that a write there shows.
func roomy[T any](room T, l ...T) []T { return append(slices.Clone(l), room, room)[:len(l)] }

// rooms are the operation's lists with the room behind them.
func rooms(o api.Op) []any {
	return []any{o.Ask.Addrs[:4], o.Answer.Addrs[:4], o.Answer.Errs[:4], o.Seen[:5]}
}

// same tells whether the operations are, nil and empty lists being one.
func same(a, b api.Op) bool {
	for _, o := range []*api.Op{&a, &b} {
		o.Ask.Addrs = append([]uint32(nil), o.Ask.Addrs...)
		o.Answer.Addrs = append([]uint32(nil), o.Answer.Addrs...)
		o.Answer.Errs = append([]api.Errno(nil), o.Answer.Errs...)
		o.Seen = append([]uint64(nil), o.Seen...)
	}
	return reflect.DeepEqual(a, b)
}

// meant is what a step makes, from the chapter's words.
func meant(c api.Conf, l []uint64, o api.Op) ([]uint64, api.Op, bool) {
	l = slices.Clone(l)
	if o.Phase == api.PhLook {
		if bit := least(l[o.Leaf]); bit < 32 {
			o.Word, o.Bit, o.Phase = l[o.Leaf], bit, api.PhClaim
			return l, o, false
		}
		o.Sought, o.Word, o.At, o.Phase = o.Sought+1, 0, 0, api.PhSeek
		if o.Sought >= c.Shards {
			o.Phase, o.Seen = api.PhFirst, nil
		}
		return l, o, false
	}
	if l[o.Leaf] != o.Word {
		o.Phase, o.Word = api.PhRead, 0
		if o.Ask.Kind == 1 {
			o.Phase = api.PhLook
		}
		return l, o, false
	}
	l[o.Leaf] = claimed(o.Word, o.Bit)
	o.Answer.Addr = c.Block.Base + uint32(32*o.Leaf+o.Bit)
	if least(l[o.Leaf]) < 32 {
		return l, hint.Goes(c, o), true
	}
	o.Phase, o.Full, o.At, o.Word = api.PhMark, true, 0, 0
	return l, o, true
}

// check holds a step against what is meant.
func check(t *testing.T, c api.Conf, l []uint64, o api.Op) {
	t.Helper()
	wl, wo, wt := meant(c, l, o)
	gl, got, effect := Step(c, l, o)
	if !slices.Equal(gl, wl) || !same(got, wo) || effect != wt {
		t.Fatalf("/%d, the leaf's word %#x, %+v:\n%+v, %v, not\n%+v, %v, or other cells", c.Block.Prefix, l[o.Leaf], o, got, effect, wo, wt)
	}
}

func TestTheConfigurationsMayBe(t *testing.T) {
	for _, s := range shapes() {
		for _, shards := range []int{1, 2, 64} {
			if c := of(s.prefix, shards, 0); !block.May(c) || block.Many(c.Block) != s.many {
				t.Errorf("%v", c)
			}
		}
	}
}

// Of a block of two leaves: its cells are these, the top, the root.
func TestLookByHand(t *testing.T) { // P13.1
	for i, x := range []struct {
		w    uint64 // the word of the leaf 1
		o    api.Op
		want api.Op
	}{
		// a bit isn't set
		{0, api.Op{Phase: api.PhLook, Leaf: 1}, api.Op{Phase: api.PhClaim, Leaf: 1}},
		{7, api.Op{Phase: api.PhLook, Leaf: 1}, api.Op{Phase: api.PhClaim, Leaf: 1, Bit: 3, Word: 7}},
		{low - 1, api.Op{Phase: api.PhLook, Leaf: 1, Bit: 9, Word: 5}, api.Op{Phase: api.PhClaim, Leaf: 1, Word: low - 1}},
		{low >> 1, api.Op{Phase: api.PhLook, Leaf: 1}, api.Op{Phase: api.PhClaim, Leaf: 1, Bit: 31, Word: low >> 1}},
		{4<<32 + 0xfffffffd, api.Op{Phase: api.PhLook, Leaf: 1, Sought: 1}, api.Op{Phase: api.PhClaim, Leaf: 1, Sought: 1, Bit: 1, Word: 4<<32 + 0xfffffffd}},
		{math.MaxUint64 - 1<<31, api.Op{Phase: api.PhLook, Leaf: 1, At: 2}, api.Op{Phase: api.PhClaim, Leaf: 1, At: 2, Bit: 31, Word: math.MaxUint64 - 1<<31}},
		// all are: Sought, of three shards
		{low, api.Op{Phase: api.PhLook, Leaf: 1, Bit: 6, At: 2, Word: 8}, api.Op{Phase: api.PhSeek, Leaf: 1, Bit: 6, Sought: 1}},
		{math.MaxUint64, api.Op{Phase: api.PhLook, Leaf: 1, Sought: 1, Seen: []uint64{5}}, api.Op{Phase: api.PhSeek, Leaf: 1, Sought: 2, Seen: []uint64{5}}},
		{low, api.Op{Phase: api.PhLook, Leaf: 1, Sought: 2, At: 1, Word: 3, Seen: []uint64{5}}, api.Op{Phase: api.PhFirst, Leaf: 1, Sought: 3}},
		{low, api.Op{Phase: api.PhLook, Leaf: 1, Sought: 3, Seen: []uint64{5, 6}}, api.Op{Phase: api.PhFirst, Leaf: 1, Sought: 4}},
		{7<<32 + low, api.Op{Phase: api.PhLook, Leaf: 1, Sought: 1000}, api.Op{Phase: api.PhFirst, Leaf: 1, Sought: 1001}},
	} {
		l := []uint64{3, x.w, 5, 6}
		got, o, effect := Step(of(26, 3), l, x.o)
		if !slices.Equal(got, l) || !same(o, x.want) || effect {
			t.Errorf("%d: %#x, %+v, %v", i, got, o, effect)
		}
	}
}

// Of the same block: the leaf 1 has the offsets from 32 on.
func TestClaimByHand(t *testing.T) { // P13.1
	grant, exact := api.Ask{Kind: api.Grant}, api.Ask{Kind: api.Exact, Addr: 0x0a010023}
	for i, x := range []struct {
		w      uint64 // the word of the leaf 1
		o      api.Op
		then   uint64
		want   api.Op
		effect bool
	}{
		// the cell is Word
		{0, api.Op{Ask: grant, Bit: 0}, once + 1, api.Op{Bit: 0, Answer: api.Answer{Addr: 0x0a010020}}, true},
		{0, api.Op{Ask: grant, Bit: 31}, once + 1<<31, api.Op{Bit: 31, Answer: api.Answer{Addr: 0x0a01003f}}, true},
		{7, api.Op{Ask: exact, Bit: 3, Word: 7, At: 4, Full: true}, once + 15, api.Op{Bit: 3, Answer: api.Answer{Addr: 0x0a010023}}, true},
		{low - 3, api.Op{Ask: grant, Bit: 1, Word: low - 3}, once + low - 1, api.Op{Bit: 1, Answer: api.Answer{Addr: 0x0a010021}}, true},
		// it is full then
		{low - 1, api.Op{Ask: grant, Bit: 0, Word: low - 1, At: 4}, once + low, api.Op{Phase: api.PhMark, Full: true, Bit: 0, Answer: api.Answer{Addr: 0x0a010020}}, true},
		{9<<32 + low>>1, api.Op{Ask: exact, Bit: 31, Word: 9<<32 + low>>1}, 10<<32 + low, api.Op{Phase: api.PhMark, Full: true, Bit: 31, Answer: api.Answer{Addr: 0x0a01003f}}, true},
		// it was changed as often as can be told
		{math.MaxUint64 - 1, api.Op{Ask: grant, Bit: 0, Word: math.MaxUint64 - 1}, low, api.Op{Phase: api.PhMark, Full: true, Bit: 0, Answer: api.Answer{Addr: 0x0a010020}}, true},
		{math.MaxUint64 - 3, api.Op{Ask: grant, Bit: 0, Word: math.MaxUint64 - 3}, low - 2, api.Op{Bit: 0, Answer: api.Answer{Addr: 0x0a010020}}, true},
		// it isn't Word any more
		{once + 15, api.Op{Ask: grant, Bit: 3, Word: 7, At: 4, Full: true}, once + 15, api.Op{Phase: api.PhLook, Bit: 3, At: 4, Full: true}, false},
		{once + 15, api.Op{Ask: exact, Bit: 3, Word: 7}, once + 15, api.Op{Phase: api.PhRead, Bit: 3}, false},
		{once + 3, api.Op{Ask: grant, Bit: 3, Word: 7}, once + 3, api.Op{Phase: api.PhLook, Bit: 3}, false},
		{2*once + 7, api.Op{Ask: grant, Bit: 3, Word: 7}, 2*once + 7, api.Op{Phase: api.PhLook, Bit: 3}, false},
		{2*once + 7, api.Op{Ask: exact, Bit: 3, Word: 7}, 2*once + 7, api.Op{Phase: api.PhRead, Bit: 3}, false},
	} {
		x.o.Phase, x.o.Leaf, x.want.Ask, x.want.Leaf = api.PhClaim, 1, x.o.Ask, 1
		l, o, effect := Step(of(26, 3), []uint64{3, x.w, 5, 6}, x.o)
		if !slices.Equal(l, []uint64{3, x.then, 5, 6}) || !same(o, x.want) || effect != x.effect {
			t.Errorf("%d: %#x, %+v, %v", i, l, o, effect)
		}
	}
}

// Each word, in each phase, at each leaf of interest, of each block.
func TestLookOfEachWord(t *testing.T) { // P13.1, P13.2
	for _, s := range shapes() {
		for _, leaf := range s.some() {
			for _, w := range s.words() {
				for _, sought := range []int{0, 1, 2, 1000} {
					o := whole(api.Grant, api.PhLook, leaf, 17, 99)
					o.Sought = sought
					check(t, of(s.prefix, 3), s.holding(leaf, w), o)
				}
			}
		}
	}
}

// The last leaf's bits behind the last address are set, so that it is full with fewer lent.
func TestTheLastLeafIsFullWhenItsOwnBitsAre(t *testing.T) { // P13.1
	for _, s := range shapes() {
		c, leaf := of(s.prefix, 1), s.leaves-1
		own := min(s.many, 32)
		w := s.beyond()
		for bit := range own {
			l, o, effect := Step(c, s.holding(leaf, w), api.Op{Ask: api.Ask{Kind: api.Grant}, Phase: api.PhLook, Leaf: leaf})
			if o.Phase != api.PhClaim || o.Bit != bit || o.Word != w || effect {
				t.Fatalf("/%d, %d bits set: %+v", s.prefix, bit, o)
			}
			_, o, effect = Step(c, l, o)
			if full := bit == own-1; !effect || o.Full != full || (o.Phase == api.PhMark) != full || o.Answer.Addr != c.Block.Base+uint32(s.many-own+bit) {
				t.Fatalf("/%d, the bit %d claimed: %+v", s.prefix, bit, o)
			}
			w = claimed(w, bit)
		}
		if _, o, _ := Step(c, s.holding(leaf, w), api.Op{Ask: api.Ask{Kind: api.Grant}, Phase: api.PhLook, Leaf: leaf}); o.Phase != api.PhFirst || o.Sought != 1 {
			t.Errorf("/%d, all set: %+v", s.prefix, o)
		}
	}
}

// Reserved offsets' bits are set in the first words, so that none of these is found.
func TestLookPassesReservedOffsets(t *testing.T) { // P13.1
	for _, x := range []struct {
		held []int
		leaf int
		bit  int // 32: none
	}{
		{nil, 0, 0}, {[]int{0}, 0, 1}, {[]int{0, 1, 2, 5}, 0, 3}, {[]int{1, 2}, 0, 0}, {[]int{0, 63}, 1, 0}, {[]int{32, 33, 63}, 1, 2},
		{row(0, 31), 0, 31}, {row(0, 32), 0, 32}, {row(32, 32), 1, 32}, {row(32, 32), 0, 0}, {row(33, 31), 1, 0},
	} {
		c := of(26, 2, x.held...)
		_, o, _ := Step(c, word.Cells(c), api.Op{Ask: api.Ask{Kind: api.Grant}, Phase: api.PhLook, Leaf: x.leaf})
		if x.bit == 32 && o.Phase != api.PhSeek || x.bit < 32 && (o.Phase != api.PhClaim || o.Bit != x.bit) {
			t.Errorf("%v, the leaf %d: %+v", x.held, x.leaf, o)
		}
	}
}

// row are the n numbers from first on.
func row(first, n int) []int {
	var l []int
	for i := range n {
		l = append(l, first+i)
	}
	return l
}

// Sought, one more, is held against the shards, however many there are.
func TestLookAtAFullLeafGoesToTheNextShard(t *testing.T) { // P13.1
	for _, shards := range []int{1, 2, 3, 7, 63, 64} {
		for _, sought := range append(row(0, 130), 999, 1000) {
			o := whole(api.Grant, api.PhLook, 1, 4, 99)
			o.Sought = sought
			l := []uint64{3, low, 5, 6}
			check(t, of(26, shards), l, o)
			_, got, _ := Step(of(26, shards), l, o)
			if seeks := sought+1 < shards; got.Sought != sought+1 || (got.Phase == api.PhSeek) != seeks || (got.Phase == api.PhFirst) == seeks || (len(got.Seen) == 0) == seeks {
				t.Fatalf("%d shards, %d sought: %+v", shards, sought, got)
			}
		}
	}
}

// Each bit of each word: where the cell is Word, where it isn't, of each kind.
func TestClaimOfEachWord(t *testing.T) { // P13.1, P13.2
	for _, s := range shapes() {
		own := min(s.many, 32)
		for _, leaf := range s.some() {
			for _, w := range s.words() {
				for _, bit := range []int{0, own / 2, own - 1} {
					for _, cell := range []uint64{w, w + once, with(w, bit, !digits(w)[bit]), claimed(w, 31-bit), w ^ low, 0} {
						for _, kind := range []int{api.Grant, api.Exact} {
							check(t, of(s.prefix, 3), s.holding(leaf, cell), whole(kind, api.PhClaim, leaf, bit, w))
						}
					}
				}
			}
		}
	}
}

// A Grant alone looks again; each other kind reads again.
func TestClaimThatFailsOfEachKind(t *testing.T) { // P13.1
	for _, kind := range kinds() {
		want := api.PhRead
		if kind == 1 {
			want = api.PhLook
		}
		l := []uint64{3, once + 1, 5, 6}
		m, o, effect := Step(of(26, 3), l, whole(kind, api.PhClaim, 1, 0, 0))
		if !slices.Equal(m, l) || o.Phase != want || o.Word != 0 || effect {
			t.Errorf("the kind %d: %#x, %+v", kind, m, o)
		}
		check(t, of(26, 3), l, whole(kind, api.PhClaim, 1, 0, 0))
	}
}

// Of each kind a claim that makes its leaf full is marked; another one goes on, which is for
// a batch its further address.
func TestClaimOfEachKind(t *testing.T) { // P13.1
	for _, kind := range kinds() {
		for item := range 3 {
			for _, w := range []uint64{0, low - 1} {
				o := whole(kind, api.PhClaim, 1, 0, w)
				o.Item = item
				check(t, of(26, 3), []uint64{3, w, 5, 6}, o)
				want := api.PhDone
				if w != 0 {
					want = api.PhMark
				} else if kind == 4 && item == 0 {
					want = api.PhRead
				}
				if _, got, effect := Step(of(26, 3), []uint64{3, w, 5, 6}, o); got.Phase != want || !effect {
					t.Errorf("the kind %d, the item %d, %#x: %+v", kind, item, w, got)
				}
			}
		}
	}
}

// The address is the Leaf's Bit's, wherever the block begins.
func TestClaimAnswersTheAddress(t *testing.T) { // P13.1
	for _, s := range shapes() {
		for _, base := range []uint32{0, 0x0a010000, 0x7fff0000, 0x80000000, uint32(math.MaxUint32) - uint32(s.many) + 1} {
			c := at(of(s.prefix, 3), base)
			if !block.May(c) {
				t.Fatalf("it may not be: %v", c)
			}
			for _, off := range []int{0, s.many - 1, s.many / 2, s.many / 3, min(31, s.many-1), min(32, s.many-1)} {
				l := make([]uint64, s.cells)
				_, o, effect := Step(c, l, api.Op{Ask: api.Ask{Kind: api.Grant}, Phase: api.PhClaim, Leaf: off / 32, Bit: off % 32})
				if !effect || o.Answer.Addr != base+uint32(off) || o.Answer.Err != api.OK {
					t.Errorf("%#x/%d, the offset %d: %+v", base, s.prefix, off, o)
				}
			}
		}
	}
}

// Of an operation that looked, one claim of a bit that wasn't set, and no other cell changes;
// it fails just if the cell changed meanwhile.
func TestAtMostOneClaim(t *testing.T) { // P13.2
	for _, s := range shapes() {
		c := of(s.prefix, 2)
		for _, leaf := range s.some() {
			for i, w := range s.words() {
				w |= s.beyond()
				l := s.holding(leaf, w)
				m, o, effect := Step(c, l, api.Op{Ask: api.Ask{Kind: api.Grant}, Phase: api.PhLook, Leaf: leaf})
				if !slices.Equal(m, l) || effect {
					t.Fatalf("/%d, the leaf %d of %#x: looking changed a cell, or took effect", s.prefix, leaf, w)
				}
				if o.Phase != api.PhClaim {
					continue
				}
				if digits(o.Word)[o.Bit] {
					t.Fatalf("/%d, the leaf %d of %#x: the bit %d is set", s.prefix, leaf, w, o.Bit)
				}
				now := slices.Clone(l)
				if i%2 == 1 {
					now[leaf] = claimed(w, i%32)
				}
				m, _, effect = Step(c, now, o)
				want := slices.Clone(now)
				if i%2 == 0 {
					want[leaf] = claimed(w, o.Bit)
				}
				if !slices.Equal(m, want) || effect != (i%2 == 0) {
					t.Fatalf("/%d, the leaf %d of %#x: %#x, %v", s.prefix, leaf, w, m[leaf], effect)
				}
			}
		}
	}
}

// Another leaf, or a summary, that changed meanwhile is nothing to a claim.
func TestClaimLooksAtItsOwnCellAlone(t *testing.T) { // P13.2
	for other := range 4 {
		l := []uint64{3, 7, 5, 6}
		if other != 1 {
			l[other] = claimed(l[other], 9)
		}
		want := slices.Clone(l)
		want[1] = claimed(7, 3)
		m, _, effect := Step(of(26, 2), l, api.Op{Ask: api.Ask{Kind: api.Grant}, Phase: api.PhClaim, Leaf: 1, Bit: 3, Word: 7})
		if !slices.Equal(m, want) || !effect {
			t.Errorf("the cell %d: %#x, %v", other, m, effect)
		}
	}
}

// The bit was claimed and dropped meanwhile: the word's bits are as they were, and the changes
// alone tell.
func TestClaimedAndDroppedMeanwhile(t *testing.T) { // P13.2
	c := of(26, 2)
	l := []uint64{3, 7, 5, 6}
	_, o, _ := Step(c, l, api.Op{Ask: api.Ask{Kind: api.Grant}, Phase: api.PhLook, Leaf: 1})
	l[1] = word.Drop(word.Claim(l[1], o.Bit), o.Bit)
	if l[1] != 2*once+7 {
		t.Fatalf("%#x", l[1])
	}
	m, o, effect := Step(c, l, o)
	if !slices.Equal(m, l) || o.Phase != api.PhLook || o.Word != 0 || effect {
		t.Errorf("%#x, %+v, %v", m, o, effect)
	}
}

// Two who read one word, and claim one bit: the second one looks again, and has the next bit.
func TestTwoWhoClaimOneBit(t *testing.T) { // P13.1, P13.2, the chapter's example
	c := of(30, 1)
	l := word.Cells(c)
	begin := api.Op{Ask: api.Ask{Kind: api.Grant}, Phase: api.PhLook}
	_, one, _ := Step(c, l, begin)
	_, two, _ := Step(c, l, begin)
	if !same(one, two) || one.Phase != api.PhClaim || one.Bit != 0 {
		t.Fatalf("%+v, %+v", one, two)
	}
	l, one, first := Step(c, l, one)
	l, two, second := Step(c, l, two)
	if !first || second || one.Phase != api.PhDone || one.Answer.Addr != 0x0a010000 || two.Phase != api.PhLook || two.Answer.Addr != 0 {
		t.Fatalf("%+v, %v, %+v, %v", one, first, two, second)
	}
	l, two, _ = Step(c, l, two)
	l, two, second = Step(c, l, two)
	if !second || two.Phase != api.PhDone || two.Answer.Addr != 0x0a010001 || l[0] != 2*once+low-12 {
		t.Errorf("%#x, %+v, %v", l[0], two, second)
	}
}

// With nobody else, a leaf is claimed bit by bit until it is full.
func TestALeafIsFilled(t *testing.T) { // P13.1, P13.2
	c := of(16, 64)
	s := shape{16, 65536, 2048, 2081}
	for _, leaf := range s.some() {
		l := word.Cells(c)
		for bit := range 32 {
			o := api.Op{Ask: api.Ask{Kind: api.Grant}, Phase: api.PhLook, Leaf: leaf}
			var effect bool
			l, o, _ = Step(c, l, o)
			l, o, effect = Step(c, l, o)
			if !effect || o.Answer.Addr != c.Block.Base+uint32(32*leaf+bit) || (o.Phase == api.PhMark) != (bit == 31) {
				t.Fatalf("the leaf %d, the bit %d: %+v", leaf, bit, o)
			}
		}
		want := word.Cells(c)
		want[leaf] = 32*once + low
		if !slices.Equal(l, want) {
			t.Errorf("the leaf %d: %#x, or other cells", leaf, l[leaf])
		}
	}
}

// each calls f with operations, of a Batch, a Grant and an Exact, and words of their leaf, so
// that each end of a step is come to.
func each(f func(kind, phase, sought int, word, cell uint64)) {
	for _, kind := range []int{api.Grant, api.Exact, api.Batch} {
		for _, cell := range []uint64{7, low, low - 8} {
			for _, sought := range []int{0, 5} {
				f(kind, api.PhLook, sought, 99, cell)
			}
			f(kind, api.PhClaim, 0, cell, cell)
			f(kind, api.PhClaim, 0, cell, claimed(cell, 5))
		}
	}
	f(api.Grant, api.PhDone, 0, 7, 7)
}

// held is an operation for it; held again, it is the same.
func held(kind, phase, sought int, w uint64) api.Op {
	o := whole(kind, phase, 1, 3, w)
	o.Sought, o.Item = sought, 0
	return o
}

func TestWhatIsHandedInStays(t *testing.T) { // P13.3
	each(func(kind, phase, sought int, w, cell uint64) {
		c := of(26, 3, roomy(9, 1, 2)...)
		l := roomy(77, 3, cell, 5, 6)
		o, was := held(kind, phase, sought, w), held(kind, phase, sought, w)
		Step(c, l, o)
		if !slices.Equal(l[:6], []uint64{3, cell, 5, 6, 77, 77}) || !slices.Equal(c.Held[:4], []int{1, 2, 9, 9}) {
			t.Errorf("%+v: cells, or Held, changed: %#x, %v", was, l[:6], c.Held[:4])
		}
		if !reflect.DeepEqual(o, was) || !reflect.DeepEqual(rooms(o), rooms(was)) {
			t.Errorf("%+v changed: %+v", was, o)
		}
	})
}

// fill writes x into a list, and into the room behind it.
func fill[T any](l []T, x T) {
	for i := range l[:cap(l)] {
		l[:cap(l)][i] = x
	}
}

// scrawl writes into all that an answer has for itself: not into the request's.
func scrawl(o api.Op) {
	fill(o.Answer.Addrs, 1234)
	fill(o.Answer.Errs, 1234)
	fill(o.Seen, 1234)
}

// The lists of an answer are its own, but the request's; so are cells that were written.
func TestWhatIsAnsweredIsNewMemory(t *testing.T) { // P13.3
	each(func(kind, phase, sought int, w, cell uint64) {
		l := roomy(77, 3, cell, 5, 6)
		o, was := held(kind, phase, sought, w), held(kind, phase, sought, w)
		m, one, _ := Step(of(26, 3), l, o)
		n, other, _ := Step(of(26, 3), l, o)
		then := slices.Clone(n)
		scrawl(one)
		if !slices.Equal(m, l) {
			fill(m, 1234)
		}
		if !reflect.DeepEqual(o, was) || !reflect.DeepEqual(rooms(o), rooms(was)) {
			t.Errorf("%+v: a write into the answer shows in what was handed in: %+v", was, o)
		}
		if !slices.Equal(l[:6], []uint64{3, cell, 5, 6, 77, 77}) || !slices.Equal(n, then) {
			t.Errorf("%+v: a write into the answer's cells shows in others", was)
		}
		if !reflect.DeepEqual(other.Answer.Addrs, was.Answer.Addrs) || !reflect.DeepEqual(other.Answer.Errs, was.Answer.Errs) || len(other.Seen) != 0 && !slices.Equal(other.Seen, was.Seen) {
			t.Errorf("%+v: a write into an answer shows in another one: %+v", was, other)
		}
	})
}

// Two lists of one answer share nothing, though those that were handed in did.
func TestNoTwoListsOfAnAnswerShareMemory(t *testing.T) { // P13.3
	one := []uint32{0x0a010005, 0x0a010006}
	seen := []uint64{3, 7, 5, 6}
	for _, phase := range []int{api.PhLook, api.PhClaim} {
		o := api.Op{Ask: api.Ask{Kind: api.Batch, Addrs: one}, Answer: api.Answer{Addrs: one}, Phase: phase, Leaf: 1, Bit: 3, Word: 7, Seen: seen}
		_, got, _ := Step(of(26, 3), seen, o)
		scrawl(got)
		if !slices.Equal(one, []uint32{0x0a010005, 0x0a010006}) || !slices.Equal(seen, []uint64{3, 7, 5, 6}) {
			t.Errorf("the phase %d: %v, %v", phase, one, seen)
		}
	}
}

// Nil and empty lists are one, handed in and answered.
func TestNilAndEmptyLists(t *testing.T) { // P13.1
	for _, phase := range []int{api.PhLook, api.PhClaim} {
		o := api.Op{Ask: api.Ask{Kind: api.Grant}, Phase: phase, Leaf: 1}
		e := o
		e.Ask.Addrs, e.Answer.Addrs, e.Answer.Errs, e.Seen = []uint32{}, []uint32{}, []api.Errno{}, []uint64{}
		for _, l := range [][]uint64{{3, 0, 5, 6}, {3, low, 5, 6}} {
			m, a, x := Step(of(26, 3), l, o)
			n, b, y := Step(of(26, 3), l, e)
			if !slices.Equal(m, n) || !same(a, b) || x != y {
				t.Errorf("%+v, %+v", a, b)
			}
		}
	}
}

func TestAnswersHangOnArgumentsAlone(t *testing.T) { // P13.1
	for range 3 {
		each(func(kind, phase, sought int, w, cell uint64) {
			if phase != api.PhDone {
				check(t, of(26, 3), []uint64{3, cell, 5, 6}, held(kind, phase, sought, w))
			}
		})
	}
}

// The chapter promises nothing of these but that the calls end and don't panic; of another
// phase all stays.
func TestNothingPanics(t *testing.T) { // P1
	odd := []int{math.MinInt, -65536, -64, -1, 0, 1, 2, 9, 31, 32, 64, 2048, 65536, math.MaxInt}
	for _, c := range []api.Conf{{}, of(27, 1), of(16, -1), of(-1, 3), of(33, 65), of(math.MaxInt, math.MaxInt), of(math.MinInt, math.MinInt)} {
		for _, leaf := range odd {
			for _, n := range odd {
				for _, phase := range []int{math.MinInt, -1, 0, 1, 2, 3, 4, 5, 6, 7, 8, 9, 10, math.MaxInt} {
					o := api.Op{Ask: api.Ask{Kind: api.Batch, Addrs: []uint32{0, 1 << 31, math.MaxUint32}}, Phase: phase, Leaf: leaf, Bit: n, At: n, Item: n, Sought: n, Word: 5}
					for _, l := range [][]uint64{nil, {5}, {5, math.MaxUint64, 5}} {
						m, p, effect := Step(c, l, o)
						if phase != 2 && phase != 3 && (!slices.Equal(m, l) || !same(p, o) || effect) {
							t.Fatalf("the phase %d: %#x, %+v", phase, m, p)
						}
					}
				}
			}
		}
	}
}

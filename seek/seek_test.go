package seek

import (
	"math"
	"reflect"
	"slices"
	"testing"

	"lodger/api"
	"lodger/block"
	"lodger/hint"
	"lodger/word"
)

// all is a word all of whose bits are set.
const all = uint64(math.MaxUint64)

// of answers a configuration of that prefix, of so many shards, and those reserved offsets.
func of(prefix, shards int, held ...int) api.Conf {
	return api.Conf{Block: api.Block{Base: 0x0a010000, Prefix: prefix}, Held: held, Shards: shards, Workers: 3, Queue: 4, Tries: 5}
}

// shape is what a block of a prefix has, written down by hand.
type shape struct{ prefix, leaves, tops int }

func shapes() []shape {
	return []shape{
		{32, 1, 1}, {31, 1, 1}, {27, 1, 1}, {26, 2, 1}, {24, 8, 1}, {22, 32, 1},
		{21, 64, 1}, {20, 128, 2}, {18, 512, 8}, {16, 2048, 32},
	}
}

// cells are as many as there are; root is the place of the last one.
func (s shape) cells() int { return s.leaves + s.tops + 1 }
func (s shape) root() int  { return s.leaves + s.tops }

// span are the shard's first leaf, and the one behind its last one.
func (s shape) span(shards, shard int) (int, int) {
	return shard * s.leaves / shards, (shard + 1) * s.leaves / shards
}

// many are how many tops leaves of the shard are summed in.
func (s shape) many(shards, shard int) int {
	from, to := s.span(shards, shard)
	if from == to {
		return 0
	}
	return (to-1)/64 - from/64 + 1
}

// only is the word with those bits alone, but is the one with all others.
func only(bits ...int) uint64 {
	w := uint64(0)
	for _, bit := range bits {
		one := uint64(1)
		for range bit {
			one *= 2
		}
		w += one
	}
	return w
}
func but(bits ...int) uint64 { return all - only(bits...) }

// digits writes w as 64 bools, the lowest bit first, by division alone, so that the tests
// hold the package's words against something else.
func digits(w uint64) [64]bool {
	var d [64]bool
	for i := range d {
		d[i] = w%2 == 1
		w /= 2
	}
	return d
}

// random are words of a fixed rule, each another one.
func random(n int, seed uint64) []uint64 {
	l := make([]uint64, n)
	for i := range l {
		seed = seed*6364136223846793005 + 1442695040888963407
		l[i] = seed ^ seed>>29
	}
	return l
}

// summed are cells with those tops and that root, and leaves of a fixed rule.
func (s shape) summed(root uint64, tops ...uint64) []uint64 {
	l := append(random(s.leaves, 5), tops...)
	for len(l) < s.root() {
		l = append(l, all)
	}
	return append(l, root)
}

// roomy is l with such a one behind its length, so that a write there shows.
func roomy[T any](room T, l ...T) []T { return append(slices.Clone(l), room, room)[:len(l)] }

// whole is an operation none of whose fields is zero, but those that are handed in, with lists
// that have room behind them.
func whole(shard, sought, at int, w uint64) api.Op {
	return api.Op{
		Ask:    api.Ask{Kind: api.Grant, Addr: 0x0a010003, Addrs: roomy(77, uint32(0x0a010005), 0x0a010006)},
		Answer: api.Answer{Err: api.ErrRetry, Addr: 0x0a010007, Used: true, Addrs: roomy(77, uint32(4), 5), Errs: roomy(api.ErrBusy, api.ErrFree, api.OK)},
		Phase:  api.PhSeek, Shard: shard, Sought: sought, Leaf: 1234, Bit: 17, Word: w, Full: true,
		Seen: roomy(77, uint64(21), 22, 23), At: at, Tries: 3, Item: 1, Stamp: 8,
	}
}

// rooms are the operation's lists with the room behind them.
func rooms(o api.Op) []any {
	return []any{o.Ask.Addrs[:4], o.Answer.Addrs[:4], o.Answer.Errs[:4], o.Seen[:5]}
}

// same tells whether the operations are, nil and empty lists being one.
func same(a, b api.Op) bool {
	for _, o := range []*api.Op{&a, &b} {
		o.Ask.Addrs = append([]uint32(nil), o.Ask.Addrs...)
		o.Answer.Addrs = append([]uint32(nil), o.Answer.Addrs...)
		o.Answer.Errs = append([]api.Errno(nil), o.Answer.Errs...)
		o.Seen = append([]uint64(nil), o.Seen...)
	}
	return reflect.DeepEqual(a, b)
}

// elsewhere is o gone to the next shard, from the chapter's words.
func elsewhere(shards int, o api.Op) api.Op {
	o.Sought, o.Word, o.At, o.Phase = o.Sought+1, 0, 0, api.PhSeek
	if o.Sought >= shards {
		o.Phase, o.Seen = api.PhFirst, nil
	}
	return o
}

// meant is what a step makes, from the chapter's words, leaf by leaf.
func (s shape) meant(shards int, l []uint64, o api.Op) api.Op {
	from, to := s.span(shards, (o.Shard+o.Sought)%shards)
	if o.At == 0 {
		o.Word = l[s.root()]
	} else {
		w := digits(l[s.leaves+o.At-1])
		for leaf := from; leaf < to; leaf++ {
			if leaf/64 == o.At-1 && !w[leaf%64] {
				o.Leaf, o.Phase, o.Word, o.At = leaf, api.PhLook, 0, 0
				return o
			}
		}
	}
	w := digits(o.Word)
	for leaf := from; leaf < to; leaf++ {
		if top := leaf / 64; top >= o.At && !w[top] {
			o.At = top + 1
			return o
		}
	}
	return elsewhere(shards, o)
}

// check holds a step against what is meant.
func check(t *testing.T, s shape, shards int, l []uint64, o api.Op) {
	t.Helper()
	want := s.meant(shards, l, o)
	if got := Step(of(s.prefix, shards), l, o); !same(got, want) {
		t.Fatalf("/%d, %d shards, the tops and the root %#x, %+v:\n%+v, not\n%+v", s.prefix, shards, l[s.leaves:], o, got, want)
	}
}

func TestTheConfigurationsMayBe(t *testing.T) {
	for _, s := range shapes() {
		for _, shards := range []int{1, 3, 64} {
			if c := of(s.prefix, shards, 0); !block.May(c) || len(word.Cells(c)) != s.cells() {
				t.Errorf("%v", c)
			}
		}
	}
}

// step is one by hand: the operation's Shard, Sought, At and Word, and what becomes of these,
// with the Phase and the Leaf (which was 9).
type step struct {
	shard, sought, at int
	word              uint64
	phase             int
	then              int // Sought
	leaf, to          int // to is At
	left              uint64
}

// checkByHand holds such steps against what they answer.
func checkByHand(t *testing.T, s shape, shards int, l []uint64, steps []step) {
	t.Helper()
	for i, x := range steps {
		o := whole(x.shard, x.sought, x.at, x.word)
		o.Leaf = 9
		want := o
		want.Phase, want.Sought, want.Leaf, want.At, want.Word = x.phase, x.then, x.leaf, x.to, x.left
		if x.phase == api.PhFirst {
			want.Seen = nil
		}
		if got := Step(of(s.prefix, shards), l, o); !same(got, want) {
			t.Errorf("%d: %+v, not %+v", i, got, want)
		}
	}
}

// Of 512 leaves, eight tops, three shards: the first one has the leaves 0 to 169, which are in
// the tops 0, 1, 2; the second one 170 to 340, in the tops 2 to 5; the third one 341 to 511,
// in the tops 5, 6, 7. The tops 2 and 5 are of two shards.
const prefix, third = 18, 3

func eight() shape { return shape{prefix, 512, 8} }

func TestTheRootByHand(t *testing.T) { // P15.1
	for _, x := range []struct {
		root  uint64
		steps []step
	}{
		// none of the bits is set: the first one of the shard's tops
		{0, []step{
			{0, 0, 0, 5, api.PhSeek, 0, 9, 1, 0}, {1, 0, 0, 5, api.PhSeek, 0, 9, 3, 0}, {2, 0, 0, 5, api.PhSeek, 0, 9, 6, 0},
			{0, 1, 0, all, api.PhSeek, 1, 9, 3, 0}, {0, 2, 0, all, api.PhSeek, 2, 9, 6, 0},
			// behind the last shard the first one is next
			{2, 1, 0, 5, api.PhSeek, 1, 9, 1, 0}, {2, 2, 0, 5, api.PhSeek, 2, 9, 3, 0}, {1, 2, 0, 5, api.PhSeek, 2, 9, 1, 0},
		}},
		// some are: the first one, one in the middle, the last one isn't
		{but(0, 2, 5), []step{
			{0, 0, 0, 0, api.PhSeek, 0, 9, 1, but(0, 2, 5)}, {1, 0, 0, 0, api.PhSeek, 0, 9, 3, but(0, 2, 5)}, {2, 0, 0, 0, api.PhSeek, 0, 9, 6, but(0, 2, 5)},
		}},
		{but(1, 4, 6), []step{
			{0, 0, 0, 0, api.PhSeek, 0, 9, 2, but(1, 4, 6)}, {1, 0, 0, 0, api.PhSeek, 0, 9, 5, but(1, 4, 6)}, {2, 0, 0, 0, api.PhSeek, 0, 9, 7, but(1, 4, 6)},
		}},
		{but(2, 5, 7), []step{
			{0, 0, 0, 0, api.PhSeek, 0, 9, 3, but(2, 5, 7)}, {1, 0, 0, 0, api.PhSeek, 0, 9, 3, but(2, 5, 7)}, {2, 0, 0, 0, api.PhSeek, 0, 9, 6, but(2, 5, 7)},
		}},
		// all of the shard's are: the bits of other shards' tops, or of none, are nothing to it
		{only(0, 1, 2), []step{
			{0, 0, 0, 0, api.PhSeek, 1, 9, 0, 0}, {2, 1, 0, 0, api.PhSeek, 2, 9, 0, 0}, {1, 2, 0, 0, api.PhFirst, 3, 9, 0, 0}, {1, 0, 0, 0, api.PhSeek, 0, 9, 4, only(0, 1, 2)},
		}},
		{only(2, 3, 4, 5), []step{
			{1, 0, 0, 7, api.PhSeek, 1, 9, 0, 0}, {0, 1, 0, 7, api.PhSeek, 2, 9, 0, 0}, {2, 2, 0, 7, api.PhFirst, 3, 9, 0, 0}, {2, 0, 0, 7, api.PhSeek, 0, 9, 7, only(2, 3, 4, 5)},
		}},
		{only(5, 6, 7), []step{
			{2, 0, 0, all, api.PhSeek, 1, 9, 0, 0}, {1, 1, 0, all, api.PhSeek, 2, 9, 0, 0}, {0, 2, 0, all, api.PhFirst, 3, 9, 0, 0}, {0, 0, 0, all, api.PhSeek, 0, 9, 1, only(5, 6, 7)},
		}},
		{all, []step{{0, 0, 0, 0, api.PhSeek, 1, 9, 0, 0}, {1, 1, 0, 0, api.PhSeek, 2, 9, 0, 0}, {2, 2, 0, 0, api.PhFirst, 3, 9, 0, 0}}},
		{only(0, 1, 2, 3, 4, 5, 6, 7), []step{{0, 0, 0, 0, api.PhSeek, 1, 9, 0, 0}, {1, 2, 0, 0, api.PhFirst, 3, 9, 0, 0}}},
	} {
		checkByHand(t, eight(), third, eight().summed(x.root, make([]uint64, 8)...), x.steps)
	}
}

func TestATopByHand(t *testing.T) { // P15.1
	// ours are the bits of the tops 2 and 5 that the second shard's leaves have
	var ours2, ours5 []int
	for bit := range 64 {
		if bit >= 42 {
			ours2 = append(ours2, bit)
		}
		if bit <= 20 {
			ours5 = append(ours5, bit)
		}
	}
	for i, x := range []struct {
		tops  [8]uint64
		steps []step
	}{
		// none of the bits is set: the first leaf that is the shard's
		{[8]uint64{}, []step{
			{0, 0, 1, 5, api.PhLook, 0, 0, 0, 0}, {0, 0, 2, 5, api.PhLook, 0, 64, 0, 0}, {0, 0, 3, 5, api.PhLook, 0, 128, 0, 0},
			{1, 0, 3, 5, api.PhLook, 0, 170, 0, 0}, {0, 1, 4, 5, api.PhLook, 1, 192, 0, 0}, {2, 2, 6, 5, api.PhLook, 2, 320, 0, 0},
			{2, 0, 6, 5, api.PhLook, 0, 341, 0, 0}, {2, 0, 8, 5, api.PhLook, 0, 448, 0, 0},
		}},
		// some are: the first leaf, one in the middle, the last one has its bit not set
		{[8]uint64{but(0, 9, 63), but(5, 6), but(41, 42), but(63), but(0), but(20, 21), all, but(63)}, []step{
			{0, 0, 1, 5, api.PhLook, 0, 0, 0, 0}, {0, 0, 2, 5, api.PhLook, 0, 69, 0, 0}, {0, 0, 3, 5, api.PhLook, 0, 169, 0, 0},
			{1, 0, 3, 5, api.PhLook, 0, 170, 0, 0}, {1, 0, 4, 5, api.PhLook, 0, 255, 0, 0}, {1, 0, 5, 5, api.PhLook, 0, 256, 0, 0}, {1, 0, 6, 5, api.PhLook, 0, 340, 0, 0},
			{2, 0, 6, 5, api.PhLook, 0, 341, 0, 0}, {0, 2, 8, 5, api.PhLook, 2, 511, 0, 0},
		}},
		// a bit that isn't set is another shard's leaf's
		{[8]uint64{all, all, only(ours2...), all, all, only(ours5...), all, all}, []step{
			{1, 0, 3, 0, api.PhSeek, 0, 9, 4, 0}, {1, 0, 6, 0, api.PhSeek, 1, 9, 0, 0}, {0, 0, 3, 0, api.PhLook, 0, 128, 0, 0}, {2, 0, 6, 0, api.PhLook, 0, 341, 0, 0},
		}},
		{[8]uint64{all, all, but(ours2...), all, all, but(ours5...), all, all}, []step{
			{1, 0, 3, 0, api.PhLook, 0, 170, 0, 0}, {1, 0, 6, 0, api.PhLook, 0, 320, 0, 0}, {0, 0, 3, 0, api.PhSeek, 1, 9, 0, 0}, {2, 0, 6, 0, api.PhSeek, 0, 9, 7, 0},
		}},
		// all are: the next top whose bit in Word isn't set, whatever the root is by now
		{[8]uint64{all, all, all, all, all, all, all, all}, []step{
			{0, 0, 1, 0, api.PhSeek, 0, 9, 2, 0}, {0, 0, 1, only(1), api.PhSeek, 0, 9, 3, only(1)}, {0, 0, 1, but(0, 2), api.PhSeek, 0, 9, 3, but(0, 2)},
			{1, 0, 3, 0, api.PhSeek, 0, 9, 4, 0}, {1, 0, 3, but(0, 1, 2, 5), api.PhSeek, 0, 9, 6, but(0, 1, 2, 5)}, {2, 0, 7, but(5, 7), api.PhSeek, 0, 9, 8, but(5, 7)},
			// there is none behind it: those ahead of it, and other shards', are none
			{0, 0, 1, but(0, 3), api.PhSeek, 1, 9, 0, 0}, {0, 0, 3, 0, api.PhSeek, 1, 9, 0, 0}, {1, 0, 6, 0, api.PhSeek, 1, 9, 0, 0}, {0, 1, 4, only(4, 5), api.PhSeek, 2, 9, 0, 0},
			{2, 0, 8, 0, api.PhSeek, 1, 9, 0, 0}, {2, 1, 2, only(2), api.PhSeek, 2, 9, 0, 0}, {0, 2, 8, 0, api.PhFirst, 3, 9, 0, 0}, {2, 2, 3, all, api.PhFirst, 3, 9, 0, 0},
		}},
		// a top that isn't the shard's has none of its leaves
		{[8]uint64{}, []step{
			{1, 0, 1, 0, api.PhSeek, 0, 9, 3, 0}, {1, 0, 2, only(2, 3), api.PhSeek, 0, 9, 5, only(2, 3)}, {1, 0, 7, 0, api.PhSeek, 1, 9, 0, 0},
			{0, 0, 8, 0, api.PhSeek, 1, 9, 0, 0}, {2, 0, 1, but(6), api.PhSeek, 0, 9, 7, but(6)}, {0, 2, 5, all, api.PhFirst, 3, 9, 0, 0},
		}},
	} {
		for _, root := range []uint64{0, all, 0x5a} {
			checkByHand(t, eight(), third, eight().summed(root, x.tops[:]...), x.steps)
			if t.Failed() {
				t.Fatalf("the tops %d", i)
			}
		}
	}
}

// One address: the leaf 0, the top, the root. Of three shards two have no leaf: the last one
// has it.
func TestOneAddressByHand(t *testing.T) { // P15.1
	one := shape{32, 1, 1}
	for _, x := range []struct {
		top, root uint64
		shards    int
		steps     []step
	}{
		{but(0), but(0), 1, []step{{0, 0, 0, 7, api.PhSeek, 0, 9, 1, but(0)}, {0, 0, 1, but(0), api.PhLook, 0, 0, 0, 0}}},
		{but(0), all, 1, []step{{0, 0, 0, 7, api.PhFirst, 1, 9, 0, 0}, {0, 0, 1, 0, api.PhLook, 0, 0, 0, 0}}},
		{only(0), but(0), 1, []step{{0, 0, 0, 7, api.PhSeek, 0, 9, 1, but(0)}, {0, 0, 1, but(0), api.PhFirst, 1, 9, 0, 0}}},
		{0, 0, 3, []step{
			{0, 0, 0, 7, api.PhSeek, 1, 9, 0, 0}, {0, 1, 0, 7, api.PhSeek, 2, 9, 0, 0}, {0, 2, 0, 7, api.PhSeek, 2, 9, 1, 0}, {2, 0, 0, 7, api.PhSeek, 0, 9, 1, 0},
			{0, 0, 1, 0, api.PhSeek, 1, 9, 0, 0}, {1, 2, 1, 0, api.PhFirst, 3, 9, 0, 0}, {1, 1, 1, 0, api.PhLook, 1, 0, 0, 0}, {2, 2, 0, 0, api.PhFirst, 3, 9, 0, 0},
		}},
	} {
		checkByHand(t, one, x.shards, []uint64{all, x.top, x.root}, x.steps)
	}
}

// words are those that a top, or the root, may read: with the first, the last or some bit left.
func words() []uint64 {
	return []uint64{0, all, 1, but(0), only(63), but(63), but(31), only(31), 0x5555555555555555, 0xaaaaaaaaaaaaaaaa, 0xffffffff, 0xffffffff << 32}
}

// some are from 0 to n - 1: the first ones, the last ones, and some between.
func some(n int) []int {
	var l []int
	for i := range n {
		if i < 2 || i > n-3 || i == n/2 || i == n/3 {
			l = append(l, i)
		}
	}
	return l
}

// Each shard of each block, with each At, of words in the root and in the tops.
func TestStepOfEachShard(t *testing.T) { // P15.1
	for _, s := range shapes() {
		for _, shards := range []int{1, 2, 3, 7, 63, 64} {
			for _, shard := range some(shards) {
				for _, sought := range some(shards) {
					for i, w := range words() {
						l := s.summed(w, random(s.tops, uint64(i))...)
						for at := range s.tops + 1 {
							o := whole(shard, sought, at, words()[(i*5+at)%len(words())])
							check(t, s, shards, l, o)
						}
					}
				}
			}
		}
	}
}

// Each bit of a top, by itself not set: it is found just if the leaf is the shard's.
func TestEachBitOfATop(t *testing.T) { // P15.1
	for _, s := range []shape{{21, 64, 1}, {20, 128, 2}, eight()} {
		for _, shards := range []int{1, 2, 3, 5, 64} {
			for leaf := range s.leaves {
				l := s.summed(0)
				l[s.leaves+leaf/64] = but(leaf % 64)
				for shard := range shards {
					from, to := s.span(shards, shard)
					got := Step(of(s.prefix, shards), l, whole(shard, 0, leaf/64+1, all))
					if mine := from <= leaf && leaf < to; mine != (got.Phase == api.PhLook) || mine != (got.Leaf == leaf) || mine != (got.Sought == 0) {
						t.Fatalf("/%d, %d shards, the leaf %d, the shard %d: %+v", s.prefix, shards, leaf, shard, got)
					}
				}
			}
		}
	}
}

// Each bit of the root, by itself not set: it is found just if the top is the shard's, and
// not behind it.
func TestEachBitOfTheRoot(t *testing.T) { // P15.1
	for _, s := range []shape{{21, 64, 1}, eight(), {16, 2048, 32}} {
		l := s.summed(all)
		for _, shards := range []int{1, 3, 5, 64} {
			for bit := range 64 {
				for _, shard := range some(shards) {
					from, to := s.span(shards, shard)
					mine := from < to && from/64 <= bit && bit <= (to-1)/64
					for at := range s.tops + 1 {
						o := whole(shard, 0, at, but(bit))
						l[s.root()] = all // by now it says otherwise than Word
						if at == 0 {
							l[s.root()] = but(bit)
						}
						got := Step(of(s.prefix, shards), l, o)
						if found := mine && bit >= at; found != (got.At == bit+1) || found != (got.Sought == 0) || found != (got.Word == but(bit)) {
							t.Fatalf("/%d, %d shards, the bit %d, the shard %d, At %d: %+v", s.prefix, shards, bit, shard, at, got)
						}
					}
				}
			}
		}
	}
}

// Sought, one more, is held against the shards, however many there are.
func TestTheNextShard(t *testing.T) { // P15.1
	for _, s := range []shape{{32, 1, 1}, {16, 2048, 32}} {
		for shards := 1; shards <= 64; shards++ {
			for sought := range shards {
				for _, at := range []int{0, s.tops} {
					got := Step(of(s.prefix, shards), s.summed(all), whole(shards/2, sought, at, all))
					if !same(got, elsewhere(shards, whole(shards/2, sought, at, all))) {
						t.Fatalf("/%d, %d shards, %d sought: %+v", s.prefix, shards, sought, got)
					}
					if last := sought == shards-1; last != (got.Phase == api.PhFirst) || last != (len(got.Seen) == 0) {
						t.Fatalf("/%d, %d shards, %d sought: %+v", s.prefix, shards, sought, got)
					}
				}
			}
		}
	}
}

// A step reads one cell, the root or the top: whatever the others are, it answers the same.
func TestAStepReadsOneCell(t *testing.T) { // P15.1
	for _, s := range shapes() {
		for at := range s.tops + 1 {
			for _, w := range words() {
				o := whole(1, 0, at, 0x5a5a)
				read := s.leaves + at - 1
				if at == 0 {
					read = s.root()
				}
				want := api.Op{}
				for i, l := range [][]uint64{make([]uint64, s.cells()), slices.Repeat([]uint64{all}, s.cells()), random(s.cells(), 3)} {
					l[read] = w
					got := Step(of(s.prefix, 2), l, o)
					if i > 0 && !same(got, want) {
						t.Fatalf("/%d, At %d: %+v, not %+v", s.prefix, at, got, want)
					}
					want = got
				}
			}
		}
	}
}

// The kind of the request is nothing to a step.
func TestStepOfEachKind(t *testing.T) { // P15.1
	for _, kind := range []int{math.MinInt, -1, 0, 1, 2, 3, 4, 5, 6, 7, 8, math.MaxInt} {
		for at := range 9 {
			o := whole(1, 1, at, 0)
			o.Ask.Kind = kind
			check(t, eight(), third, eight().summed(only(5), 0, 1, 2, 3, all, all, all), o)
		}
	}
}

// sought is what a seek that began at that shard comes to, with nobody else: the first leaf, of
// the shards in their order, whose bit isn't set, and whose top's bit isn't.
func (s shape) sought(shards, home int, l []uint64) (phase, leaf, sought int) {
	root := digits(l[s.root()])
	for k := range shards {
		from, to := s.span(shards, (home+k)%shards)
		for leaf := from; leaf < to; leaf++ {
			if !root[leaf/64] && !digits(l[s.leaves+leaf/64])[leaf%64] {
				return api.PhLook, leaf, k
			}
		}
	}
	return api.PhFirst, 0, shards
}

// checkSeek holds a seek, from its first step to its end, against what it comes to, and its
// steps against the bound of the shards that were sought.
func checkSeek(t *testing.T, s shape, shards, home int, l []uint64) {
	t.Helper()
	phase, leaf, sought := s.sought(shards, home, l)
	o, steps, bound := api.Op{Phase: api.PhSeek, Shard: home}, 0, 0
	for k := range min(sought+1, shards) {
		bound += 1 + s.many(shards, (home+k)%shards) + 1
	}
	for ; o.Phase == api.PhSeek && steps <= bound; steps++ {
		o = Step(of(s.prefix, shards), l, o)
	}
	want := api.Op{Phase: phase, Shard: home, Leaf: leaf, Sought: sought}
	if !same(o, want) || steps > bound {
		t.Fatalf("/%d, %d shards, from %d on, the tops and the root %#x: %+v, not %+v, in %d steps of %d", s.prefix, shards, home, l[s.leaves:], o, want, steps, bound)
	}
}

// Of any summaries, whatever the leaves are.
func TestASeekFromItsFirstStepToItsEnd(t *testing.T) { // P15.2
	for _, s := range shapes() {
		for _, shards := range []int{1, 2, 3, 7, 63, 64} {
			for _, home := range some(shards) {
				for i, w := range words() {
					checkSeek(t, s, shards, home, s.summed(w, random(s.tops, uint64(i))...))
					checkSeek(t, s, shards, home, s.summed(w, words()[:min(i, s.tops)]...))
					checkSeek(t, s, shards, home, s.summed(w))
				}
			}
		}
	}
}

// Where one leaf's bit isn't set in its top, each shard's seek ends there, though all other
// tops have to be read.
func TestASeekForOneLeaf(t *testing.T) { // P15.2
	for _, s := range shapes() {
		for _, shards := range []int{1, 3, 64} {
			for _, leaf := range some(s.leaves) {
				for _, home := range some(shards) {
					l := s.summed(0)
					l[s.leaves+leaf/64] = but(leaf % 64)
					checkSeek(t, s, shards, home, l)
					l[s.root()] = only(leaf / 64)
					checkSeek(t, s, shards, home, l)
				}
			}
		}
	}
}

// Leaf by leaf a pool is filled, and marked by layer 8: a seek ends at a leaf that isn't full,
// until there is none.
func TestSeeksInAPoolThatFills(t *testing.T) { // P15.2
	s, shards := shape{20, 128, 2}, 3
	c := of(s.prefix, shards)
	l := word.Cells(c)
	for range s.leaves {
		o := api.Op{Phase: api.PhSeek, Shard: 1}
		for i := 0; o.Phase == api.PhSeek && i < 3*4; i++ {
			o = Step(c, l, o)
		}
		if o.Phase != api.PhLook || word.Full(l[o.Leaf]) {
			t.Fatalf("%+v", o)
		}
		for bit := range 32 {
			l[o.Leaf] = word.Claim(l[o.Leaf], bit)
		}
		for o = (api.Op{Phase: api.PhMark, Leaf: o.Leaf, Full: true}); o.Phase != api.PhDone; {
			l, o = hint.Step(c, l, o)
		}
	}
	for home := range shards {
		checkSeek(t, s, shards, home, l)
	}
	if phase, _, _ := s.sought(shards, 1, l); phase != api.PhFirst {
		t.Error("a leaf's bit isn't set, though all are full")
	}
}

// The root changes between the steps: which top is next is told by Word, as it was read, and
// which leaf by the top as it is.
func TestOthersBetweenTheSteps(t *testing.T) { // P15.1
	s, c := eight(), of(prefix, third)
	l := s.summed(but(2, 4), all, all, all, all, but(7))
	o := Step(c, l, api.Op{Phase: api.PhSeek, Shard: 1})
	l[s.root()] = but(3)
	o = Step(c, l, o)
	if o.At != 5 || o.Word != but(2, 4) {
		t.Fatalf("%+v", o)
	}
	l[s.leaves+4] = but(9)
	o = Step(c, l, o)
	if want := (api.Op{Phase: api.PhLook, Shard: 1, Leaf: 4*64 + 9}); !same(o, want) {
		t.Errorf("%+v", o)
	}
}

// Of one leaf whose bit isn't set: two steps, and the leaf is looked at.
func TestOneLeafWhoseBitIsntSet(t *testing.T) { // P15.2, the chapter's example
	for _, c := range []api.Conf{of(27, 1), of(30, 1, 0, 3), of(32, 1)} {
		l := word.Cells(c)
		one := Step(c, l, api.Op{Ask: api.Ask{Kind: api.Grant}, Phase: api.PhSeek})
		two := Step(c, l, one)
		if one.Phase != api.PhSeek || one.At != 1 || one.Word != but(0) {
			t.Errorf("/%d: %+v", c.Block.Prefix, one)
		}
		if want := (api.Op{Ask: api.Ask{Kind: api.Grant}, Phase: api.PhLook}); !same(two, want) {
			t.Errorf("/%d: %+v", c.Block.Prefix, two)
		}
	}
}

// each calls f with cells and operations, so that each end of a step is come to.
func each(f func(l []uint64, o api.Op)) {
	tops := []uint64{but(7), all, all, all, all, all, all, but(9)}
	for shard := range third {
		for sought := range third {
			for at := range 9 {
				for _, w := range []uint64{0, all, but(6)} {
					f(eight().summed(w, tops...), whole(shard, sought, at, w))
				}
			}
		}
	}
	o := whole(0, 0, 0, 0)
	o.Phase = api.PhDone
	f(eight().summed(0), o)
}

func TestWhatIsHandedInStays(t *testing.T) { // P15.1
	each(func(l []uint64, o api.Op) {
		c := of(prefix, third, roomy(9, 1, 2)...)
		l = roomy(77, l...)
		cells := slices.Clone(l[:len(l)+2])
		was, lists := o, whole(0, 0, 0, 0)
		Step(c, l, o)
		if !slices.Equal(l[:len(l)+2], cells) || !slices.Equal(c.Held[:4], []int{1, 2, 9, 9}) {
			t.Fatalf("%+v: cells, or Held, changed", was)
		}
		if !reflect.DeepEqual(o, was) || !reflect.DeepEqual(rooms(o), rooms(lists)) {
			t.Fatalf("%+v changed: %+v", was, o)
		}
	})
}

// fill writes x into a list, and into the room behind it.
func fill[T any](l []T, x T) {
	for i := range l[:cap(l)] {
		l[:cap(l)][i] = x
	}
}

// scrawl writes into all lists of an answer: the chapter lets none of them be shared, not even
// the request's.
func scrawl(o api.Op) {
	fill(o.Ask.Addrs, 1234)
	fill(o.Answer.Addrs, 1234)
	fill(o.Answer.Errs, 1234)
	fill(o.Seen, 1234)
}

func TestWhatIsAnsweredIsNewMemory(t *testing.T) { // P15.1
	each(func(l []uint64, o api.Op) {
		c, cells, lists := of(prefix, third), slices.Clone(l), whole(0, 0, 0, 0)
		one, other, again := Step(c, l, o), Step(c, l, o), Step(c, l, o)
		scrawl(one)
		if !slices.Equal(l, cells) || !reflect.DeepEqual(rooms(o), rooms(lists)) {
			t.Fatalf("a write into the answer shows in what was handed in: %+v", o)
		}
		if slices.Contains(other.Ask.Addrs, 1234) || slices.Contains(other.Seen, 1234) || !same(other, again) {
			t.Fatalf("a write into an answer shows in another one: %+v", other)
		}
	})
}

// Two lists of one answer share nothing, though those that were handed in did.
func TestNoTwoListsOfAnAnswerShareMemory(t *testing.T) { // P15.1
	each(func(l []uint64, o api.Op) {
		one := []uint32{5, 6}
		o.Ask.Addrs, o.Answer.Addrs, o.Seen = one, one, l[:3]
		cells := slices.Clone(l)
		got := Step(of(prefix, third), l, o)
		fill(got.Answer.Addrs, 1234)
		fill(got.Seen, 1234)
		if !slices.Equal(got.Ask.Addrs, []uint32{5, 6}) || !slices.Equal(one, []uint32{5, 6}) || !slices.Equal(l, cells) {
			t.Fatalf("%+v: %v", o, got.Ask.Addrs)
		}
	})
}

// Nil and empty lists are one, handed in and answered.
func TestNilAndEmptyLists(t *testing.T) { // P15.1
	each(func(l []uint64, o api.Op) {
		o.Ask.Addrs, o.Answer.Addrs, o.Answer.Errs, o.Seen = nil, nil, nil, nil
		e := o
		e.Ask.Addrs, e.Answer.Addrs, e.Answer.Errs, e.Seen = []uint32{}, []uint32{}, []api.Errno{}, []uint64{}
		a, b := Step(of(prefix, third), l, o), Step(of(prefix, third, []int{}...), l, e)
		if !same(a, b) {
			t.Fatalf("%+v, %+v", a, b)
		}
	})
}

// Neither reserved offsets, nor the Base, nor workers, queues and tries are anything to a step.
func TestAnswersHangOnArgumentsAlone(t *testing.T) { // P15.1
	for range 3 {
		each(func(l []uint64, o api.Op) {
			if o.Phase != api.PhSeek {
				return
			}
			check(t, eight(), third, l, o)
			c := api.Conf{Block: api.Block{Base: 0xffffc000, Prefix: prefix}, Held: []int{0, 16383}, Shards: third, Workers: 64, Queue: 64, Tries: 8}
			if got := Step(c, l, o); !same(got, eight().meant(third, l, o)) {
				t.Fatalf("%+v", got)
			}
		})
	}
}

// The chapter promises nothing of these but that the calls end and don't panic; of another
// phase all stays.
func TestNothingPanics(t *testing.T) { // P1
	odd := []int{math.MinInt, -65536, -64, -1, 0, 1, 2, 33, 64, 2048, math.MaxInt - 1, math.MaxInt}
	var confs []api.Conf
	for _, shards := range []int{math.MinInt, -1, 0, 1, 3, 64, 65, math.MaxInt} {
		for _, prefix := range []int{math.MinInt, -1, 0, 15, 16, 27, 32, 33, math.MaxInt} {
			confs = append(confs, of(prefix, shards, -1, 7))
		}
	}
	few := [][]uint64{nil, {5}, {5, all, 5}, random(131, 9)}
	for i, c := range append(confs, api.Conf{}) {
		for j, shard := range odd {
			for k, sought := range odd {
				for _, at := range odd {
					o := whole(shard, sought, at, 5)
					l := few[(i+j+k)%len(few)]
					Step(c, l, o)
					o.Phase = []int{math.MinInt, -1, 0, 2, 3, 4, 5, 6, 7, 8, 9, 10, math.MaxInt}[(i+j+k)%13]
					if got := Step(c, l, o); !same(got, o) {
						t.Fatalf("%+v", got)
					}
				}
			}
		}
	}
}

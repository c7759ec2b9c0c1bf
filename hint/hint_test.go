package hint

import (
	"math"
	"reflect"
	"slices"
	"testing"

	"lodger/api"
	"lodger/block"
	"lodger/place"
)

const all = uint64(math.MaxUint64)

// of answers a configuration of that prefix and those reserved offsets.
func of(prefix int, held ...int) api.Conf {
	return api.Conf{Block: api.Block{Base: 0x0a010000, Prefix: prefix}, Held: held, Shards: 2, Workers: 3, Queue: 4, Tries: 5}
}

// at answers that configuration with another Base.
func at(base uint32, prefix int) api.Conf {
	c := of(prefix)
	c.Block.Base = base
	return c
}

// shape is what a block of a prefix has, written down by hand.
type shape struct{ prefix, leaves, tops int }

func shapes() []shape {
	return []shape{{32, 1, 1}, {30, 1, 1}, {27, 1, 1}, {26, 2, 1}, {24, 8, 1}, {21, 64, 1}, {20, 128, 2}, {18, 512, 8}, {16, 2048, 32}}
}

// some are the first and the last leaf, those at the tops' edges, and one in the middle.
func (s shape) some() []int {
	l := []int{0, s.leaves - 1, s.leaves / 2}
	for _, leaf := range []int{1, 62, 63, 64, 65, 127, 128, 1000, 1983, 1984} {
		if leaf < s.leaves {
			l = append(l, leaf)
		}
	}
	return l
}

// cells are as many cells as there are, of a fixed rule, each another word.
func (s shape) cells(w uint64) []uint64 {
	l := make([]uint64, s.leaves+s.tops+1)
	for i := range l {
		w = w*6364136223846793005 + 1442695040888963407
		l[i] = w
	}
	return l
}

// cell tells where the leaf is summed: in its top, or in the root.
func (s shape) cell(leaf, at int) (int, int) {
	if at == 1 {
		return s.leaves + s.tops, leaf / 64
	}
	return s.leaves + leaf/64, leaf % 64
}

// digits writes w as 64 bools, the lowest bit first, by division alone, so that the tests
// hold the package's words against something else.
func digits(w uint64) [64]bool {
	var d [64]bool
	for i := range d {
		d[i] = w%2 == 1
		w /= 2
	}
	return d
}

// number is the word that digits writes so.
func number(d [64]bool) uint64 {
	w := uint64(0)
	for i := range d {
		w *= 2
		if d[63-i] {
			w++
		}
	}
	return w
}

// with is w whose bit is so.
func with(w uint64, bit int, is bool) uint64 {
	d := digits(w)
	d[bit] = is
	return number(d)
}

// words are words that a summary may have: edges, and such as have but one bit of its kind.
func words() []uint64 {
	l := []uint64{0, 1, 7, all, all - 1, all >> 1, 1 << 63, 1 << 32, 0xaaaaaaaaaaaaaaaa, 0x5555555555555555, 0xffffffff, all - 0xffffffff}
	for i := range 64 {
		l = append(l, uint64(1)<<uint(i), all-uint64(1)<<uint(i), uint64(1)<<uint(i)-1)
	}
	return l
}

// whole is an operation none of whose fields is zero.
func whole(kind int, addrs ...uint32) api.Op {
	return api.Op{
		Ask:    api.Ask{Kind: kind, Addr: 0x0a010003, Addrs: addrs},
		Answer: api.Answer{Err: api.ErrRetry, Addr: 0x0a010007, Used: true, Addrs: []uint32{4, 5}, Errs: []api.Errno{6, 0}},
		Phase:  api.PhMark, Shard: 1, Sought: 2, Leaf: 0, Bit: 17, Word: 99, Full: true,
		Seen: []uint64{21, 22, 23}, At: 1, Tries: 3, Item: 0, Stamp: 8,
	}
}

// ended is o behind going on with no further address: but for these it stays.
func ended(o api.Op) api.Op {
	o.Phase, o.Word, o.Full, o.At = api.PhDone, 0, false, 0
	return o
}

// kinds are those that there are, and some that there aren't.
func kinds() []int { return []int{math.MinInt, -4, -1, 0, 1, 2, 3, 4, 5, 6, 7, 8, 260, math.MaxInt} }

func TestGoesToTheFurtherAddress(t *testing.T) { // P8.1
	c := at(0x0a010000, 20)
	addrs := []uint32{0x0a010005, 0x0a010064, 0x0a010fff, 0x0a010000, 0x0a01001f, 0x0a010020, 0x0a010800}
	for item, x := range []struct{ leaf, bit int }{{3, 4}, {127, 31}, {0, 0}, {0, 31}, {1, 0}, {64, 0}} {
		for phase := range 10 {
			o := whole(api.Batch, addrs...)
			o.Phase, o.Item = phase, item
			want := ended(o)
			want.Phase, want.Item, want.Leaf, want.Bit = api.PhRead, item+1, x.leaf, x.bit
			if got := Goes(c, o); !reflect.DeepEqual(got, want) {
				t.Errorf("from the item %d on, in the phase %d: %+v, not %+v", item, phase, got, want)
			}
		}
	}
}

// No address is further: behind the last one, beyond all, of a batch of one and of none.
func TestGoesToTheEndOfABatch(t *testing.T) { // P8.1
	c := of(24)
	for _, addrs := range [][]uint32{nil, {}, {0x0a010005}, {0x0a010005, 0x0a010006}, {0x0a010005, 0x0a010006, 0x0a010007}} {
		for _, item := range []int{0, 1, 2, 3, 4, 63, 64, 65536, math.MaxInt - 1, math.MaxInt} {
			if item+1 < len(addrs) && item < 64 {
				continue
			}
			o := whole(api.Batch, addrs...)
			o.Item = item
			if got := Goes(c, o); !reflect.DeepEqual(got, ended(o)) {
				t.Errorf("%d addresses, the item %d: %+v", len(addrs), item, got)
			}
		}
	}
}

// Addrs say nothing of other kinds than Batch.
func TestGoesOfEachKind(t *testing.T) { // P8.1
	c := of(24)
	for _, kind := range kinds() {
		o := whole(kind, 0x0a010005, 0x0a010026)
		want := ended(o)
		if kind == api.Batch {
			want.Phase, want.Item, want.Leaf, want.Bit = api.PhRead, 1, 1, 6
		}
		if got := Goes(c, o); !reflect.DeepEqual(got, want) {
			t.Errorf("the kind %d: %+v, not %+v", kind, got, want)
		}
	}
}

// Leaf and Bit are an address' of the block wherever it begins, reserved or not.
func TestGoesOfBlocksWhereverTheyBegin(t *testing.T) { // P8.1
	for _, s := range shapes() {
		many := uint32(1)
		for range 32 - s.prefix {
			many *= 2
		}
		for _, base := range []uint32{0, 0x0a010000, 0x7fff0000, 0x80000000, uint32(math.MaxUint32) - many + 1} {
			c := at(base, s.prefix)
			c.Held = []int{int(many - 1)}
			if !block.May(c) {
				t.Fatalf("it may not be: %v", c)
			}
			for _, off := range []uint32{0, many - 1, many / 2, many / 3} {
				o := api.Op{Ask: api.Ask{Kind: api.Batch, Addrs: []uint32{base + many/2, base + off}}}
				got := Goes(c, o)
				if got.Phase != api.PhRead || got.Item != 1 || got.Leaf != int(off/32) || got.Bit != int(off%32) {
					t.Errorf("%#x/%d, the offset %d: %+v", base, s.prefix, off, got)
				}
			}
		}
	}
}

// A batch is gone through address by address, and ends once.
func TestGoesThroughABatch(t *testing.T) { // P8.1
	c := of(16)
	o := api.Op{Ask: api.Ask{Kind: api.Batch}}
	for i := range uint32(64) {
		o.Ask.Addrs = append(o.Ask.Addrs, 0x0a010000+i*1023)
	}
	for i := 1; i < 64; i++ {
		o = Goes(c, o)
		if o.Phase != api.PhRead || o.Item != i || place.Offset(o.Leaf, o.Bit) != i*1023 {
			t.Fatalf("the address %d: %+v", i, o)
		}
	}
	last := o
	for range 2 {
		if o = Goes(c, o); !reflect.DeepEqual(o, ended(last)) {
			t.Fatalf("behind the last one: %+v", o)
		}
	}
}

// Of a block of one leaf: its cells are the leaf, the top, the root.
func TestStepByHand(t *testing.T) { // P8.1
	c := of(27)
	for i, x := range []struct {
		top, root uint64 // ahead of the step
		o         api.Op
		wtop      uint64 // behind it
		wroot     uint64
		want      api.Op
	}{
		// the top is read: the bit isn't as Full has it
		{all - 1, 5, api.Op{Phase: api.PhMark, Full: true}, all - 1, 5, api.Op{Phase: api.PhSet, Full: true, Word: all - 1}},
		{all, 5, api.Op{Phase: api.PhMark, Word: 7}, all, 5, api.Op{Phase: api.PhSet, Word: all}},
		{6, 5, api.Op{Phase: api.PhMark, Full: true}, 6, 5, api.Op{Phase: api.PhSet, Full: true, Word: 6}},
		// it is: the root is next, or nothing, if others aren't set
		{all, 5, api.Op{Phase: api.PhMark, Full: true}, all, 5, api.Op{Phase: api.PhMark, Full: true, At: 1, Word: all}},
		{all - 2, 5, api.Op{Phase: api.PhMark, Full: true}, all - 2, 5, api.Op{}},
		{all >> 1, 5, api.Op{Phase: api.PhMark, Full: true}, all >> 1, 5, api.Op{}},
		{1, 5, api.Op{Phase: api.PhMark, Full: true}, 1, 5, api.Op{}},
		{all - 1, 5, api.Op{Phase: api.PhMark}, all - 1, 5, api.Op{Phase: api.PhMark, At: 1, Word: all - 1}},
		{0, 5, api.Op{Phase: api.PhMark, Word: 3}, 0, 5, api.Op{Phase: api.PhMark, At: 1}},
		// the top is written
		{all - 1, 5, api.Op{Phase: api.PhSet, Full: true, Word: all - 1}, all, 5, api.Op{Phase: api.PhMark, Full: true, At: 1, Word: all}},
		{all - 3, 5, api.Op{Phase: api.PhSet, Full: true, Word: all - 3}, all - 2, 5, api.Op{}},
		{all, 5, api.Op{Phase: api.PhSet, Word: all}, all - 1, 5, api.Op{Phase: api.PhMark, At: 1, Word: all - 1}},
		{3, 5, api.Op{Phase: api.PhSet, Word: 3}, 2, 5, api.Op{Phase: api.PhMark, At: 1, Word: 2}},
		// somebody else was faster
		{7, 5, api.Op{Phase: api.PhSet, Full: true, Word: all - 1}, 7, 5, api.Op{Phase: api.PhMark, Full: true, At: 1, Word: all}},
		{all, 5, api.Op{Phase: api.PhSet, Full: true, Word: all - 3}, all, 5, api.Op{}},
		{7, 5, api.Op{Phase: api.PhSet, Word: 3}, 7, 5, api.Op{Phase: api.PhMark, At: 1, Word: 2}},
		{all - 1, 5, api.Op{Phase: api.PhSet, Word: all}, all - 1, 5, api.Op{Phase: api.PhMark, At: 1, Word: all - 1}},
		// the bit is in Word as Full has it already
		{all, 5, api.Op{Phase: api.PhSet, Full: true, Word: all}, all, 5, api.Op{Phase: api.PhMark, Full: true, At: 1, Word: all}},
		{0, 5, api.Op{Phase: api.PhSet}, 0, 5, api.Op{Phase: api.PhMark, At: 1}},
		// the root is read
		{3, all - 1, api.Op{Phase: api.PhMark, Full: true, At: 1, Word: all}, 3, all - 1, api.Op{Phase: api.PhSet, Full: true, At: 1, Word: all - 1}},
		{3, all, api.Op{Phase: api.PhMark, Full: true, At: 1, Word: all}, 3, all, api.Op{}},
		{3, 1, api.Op{Phase: api.PhMark, Full: true, At: 1, Word: all}, 3, 1, api.Op{}},
		{3, all, api.Op{Phase: api.PhMark, At: 1, Word: 2}, 3, all, api.Op{Phase: api.PhSet, At: 1, Word: all}},
		{3, 6, api.Op{Phase: api.PhMark, At: 1, Word: 2}, 3, 6, api.Op{}},
		// the root is written
		{3, all - 1, api.Op{Phase: api.PhSet, Full: true, At: 1, Word: all - 1}, 3, all, api.Op{}},
		{3, 4, api.Op{Phase: api.PhSet, Full: true, At: 1, Word: 4}, 3, 5, api.Op{}},
		{3, all, api.Op{Phase: api.PhSet, At: 1, Word: all}, 3, all - 1, api.Op{}},
		{3, 4, api.Op{Phase: api.PhSet, Full: true, At: 1, Word: 6}, 3, 4, api.Op{}},
		{3, 7, api.Op{Phase: api.PhSet, At: 1, Word: 5}, 3, 7, api.Op{}},
	} {
		l, o := Step(c, []uint64{9, x.top, x.root}, x.o)
		if !slices.Equal(l, []uint64{9, x.wtop, x.wroot}) || !reflect.DeepEqual(o, x.want) {
			t.Errorf("%d: %#x, %+v, not %+v", i, l, o, x.want)
		}
	}
}

// meant is what a step of marking makes, from the chapter's words: by digits, and with the
// cell told by the shape.
func meant(s shape, l []uint64, o api.Op, goes func(api.Op) api.Op) ([]uint64, api.Op) {
	l = slices.Clone(l)
	cell, bit := s.cell(o.Leaf, o.At)
	if o.Phase == api.PhMark {
		o.Word = l[cell]
		if digits(o.Word)[bit] != o.Full {
			o.Phase = api.PhSet
			return l, o
		}
	} else {
		become := with(o.Word, bit, o.Full)
		if l[cell] == o.Word {
			l[cell] = become
		}
		o.Word = become
	}
	if o.At == 1 || o.Full && slices.Contains(sliceOf(o.Word), false) {
		return l, goes(o)
	}
	o.Phase, o.At = api.PhMark, 1
	return l, o
}

func sliceOf(w uint64) []bool {
	d := digits(w)
	return d[:]
}

// starts are operations of that leaf, in each phase, at the top and at the root, with the
// cell's word and with others in Word.
func starts(leaf int, w uint64, kind int, addrs ...uint32) []api.Op {
	var l []api.Op
	for _, phase := range []int{api.PhMark, api.PhSet} {
		for at := range 2 {
			for _, full := range []bool{false, true} {
				for _, read := range []uint64{w, ^w, 0, all} {
					o := whole(kind, addrs...)
					o.Phase, o.At, o.Full, o.Word, o.Leaf = phase, at, full, read, leaf
					l = append(l, o)
				}
			}
		}
	}
	return l
}

func TestStepOfBlocksOfOneTopAndOfSeveral(t *testing.T) { // P8.1, P8.2: no other cell changes
	for _, s := range shapes() {
		c := of(s.prefix)
		for _, leaf := range s.some() {
			for _, w := range []uint64{0, 1, all, all - 1, with(all, leaf%64, false), with(all, leaf/64, false), with(0, leaf%64, true), 0x5555555555555555} {
				l := s.cells(w)
				top, _ := s.cell(leaf, 0)
				root, _ := s.cell(leaf, 1)
				l[top], l[root] = w, w
				for _, o := range starts(leaf, w, api.Grant) {
					wl, wo := meant(s, l, o, ended)
					if gl, got := Step(c, l, o); !slices.Equal(gl, wl) || !reflect.DeepEqual(got, wo) {
						t.Fatalf("/%d, the leaf %d, a cell of %#x, %+v: %+v, not %+v", s.prefix, leaf, w, o, got, wo)
					}
				}
			}
		}
	}
}

// Each bit of a top and of the root, each word.
func TestStepOfEachWord(t *testing.T) { // P8.1
	s := shape{16, 2048, 32}
	c := of(16)
	l := s.cells(3)
	for i, w := range words() {
		for _, leaf := range []int{i % 64 * 33 % 2048, i * 7 % 64, 1984 + i%64} {
			top, _ := s.cell(leaf, 0)
			root, _ := s.cell(leaf, 1)
			l[top], l[root] = w, w
			for _, o := range starts(leaf, w, api.Release) {
				wl, wo := meant(s, l, o, ended)
				if gl, got := Step(c, l, o); !slices.Equal(gl, wl) || !reflect.DeepEqual(got, wo) {
					t.Fatalf("the leaf %d, a cell of %#x, %+v: %+v, not %+v", leaf, w, o, got, wo)
				}
			}
		}
	}
}

// Where its step ends the marking, a batch is at its further address, if it has one.
func TestStepOfABatchGoesOn(t *testing.T) { // P8.1
	s := shape{20, 128, 2}
	c := of(20)
	addrs := []uint32{0x0a010005, 0x0a010064, 0x0a010fff}
	goes := func(o api.Op) api.Op {
		x := ended(o)
		switch o.Item {
		case 0:
			x.Phase, x.Item, x.Leaf, x.Bit = api.PhRead, 1, 3, 4
		case 1:
			x.Phase, x.Item, x.Leaf, x.Bit = api.PhRead, 2, 127, 31
		}
		return x
	}
	ends := 0
	for _, item := range []int{0, 1, 2, 3, math.MaxInt} {
		for _, leaf := range s.some() {
			for _, w := range []uint64{0, all, with(all, leaf%64, false), with(all, leaf/64, false), 5} {
				l := s.cells(w)
				top, _ := s.cell(leaf, 0)
				l[top], l[130] = w, w
				for _, o := range starts(leaf, w, api.Batch, addrs...) {
					o.Item = item
					wl, wo := meant(s, l, o, goes)
					gl, got := Step(c, l, o)
					if !slices.Equal(gl, wl) || !reflect.DeepEqual(got, wo) {
						t.Fatalf("the item %d, the leaf %d, a cell of %#x: %+v, not %+v", item, leaf, w, got, wo)
					}
					if got.Phase == api.PhRead {
						ends++
					}
				}
			}
		}
	}
	if ends == 0 {
		t.Error("no batch went on")
	}
}

// alone does steps until the marking is at its end, and tells how many.
func alone(c api.Conf, l []uint64, o api.Op) ([]uint64, api.Op, int) {
	n := 0
	for ; (o.Phase == api.PhMark || o.Phase == api.PhSet) && n < 9; n++ {
		l, o = Step(c, l, o)
	}
	return l, o, n
}

func TestALeafThatBecameFullOfABlockOfOneLeaf(t *testing.T) { // P8.1, P8.2, the chapter's example
	for prefix := 27; prefix <= 32; prefix++ {
		c := of(prefix)
		l := []uint64{0xffffffff, all - 1, all - 1}
		o := api.Op{Ask: api.Ask{Kind: api.Grant}, Phase: api.PhMark, Full: true}
		for i, x := range []struct {
			top, root uint64
			phase, at int
		}{{all - 1, all - 1, api.PhSet, 0}, {all, all - 1, api.PhMark, 1}, {all, all - 1, api.PhSet, 1}, {all, all, api.PhDone, 0}} {
			l, o = Step(c, l, o)
			if !slices.Equal(l, []uint64{0xffffffff, x.top, x.root}) || o.Phase != x.phase || o.At != x.at {
				t.Fatalf("/%d, the step %d: %#x, %+v", prefix, i, l, o)
			}
		}
		l, o, n := alone(c, l, api.Op{Ask: api.Ask{Kind: api.Release}, Phase: api.PhMark})
		if !slices.Equal(l, []uint64{0xffffffff, all - 1, all - 1}) || n != 4 || o.Phase != api.PhDone {
			t.Fatalf("/%d, back: %#x, %d steps, %+v", prefix, l, n, o)
		}
	}
}

// With nobody else: at most four steps, the top's bit is Full, no leaf changes, and no other
// bit; the root's is Full too where it has to be.
func TestAMarkingAlone(t *testing.T) { // P8.2
	most := 0
	for _, s := range shapes() {
		c := of(s.prefix)
		for _, leaf := range s.some() {
			for _, w := range []uint64{0, all, with(all, leaf%64, false), with(all, (leaf+1)%64, false), 0x5555555555555555} {
				for _, r := range []uint64{0, all, with(all, leaf/64, false), with(0, leaf/64, true)} {
					for _, full := range []bool{false, true} {
						l := s.cells(w + r)
						top, bit := s.cell(leaf, 0)
						root, of := s.cell(leaf, 1)
						l[top], l[root] = w, r
						want := slices.Clone(l)
						want[top] = with(w, bit, full)
						if !full || want[top] == all {
							want[root] = with(r, of, full)
						}
						got, o, n := alone(c, l, api.Op{Phase: api.PhMark, Leaf: leaf, Full: full})
						if !slices.Equal(got, want) || o.Phase != api.PhDone || n > 4 {
							t.Fatalf("/%d, the leaf %d, %v, %#x and %#x: %#x, %d steps, %+v", s.prefix, leaf, full, w, r, got[s.leaves:], n, o)
						}
						most = max(most, n)
					}
				}
			}
		}
	}
	if most != 4 {
		t.Errorf("at most %d steps", most)
	}
}

// Whoever writes between: a marking takes at most four steps, and changes no leaf.
func TestAMarkingAmongOthers(t *testing.T) { // P8.2
	s := shape{20, 128, 2}
	c := of(20)
	for seed := range uint64(2000) {
		leaf := int(seed * 37 % 128)
		l := s.cells(seed)
		leaves := slices.Clone(l[:128])
		o := api.Op{Phase: api.PhMark, Leaf: leaf, Full: seed%2 == 0}
		top, bit := s.cell(leaf, 0)
		l[top] = with(all, bit, seed%2 == 1)
		n := 0
		for ; o.Phase != api.PhDone && n < 9; n++ {
			l, o = Step(c, l, o)
			l = slices.Clone(l)
			if seed>>uint(n+1)%2 == 1 {
				l[128+seed%3] ^= 1 << (seed % 64)
			}
		}
		if n > 4 || !slices.Equal(l[:128], leaves) {
			t.Fatalf("%d: %d steps, or a leaf changed", seed, n)
		}
	}
}

func TestFindFromEachToEach(t *testing.T) { // P8.1
	for _, w := range words() {
		d := digits(w)
		for from := range 65 {
			first, ok := 0, false
			for to := range 65 {
				if i := to - 1; i >= from && !d[i] && !ok {
					first, ok = i, true
				}
				if got, is := Find(w, from, to); got != first || is != ok {
					t.Fatalf("Find(%#x, %d, %d): %d %v, not %d %v", w, from, to, got, is, first, ok)
				}
			}
		}
	}
}

func TestFindByHand(t *testing.T) { // P8.1
	for _, x := range []struct {
		w        uint64
		from, to int
		bit      int
		ok       bool
	}{
		{0, 0, 64, 0, true}, {0, 0, 1, 0, true}, {0, 63, 64, 63, true}, {0, 5, 64, 5, true}, {0, 62, 63, 62, true},
		{0, 0, 0, 0, false}, {0, 5, 5, 0, false}, {0, 64, 64, 0, false}, {0, 6, 5, 0, false}, {0, 64, 0, 0, false}, {0, 64, 63, 0, false},
		{all, 0, 64, 0, false}, {all, 63, 64, 0, false}, {all, 5, 3, 0, false},
		{0b1011, 0, 4, 2, true}, {0b1011, 2, 3, 2, true}, {0b1011, 3, 4, 0, false}, {0b1011, 3, 5, 4, true}, {0b1011, 0, 2, 0, false},
		{all >> 1, 0, 64, 63, true}, {all >> 1, 0, 63, 0, false}, {all - 1, 0, 64, 0, true}, {all - 1, 1, 64, 0, false},
		// the chapter bounds from below and to above
		{0, math.MaxInt, 64, 0, false}, {0, 65, 64, 0, false}, {0, 0, -1, 0, false}, {0, 3, math.MinInt, 0, false}, {0, math.MaxInt, math.MinInt, 0, false},
	} {
		if bit, ok := Find(x.w, x.from, x.to); bit != x.bit || ok != x.ok {
			t.Errorf("Find(%#x, %d, %d): %d %v", x.w, x.from, x.to, bit, ok)
		}
	}
}

// roomy is l with such a one behind its length, so that a write there shows.
func roomy[T any](room T, l ...T) []T { return append(slices.Clone(l), room, room)[:len(l)] }

// held is an operation whose lists have room behind them; held again, it is the same.
func held(kind, phase, at int, full bool, w uint64) api.Op {
	o := whole(kind)
	o.Phase, o.At, o.Full, o.Word = phase, at, full, w
	o.Ask.Addrs = roomy(77, uint32(0x0a010005), 0x0a010006, 0x0a010007)
	o.Answer.Addrs = roomy(77, uint32(4), 5)
	o.Answer.Errs = roomy(api.ErrBusy, api.ErrFree, api.OK)
	o.Seen = roomy(77, uint64(21), 22, 23)
	return o
}

// rooms are the operation's lists with the room behind them.
func rooms(o api.Op) []any {
	return []any{o.Ask.Addrs[:5], o.Answer.Addrs[:4], o.Answer.Errs[:4], o.Seen[:5]}
}

// scrawl writes into all that an answer has for itself: not into the request's.
func scrawl(o api.Op) {
	fill(o.Answer.Addrs, 1234)
	fill(o.Answer.Errs, 1234)
	fill(o.Seen, 1234)
}

// fill writes x into a list, and into the room behind it.
func fill[T any](l []T, x T) {
	for i := range l[:cap(l)] {
		l[:cap(l)][i] = x
	}
}

// each calls f with operations in each phase, at the top and at the root, of a batch and of a
// grant, before a top and a root of all - 1: read, written, and overtaken.
func each(f func(kind, phase, at int, full bool, w uint64)) {
	for _, kind := range []int{api.Batch, api.Grant} {
		for _, phase := range []int{api.PhMark, api.PhSet} {
			for at := range 2 {
				for _, full := range []bool{false, true} {
					for _, w := range []uint64{all - 1, all, 0} {
						f(kind, phase, at, full, w)
					}
				}
			}
		}
	}
}

func TestWhatIsHandedInStays(t *testing.T) { // P8.3
	each(func(kind, phase, at int, full bool, w uint64) {
		c := of(27, roomy(9, 1, 2)...)
		l := roomy(77, 9, all-1, all-1)
		o, was := held(kind, phase, at, full, w), held(kind, phase, at, full, w)
		Goes(c, o)
		Step(c, l, o)
		if !slices.Equal(l[:5], []uint64{9, all - 1, all - 1, 77, 77}) || !slices.Equal(c.Held[:4], []int{1, 2, 9, 9}) {
			t.Errorf("%+v: cells, or Held, changed: %#x, %v", was, l[:5], c.Held[:4])
		}
		if !reflect.DeepEqual(o, was) || !reflect.DeepEqual(rooms(o), rooms(was)) {
			t.Errorf("%+v changed: %+v", was, o)
		}
	})
}

// The lists of an answer are its own, but the request's; so are cells that were written.
func TestWhatIsAnsweredIsNewMemory(t *testing.T) { // P8.3
	each(func(kind, phase, at int, full bool, w uint64) {
		c := of(27)
		l := roomy(77, 9, all-1, all-1)
		o, was := held(kind, phase, at, full, w), held(kind, phase, at, full, w)
		goes, again := Goes(c, o), Goes(c, o)
		m, step := Step(c, l, o)
		_, other := Step(c, l, o)
		scrawl(goes)
		scrawl(step)
		if !slices.Equal(m, l) {
			fill(m, 1234)
		}
		if !reflect.DeepEqual(o, was) || !reflect.DeepEqual(rooms(o), rooms(was)) {
			t.Errorf("%+v: a write into the answer shows in what was handed in: %+v", was, o)
		}
		if !slices.Equal(l[:5], []uint64{9, all - 1, all - 1, 77, 77}) {
			t.Errorf("%+v: a write into the answer's cells shows in those that were handed in", was)
		}
		for _, x := range []api.Op{again, other} {
			if !reflect.DeepEqual(x.Answer, was.Answer) || !slices.Equal(x.Seen, was.Seen) {
				t.Errorf("%+v: a write into an answer shows in another one: %+v", was, x)
			}
		}
	})
}

// Two lists of one answer share nothing, though those that were handed in did.
func TestNoTwoListsOfAnAnswerShareMemory(t *testing.T) { // P8.3
	one := []uint32{0x0a010005, 0x0a010006}
	o := api.Op{Ask: api.Ask{Kind: api.Batch, Addrs: one}, Answer: api.Answer{Addrs: one}, Phase: api.PhMark}
	_, step := Step(of(27), []uint64{9, all - 1, all - 1}, o)
	for _, x := range []api.Op{Goes(of(27), o), step} {
		scrawl(x)
		if !slices.Equal(x.Ask.Addrs, []uint32{0x0a010005, 0x0a010006}) {
			t.Errorf("%+v", x)
		}
	}
}

// What stands in the room behind the lists' lengths is none of theirs.
func TestRoomIsNone(t *testing.T) { // P8.1
	o := api.Op{Ask: api.Ask{Kind: api.Batch, Addrs: roomy(0x0a010006, uint32(0x0a010005))}}
	if got := Goes(of(27), o); got.Phase != api.PhDone || got.Item != 0 {
		t.Errorf("%+v", got)
	}
}

// Nil and empty lists are one, handed in and answered.
func TestNilAndEmptyLists(t *testing.T) { // P8.1
	empty := api.Op{Ask: api.Ask{Kind: api.Batch, Addrs: []uint32{}}, Answer: api.Answer{Addrs: []uint32{}, Errs: []api.Errno{}}, Phase: api.PhSet, Seen: []uint64{}}
	for _, o := range []api.Op{empty, {Ask: api.Ask{Kind: api.Batch}, Phase: api.PhSet}} {
		l, s := Step(of(27), []uint64{9, 5, 5}, o)
		g := Goes(of(27), o)
		if !slices.Equal(l, []uint64{9, 5, 5}) || s.Phase != api.PhMark || s.At != 1 || g.Phase != api.PhDone {
			t.Errorf("%#x, %+v, %+v", l, s, g)
		}
		for _, x := range []api.Op{s, g} {
			if len(x.Ask.Addrs)+len(x.Answer.Addrs)+len(x.Answer.Errs)+len(x.Seen) != 0 {
				t.Errorf("%+v", x)
			}
		}
	}
}

// The chapter promises nothing of these but that the calls end and don't panic; where there
// is no step, all stays.
func TestNothingPanics(t *testing.T) { // P1
	odd := []int{math.MinInt, -65536, -64, -1, 0, 1, 2, 9, 64, 2048, 65536, math.MaxInt}
	for _, c := range []api.Conf{{}, of(27), of(16), of(-1), of(33), of(math.MaxInt), of(math.MinInt)} {
		for _, n := range odd {
			for _, phase := range []int{-1, api.PhDone, api.PhMark, api.PhSet, api.PhRead, 10} {
				for _, at := range odd {
					o := api.Op{Ask: api.Ask{Kind: api.Batch, Addrs: []uint32{0, 1 << 31, math.MaxUint32}}, Phase: phase, Leaf: n, Bit: n, At: at, Item: n}
					Goes(c, o)
					for _, l := range [][]uint64{nil, {5}, {5, 6, 7}} {
						m, p := Step(c, l, o)
						if at != 0 && at != 1 || phase != api.PhMark && phase != api.PhSet {
							if !slices.Equal(m, l) || !reflect.DeepEqual(p, o) {
								t.Fatalf("the phase %d, at %d: %#x, %+v", phase, at, m, p)
							}
						}
					}
				}
			}
			for _, to := range odd {
				Find(5, n, to)
			}
		}
	}
}

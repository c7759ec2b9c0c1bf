package block

import (
	"math"
	"slices"
	"testing"

	"lodger/api"
)

// right answers an ordinary configuration that may be: 256 addresses, three reserved.
func right() api.Conf {
	return api.Conf{Block: api.Block{Base: 0x0a000100, Prefix: 24}, Held: []int{0, 7, 255}, Shards: 2, Workers: 3, Queue: 4, Tries: 5}
}

// of answers a configuration of that block and those reserved offsets.
func of(b api.Block, held []int) api.Conf {
	c := right()
	c.Block, c.Held = b, held
	return c
}

// counted answers the n offsets from the first one on.
func counted(first, n int) []int {
	var l []int
	for i := range n {
		l = append(l, first+i)
	}
	return l
}

// many is how many addresses a block has, by doubling, so that the tests hold the package's
// shift against something else.
func many(b api.Block) int {
	n := 1
	for p := 32; p > b.Prefix; p-- {
		n *= 2
	}
	return n
}

// last is the block's last address, as a number that can't wrap round.
func last(b api.Block) int64 { return int64(b.Base) + int64(many(b)) - 1 }

// blocks are those that may be, that the tests go through: of each prefix the first block
// of all, the second one, one between, and the last one, which ends at 2^32 - 1.
func blocks() []api.Block {
	var l []api.Block
	for p := 16; p <= 32; p++ {
		n := uint64(many(api.Block{Prefix: p}))
		for _, base := range []uint64{0, n, 0x0a010000, 0x80000000 - n, 0x80000000, 1<<32 - n} {
			l = append(l, api.Block{Base: uint32(base), Prefix: p})
		}
	}
	return l
}

// helds are lists of offsets that may be reserved of n: none, the first, the last, all that
// may be from the first on, and up to the last, and some with gaps.
func helds(n int) [][]int {
	most := min(n, 64)
	l := [][]int{nil, {}, {0}, {n - 1}, {n / 2}, counted(0, most), counted(n-most, most)}
	if n >= 4 {
		l = append(l, []int{0, n - 1}, []int{1, n - 2}, []int{0, 2, n - 1})
	}
	if n >= 512 {
		var gaps []int
		for i := range 64 {
			gaps = append(gaps, i*(n/64)+i%3)
		}
		l = append(l, gaps)
	}
	return l
}

// confs are the configurations that may be, that the tests go through.
func confs() []api.Conf {
	var l []api.Conf
	for _, b := range blocks() {
		for _, held := range helds(many(b)) {
			l = append(l, of(b, held))
		}
	}
	return l
}

// near are addresses in and about the block: the ends of all, its own ends, and those ahead
// of and behind them, as far as there are any, and some within.
func near(b api.Block) []uint32 {
	first, end := int64(b.Base), last(b)
	l := []uint32{0, 1, 0x7fffffff, 0x80000000, math.MaxUint32 - 1, math.MaxUint32}
	for _, a := range []int64{
		first - 65536, first - 2, first - 1, first, first + 1, first + 7, first + 63, first + 64, first + 65,
		(first + end) / 2, end - 64, end - 63, end - 1, end, end + 1, end + 2, end + 65536, first + 1<<31, first - 1<<31,
	} {
		if a >= 0 && a <= math.MaxUint32 {
			l = append(l, uint32(a))
		}
	}
	return l
}

// meant is what Offset must answer.
func meant(b api.Block, a uint32) (int, api.Errno) {
	if int64(a) < int64(b.Base) || int64(a) > last(b) {
		return 0, api.ErrOutside
	}
	return int(int64(a) - int64(b.Base)), api.OK
}

func TestConfigurationsThatMayBe(t *testing.T) { // P5.1
	for _, c := range confs() {
		if !May(c) {
			t.Errorf("it may not be: %v", c)
		}
	}
}

func TestMayOfBlocks(t *testing.T) { // P5.1
	for _, x := range []struct {
		base   uint32
		prefix int
		want   bool
	}{
		{0, math.MinInt, false}, {0, -32, false}, {0, -31, false}, {0, -1, false}, {0, 0, false}, {0, 15, false}, {0, 16, true},
		{0, 31, true}, {0, 32, true}, {0, 33, false}, {0, 64, false}, {0, 1<<32 + 24, false}, {0, math.MaxInt, false},
		{0x0a000100, 24, true}, {0x0a000101, 24, false}, {0x0a000180, 24, false}, {0x0a000100, 23, false}, {0x0a000100, 22, false},
		{0x0a018000, 16, false}, {0x0a010001, 16, false}, {0x0a010000, 16, true}, {0x0a010000, 15, false},
		{0xffff0000, 16, true}, {0xfffe0000, 15, false}, {math.MaxUint32 - 1, 31, true}, {math.MaxUint32, 31, false},
		{math.MaxUint32, 32, true}, {math.MaxUint32, 33, false}, {math.MaxUint32, 16, false}, {math.MaxUint32, -1, false},
	} {
		if got := May(of(api.Block{Base: x.base, Prefix: x.prefix}, nil)); got != x.want {
			t.Errorf("May of the block %#x/%d: %v", x.base, x.prefix, got)
		}
	}
	if May(api.Conf{}) {
		t.Error("a zero configuration may be")
	}
}

// Whatever is reserved, a block that may not be is one; nothing panics at its Prefix.
func TestMayOfBlocksThatMayNotBeWithHeld(t *testing.T) { // P5.1
	for _, p := range []int{math.MinInt, -64, -33, -32, -31, -1, 0, 15, 33, 64, 96, math.MaxInt} {
		for _, held := range [][]int{{0}, {-1}, {0, 1, 2}, {math.MaxInt}, {math.MinInt, math.MaxInt}, counted(0, 65)} {
			if c := of(api.Block{Prefix: p}, held); May(c) {
				t.Errorf("the prefix %d may be, with %v", p, held)
			}
		}
	}
}

func TestMayOfHeld(t *testing.T) { // P5.1
	small, whole := api.Block{Base: 0xfffffff0, Prefix: 28}, api.Block{Base: 0x0a010000, Prefix: 16}
	single, pair := api.Block{Base: math.MaxUint32, Prefix: 32}, api.Block{Base: 0x0a000002, Prefix: 31}
	hosts := api.Block{Base: 0x0a000040, Prefix: 26} // it has 64 addresses
	for _, x := range []struct {
		b    api.Block
		held []int
		want bool
	}{
		{small, nil, true}, {small, []int{}, true}, {small, []int{0}, true}, {small, []int{15}, true}, {small, []int{0, 15}, true}, {small, counted(0, 16), true},
		{small, []int{16}, false}, {small, []int{17}, false}, {small, []int{0, 16}, false}, {small, []int{15, 16}, false}, {small, counted(0, 17), false}, {small, counted(1, 16), false},
		{small, []int{-1}, false}, {small, []int{-1, 0}, false}, {small, []int{-16}, false}, {small, []int{math.MinInt}, false}, {small, []int{math.MaxInt}, false}, {small, []int{0, math.MaxInt}, false}, {small, []int{5, math.MinInt}, false},
		{small, []int{3, 3}, false}, {small, []int{0, 0}, false}, {small, []int{15, 15}, false}, {small, []int{1, 3, 3, 4}, false}, {small, []int{3, 4, 3}, false}, {small, []int{2, 3, 4, 4}, false},
		{small, []int{3, 2}, false}, {small, []int{1, 0}, false}, {small, []int{15, 0}, false}, {small, []int{0, 5, 4, 6}, false}, {small, []int{0, 1, 2, 1}, false}, {small, []int{2, 0, 1}, false},
		{small, []int{1 << 32}, false}, {small, []int{1<<32 + 3}, false}, {small, []int{-1 << 32}, false}, {small, []int{0xfffffff0}, false},
		{single, nil, true}, {single, []int{0}, true}, {single, []int{1}, false}, {single, []int{0, 1}, false}, {single, []int{-1}, false}, {single, []int{0, 0}, false},
		{pair, []int{0}, true}, {pair, []int{1}, true}, {pair, []int{0, 1}, true}, {pair, []int{1, 0}, false}, {pair, []int{2}, false}, {pair, []int{0, 1, 2}, false},
		{hosts, counted(0, 64), true}, {hosts, counted(0, 65), false}, {hosts, counted(1, 64), false}, {hosts, counted(1, 63), true},
		{whole, counted(0, 63), true}, {whole, counted(0, 64), true}, {whole, counted(0, 65), false}, {whole, counted(0, 66), false}, {whole, counted(0, 1000), false},
		{whole, counted(65536-64, 64), true}, {whole, counted(65536-65, 65), false}, {whole, counted(65536-63, 64), false},
		{whole, []int{0, 65535}, true}, {whole, []int{65535}, true}, {whole, []int{65536}, false}, {whole, []int{65535, 0}, false},
	} {
		if got := May(of(x.b, x.held)); got != x.want {
			t.Errorf("May of %v with Held %v: %v", x.b, x.held, got)
		}
	}
}

// One of 64 reserved offsets is amiss: at each place, too little by one, or beyond the block.
func TestMayOfHeldWithOneAmiss(t *testing.T) { // P5.1
	b := api.Block{Base: 0x0a010000, Prefix: 16}
	for at := range 64 {
		for _, x := range []int{-1, at - 1, 65536, math.MinInt, math.MaxInt} {
			held := counted(0, 64)
			held[at] = x
			if May(of(b, held)) {
				t.Errorf("it may be with %d at %d", x, at)
			}
		}
	}
}

func TestMayOfNumbers(t *testing.T) { // P5.1
	for name, x := range map[string]struct {
		field func(*api.Conf) *int
		most  int
	}{
		"Shards":  {func(c *api.Conf) *int { return &c.Shards }, 64},
		"Workers": {func(c *api.Conf) *int { return &c.Workers }, 64},
		"Queue":   {func(c *api.Conf) *int { return &c.Queue }, 64},
		"Tries":   {func(c *api.Conf) *int { return &c.Tries }, 8},
	} {
		numbers := append(counted(-70, 140), math.MinInt, math.MinInt32, -1<<32, -1<<32+1, 128, 256, 256+1, 1<<16+1, 1<<32, 1<<32+1, math.MaxInt32, math.MaxInt)
		for _, n := range numbers {
			c := right()
			*x.field(&c) = n
			if got := May(c); got != (n >= 1 && n <= x.most) {
				t.Errorf("May with %s %d: %v", name, n, got)
			}
		}
	}
	for _, c := range []api.Conf{
		{Block: right().Block, Shards: 1, Workers: 1, Queue: 1, Tries: 1},
		{Block: right().Block, Shards: 64, Workers: 64, Queue: 64, Tries: 8},
	} {
		if !May(c) {
			t.Errorf("all at their edges: it may not be: %v", c)
		}
	}
}

func TestMany(t *testing.T) { // P5.1
	for p, want := range map[int]int{16: 65536, 17: 32768, 20: 4096, 23: 512, 24: 256, 25: 128, 26: 64, 27: 32, 28: 16, 29: 8, 30: 4, 31: 2, 32: 1} {
		if got := Many(api.Block{Prefix: p}); got != want {
			t.Errorf("Many of a prefix %d: %d", p, got)
		}
	}
	for _, b := range blocks() {
		if got := Many(b); got != many(b) {
			t.Errorf("Many(%v): %d", b, got)
		}
	}
}

func TestOffsetAndAddressByHand(t *testing.T) { // P5.1, the chapter's example the first
	for _, x := range []struct {
		b   api.Block
		a   uint32
		off int
	}{
		{api.Block{Base: 0x0a000004, Prefix: 30}, 0x0a000007, 3},
		{api.Block{Base: 0x0a000004, Prefix: 30}, 0x0a000004, 0},
		{api.Block{Base: 0x0a000100, Prefix: 24}, 0x0a0001ff, 255},
		{api.Block{Base: 0, Prefix: 16}, 0, 0},
		{api.Block{Base: 0, Prefix: 16}, 0xffff, 65535},
		{api.Block{Base: 0xffff0000, Prefix: 16}, math.MaxUint32, 65535},
		{api.Block{Base: math.MaxUint32 - 1, Prefix: 31}, math.MaxUint32, 1},
		{api.Block{Base: math.MaxUint32, Prefix: 32}, math.MaxUint32, 0},
		{api.Block{Base: 0, Prefix: 32}, 0, 0},
	} {
		if off, e := Offset(x.b, x.a); off != x.off || e != api.OK {
			t.Errorf("Offset(%v, %#x): %d, %d", x.b, x.a, off, e)
		}
		if a := Address(x.b, x.off); a != x.a {
			t.Errorf("Address(%v, %d): %#x", x.b, x.off, a)
		}
	}
}

func TestOffsetOfAddressesOutside(t *testing.T) { // P5.1
	for _, x := range []struct {
		b api.Block
		a uint32
	}{
		{api.Block{Base: 0x0a000004, Prefix: 30}, 0x0a000003}, {api.Block{Base: 0x0a000004, Prefix: 30}, 0x0a000008},
		{api.Block{Base: 0x0a000004, Prefix: 30}, 0}, {api.Block{Base: 0x0a000004, Prefix: 30}, math.MaxUint32},
		{api.Block{Base: 0x0a000004, Prefix: 30}, 0x0b000005}, {api.Block{Base: 0x0a000004, Prefix: 30}, 3},
		{api.Block{Base: 0, Prefix: 16}, 0x10000}, {api.Block{Base: 0, Prefix: 16}, math.MaxUint32},
		{api.Block{Base: 0, Prefix: 32}, 1}, {api.Block{Base: 0, Prefix: 32}, math.MaxUint32},
		{api.Block{Base: 0xffff0000, Prefix: 16}, 0xfffeffff}, {api.Block{Base: 0xffff0000, Prefix: 16}, 0}, {api.Block{Base: 0xffff0000, Prefix: 16}, 1},
		{api.Block{Base: math.MaxUint32, Prefix: 32}, math.MaxUint32 - 1}, {api.Block{Base: math.MaxUint32, Prefix: 32}, 0},
		{api.Block{Base: math.MaxUint32 - 1, Prefix: 31}, math.MaxUint32 - 2}, {api.Block{Base: math.MaxUint32 - 1, Prefix: 31}, 0},
	} {
		if off, e := Offset(x.b, x.a); off != 0 || e != api.ErrOutside {
			t.Errorf("Offset(%v, %#x): %d, %d", x.b, x.a, off, e)
		}
		if off, e := Find(of(x.b, []int{0}), x.a); off != 0 || e != api.ErrOutside {
			t.Errorf("Find of %v, %#x: %d, %d", x.b, x.a, off, e)
		}
	}
}

func TestOffsetAboutEachBlock(t *testing.T) { // P5.1
	for _, b := range blocks() {
		for _, a := range near(b) {
			want, err := meant(b, a)
			if off, e := Offset(b, a); off != want || e != err {
				t.Errorf("Offset(%v, %#x): %d, %d; not %d, %d", b, a, off, e, want, err)
			}
		}
	}
}

func TestHeldOfEachConfiguration(t *testing.T) { // P5.2
	for _, c := range confs() {
		n := many(c.Block)
		is := map[int]bool{}
		for _, off := range c.Held {
			is[off] = true
		}
		for off := -2; off < n+2; off++ {
			if Held(c, off) != is[off] {
				t.Fatalf("Held(%v, %d): not %v", c, off, is[off])
			}
		}
	}
}

func TestUsable(t *testing.T) { // P5.2
	for _, x := range []struct {
		prefix int
		held   []int
		want   int
	}{
		{16, nil, 65536}, {16, counted(0, 64), 65472}, {16, []int{65535}, 65535}, {24, []int{0, 255}, 254},
		{26, counted(0, 64), 0}, {26, counted(0, 63), 1}, {30, []int{0, 3}, 2}, {31, nil, 2}, {31, []int{1}, 1}, {31, []int{0, 1}, 0},
		{32, nil, 1}, {32, []int{}, 1}, {32, []int{0}, 0},
	} {
		if got := Usable(of(api.Block{Prefix: x.prefix}, x.held)); got != x.want {
			t.Errorf("Usable of the prefix %d with %v reserved: %d", x.prefix, x.held, got)
		}
	}
	for _, c := range confs() {
		free := 0
		for off := range many(c.Block) {
			if _, is := slices.BinarySearch(c.Held, off); !is {
				free++
			}
		}
		if got := Usable(c); got != free {
			t.Errorf("Usable(%v): %d, not %d", c, got, free)
		}
	}
}

func TestFindByHand(t *testing.T) { // P5.2
	c := of(api.Block{Base: 0xfffffff0, Prefix: 28}, []int{0, 7, 15})
	for _, x := range []struct {
		a   uint32
		off int
		e   api.Errno
	}{
		{0, 0, api.ErrOutside}, {7, 0, api.ErrOutside}, {0xffffffef, 0, api.ErrOutside}, {0x7ffffff7, 0, api.ErrOutside},
		{0xfffffff0, 0, api.ErrReserved}, {0xfffffff1, 1, api.OK}, {0xfffffff6, 6, api.OK}, {0xfffffff7, 0, api.ErrReserved},
		{0xfffffff8, 8, api.OK}, {0xfffffffe, 14, api.OK}, {0xffffffff, 0, api.ErrReserved},
	} {
		if off, e := Find(c, x.a); off != x.off || e != x.e {
			t.Errorf("Find of %#x: %d, %d", x.a, off, e)
		}
	}
}

func TestFindAboutEachBlock(t *testing.T) { // P5.2
	for _, c := range confs() {
		addresses := near(c.Block)
		for _, off := range c.Held {
			a := c.Block.Base + uint32(off)
			addresses = append(addresses, a-1, a, a+1)
		}
		for _, a := range addresses {
			want, err := meant(c.Block, a)
			if _, is := slices.BinarySearch(c.Held, want); is && err == api.OK {
				want, err = 0, api.ErrReserved
			}
			if off, e := Find(c, a); off != want || e != err {
				t.Fatalf("Find(%v, %#x): %d, %d; not %d, %d", c, a, off, e, want, err)
			}
		}
	}
}

func TestABlockAllOfWhoseOffsetsAreReserved(t *testing.T) { // P5.2
	for p := 26; p <= 32; p++ {
		b := api.Block{Base: uint32(1<<32 - uint64(many(api.Block{Prefix: p}))), Prefix: p}
		c := of(b, counted(0, many(b)))
		if !May(c) || Usable(c) != 0 {
			t.Errorf("the prefix %d: %v, %d", p, May(c), Usable(c))
		}
		for off := range many(b) {
			if found, e := Find(c, b.Base+uint32(off)); found != 0 || e != api.ErrReserved || !Held(c, off) {
				t.Errorf("the prefix %d, the offset %d: %d, %d", p, off, found, e)
			}
		}
	}
}

// Each offset of each block: its address is the next one, and leads back to it.
func TestAddressesAndOffsetsAreOneToOne(t *testing.T) { // P5.3
	for _, b := range blocks() {
		next := int64(b.Base)
		for off := range Many(b) {
			a := Address(b, off)
			if int64(a) != next {
				t.Fatalf("Address(%v, %d): %#x", b, off, a)
			}
			if back, e := Offset(b, a); back != off || e != api.OK {
				t.Fatalf("Offset(%v, %#x): %d, %d", b, a, back, e)
			}
			next++
		}
		if next != last(b)+1 {
			t.Errorf("%v ends ahead of %#x", b, next)
		}
	}
}

// The other way round: of all addresses in and about a block just those of it have an
// offset, each another one, and the offset's address is that one.
func TestOffsetsLeadBackToTheirAddresses(t *testing.T) { // P5.3
	for _, b := range blocks() {
		if b.Prefix < 20 {
			continue
		}
		from := map[int]uint32{}
		for i := range 3 * many(b) {
			a := b.Base - uint32(many(b)) + uint32(i) // it may wrap round: to addresses outside
			off, e := Offset(b, a)
			if e != api.OK {
				continue
			}
			if other, is := from[off]; is || Address(b, off) != a {
				t.Fatalf("%v: %#x and %#x have the offset %d", b, a, other, off)
			}
			from[off] = a
		}
		if len(from) != many(b) {
			t.Errorf("%v: %d addresses have offsets", b, len(from))
		}
	}
}

// Find and Held tell of each address of a block one thing: those found are all that are usable.
func TestWhatIsFoundIsUsable(t *testing.T) { // P5.2, P5.3
	for _, c := range confs() {
		if c.Block.Prefix < 20 {
			continue
		}
		found := 0
		for off := range Many(c.Block) {
			got, e := Find(c, Address(c.Block, off))
			if Held(c, off) != (e == api.ErrReserved) || e == api.OK && got != off {
				t.Fatalf("%v, the offset %d: %d, %d", c, off, got, e)
			}
			if e == api.OK {
				found++
			}
		}
		if found != Usable(c) {
			t.Errorf("%v: %d found, %d usable", c, found, Usable(c))
		}
	}
}

func TestWhatIsHandedInStays(t *testing.T) { // P5.1, P5.2
	lists := helds(1024)
	lists = append(lists, []int{3, 2, 1}, []int{3, 3}, []int{5, -1}, counted(0, 65), []int{1024, 0})
	for _, held := range lists {
		room := []int{11, -22, 33}
		l := slices.Concat(held, room)
		c := of(api.Block{Base: 0x0a000400, Prefix: 22}, l[:len(held)])
		May(c)
		Usable(c)
		for _, off := range []int{-1, 0, 11, 33, 1023, 1024} {
			Held(c, off)
			Find(c, c.Block.Base+uint32(off))
		}
		if !slices.Equal(l, slices.Concat(held, room)) {
			t.Errorf("Held %v, or the room behind it, changed: %v", held, l)
		}
	}
}

// What stands in the room behind Held's length is not reserved.
func TestRoomBehindHeldIsNone(t *testing.T) { // P5.1, P5.2
	c := of(api.Block{Base: 0x0a000100, Prefix: 24}, []int{1, 5, 9, 4, -7, 300}[:2])
	if !May(c) || Usable(c) != 254 || Held(c, 9) || Held(c, 4) || Held(c, -7) {
		t.Error(May(c), Usable(c), Held(c, 9), Held(c, 4), Held(c, -7))
	}
	if off, e := Find(c, 0x0a000109); off != 9 || e != api.OK {
		t.Error(off, e)
	}
}

// Nothing is promised of what may not be, but that nothing panics and all ends.
func TestNothingPanics(t *testing.T) { // P1
	for _, p := range []int{math.MinInt, -64, -33, -32, -31, -1, 0, 1, 15, 33, 64, math.MaxInt} {
		for _, base := range []uint32{0, 1, 0x0a000101, math.MaxUint32} {
			c := of(api.Block{Base: base, Prefix: p}, []int{9, -3, 9})
			May(c)
			Many(c.Block)
			Usable(c)
			for _, off := range []int{math.MinInt, -1, 0, 9, 65536, math.MaxInt} {
				Held(c, off)
				a := Address(c.Block, off)
				Offset(c.Block, a)
				Find(c, a)
			}
		}
	}
}

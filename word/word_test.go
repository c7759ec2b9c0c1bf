package word

import (
	"math"
	"slices"
	"testing"

	"lodger/api"
	"lodger/block"
	"lodger/place"
)

// low has all of the offsets' bits set, high all of the changes', and all has both.
const (
	all  = uint64(math.MaxUint64)
	low  = uint64(math.MaxUint32)
	high = all - low
)

// words are the edges, words of each single bit, and a few hundred more of a fixed rule.
func words() []uint64 {
	l := []uint64{
		0, 1, 7, all, all - 1, low, low - 1, low >> 1, 1 << 31, high, high + 1, 1 << 63,
		1 << 32, 1<<32 | low, 5<<32 | low, 7 << 32, (low - 1) << 32, (low-1)<<32 | low,
		0xaaaaaaaaaaaaaaaa, 0x5555555555555555, 0xaaaaaaaa, 0x55555555,
	}
	for i := range 64 {
		l = append(l, uint64(1)<<uint(i), ^(uint64(1) << uint(i)), uint64(1)<<uint(i)-1)
	}
	w := uint64(1)
	for range 200 {
		w = w*6364136223846793005 + 1442695040888963407
		l = append(l, w, w|low, w&^low, w|high)
	}
	return l
}

// parted is what a word tells.
type parted struct {
	used    [32]bool
	changes uint64
}

// part parts a word by division alone, so that the tests hold the package's shifts against
// something else.
func part(w uint64) parted {
	var p parted
	for i := range p.used {
		p.used[i] = w%2 == 1
		w /= 2
	}
	p.changes = w
	return p
}

// next is how often a word was changed that was changed once more than that.
func next(changes uint64) uint64 {
	if changes == 4294967295 {
		return 0
	}
	return changes + 1
}

// of answers a configuration of that prefix and those reserved offsets.
func of(prefix int, held ...int) api.Conf {
	return api.Conf{Block: api.Block{Base: 0x0a010000, Prefix: prefix}, Held: held, Shards: 2, Workers: 3, Queue: 4, Tries: 5}
}

// counted answers the n offsets from the first one on.
func counted(first, n int) []int {
	var l []int
	for i := range n {
		l = append(l, first+i)
	}
	return l
}

// many is how many addresses a block of that prefix has, by doubling.
func many(prefix int) int {
	n := 1
	for range 32 - prefix {
		n *= 2
	}
	return n
}

// helds are lists of offsets that may be reserved of n: none, the first, the last, all that
// may be from the first on, and up to the last, a leaf's, two leaves', and some with gaps.
func helds(n int) [][]int {
	most := min(n, 64)
	l := [][]int{nil, {}, {0}, {n - 1}, {n / 2}, counted(0, most), counted(n-most, most), counted(n/2, min(n-n/2, 32))}
	if n >= 4 {
		l = append(l, []int{0, n - 1}, []int{1, n - 2}, []int{0, 2, n - 1})
	}
	if n >= 64 {
		l = append(l, counted(0, 31), counted(1, 32), counted(n-32, 32), counted(n-33, 32))
	}
	if n >= 4096 {
		l = append(l, counted(63*32, 64), counted(64*32, 64), counted(63*32, 33))
	}
	if n >= 512 {
		var gaps []int
		for i := range 64 {
			gaps = append(gaps, i*(n/64)+i%3)
		}
		l = append(l, gaps)
	}
	return l
}

// confs are the configurations that may be, that the tests go through: of each prefix.
func confs() []api.Conf {
	var l []api.Conf
	for prefix := 16; prefix <= 32; prefix++ {
		for _, held := range helds(many(prefix)) {
			l = append(l, of(prefix, held...))
		}
	}
	return l
}

// meant is what Cells must answer, made the other way round than it is there: all is free
// first, what isn't is then set by adding, and tops and the root are told from what stands
// below them.
func meant(c api.Conf) []uint64 {
	n := many(c.Block.Prefix)
	var leaves, tops []uint64
	for first := 0; first < n; first += 32 {
		w, bit := uint64(0), uint64(1)
		for off := first; off < first+32; off++ {
			if off >= n || slices.Contains(c.Held, off) {
				w += bit
			}
			bit *= 2
		}
		leaves = append(leaves, w)
	}
	for first := 0; first < len(leaves); first += 64 {
		tops = append(tops, summary(leaves[first:min(first+64, len(leaves))], low))
	}
	return slices.Concat(leaves, tops, []uint64{summary(tops, all)})
}

// summary sums up to 64 words up: set is the bit of each that is full, and of those that
// there aren't.
func summary(l []uint64, full uint64) uint64 {
	w, bit := uint64(0), uint64(1)
	for i := range 64 {
		if i >= len(l) || l[i] == full {
			w += bit
		}
		bit *= 2
	}
	return w
}

func TestUsedAndChangesTellEachWord(t *testing.T) { // P7.1
	for _, w := range words() {
		p := part(w)
		for bit, want := range p.used {
			if Used(w, bit) != want {
				t.Fatalf("Used(%#x, %d): %v", w, bit, !want)
			}
		}
		if got := Changes(w); uint64(got) != p.changes {
			t.Fatalf("Changes(%#x): %d, not %d", w, got, p.changes)
		}
	}
}

func TestWordsByHand(t *testing.T) { // P7.1, P7.2
	for _, x := range []struct {
		w           uint64
		first, last bool // the bits 0 and 31
		changes     uint32
		full        bool
		free        int // the first bit that isn't set
	}{
		{0, false, false, 0, false, 0},
		{all, true, true, math.MaxUint32, true, 0},
		{low, true, true, 0, true, 0},
		{high, false, false, math.MaxUint32, false, 0},
		{1, true, false, 0, false, 1},
		{low >> 1, true, false, 0, false, 31},
		{1 << 31, false, true, 0, false, 0},
		{1 << 32, false, false, 1, false, 0},
		{1 << 63, false, false, 1 << 31, false, 0},
	} {
		if Used(x.w, 0) != x.first || Used(x.w, 31) != x.last || Changes(x.w) != x.changes || Full(x.w) != x.full {
			t.Errorf("%#x: %v %v %d %v", x.w, Used(x.w, 0), Used(x.w, 31), Changes(x.w), Full(x.w))
		}
		if bit, ok := First(x.w); bit != x.free || ok == x.full {
			t.Errorf("First(%#x): %d %v", x.w, bit, ok)
		}
	}
}

// Each word, each bit, set and not set ahead of it.
func TestClaimAndDropChangeOneBitAndTheChanges(t *testing.T) { // P7.1
	for _, w := range words() {
		for bit := range 32 {
			want := part(w)
			want.changes = next(want.changes)
			want.used[bit] = true
			if got := Claim(w, bit); part(got) != want {
				t.Fatalf("Claim(%#x, %d): %#x", w, bit, got)
			}
			want.used[bit] = false
			if got := Drop(w, bit); part(got) != want {
				t.Fatalf("Drop(%#x, %d): %#x", w, bit, got)
			}
		}
	}
}

func TestClaimAndDropByHand(t *testing.T) { // P7.1
	for _, x := range []struct {
		w             uint64
		bit           int
		claimed, free uint64
	}{
		{0, 0, 1<<32 | 1, 1 << 32},
		{0, 31, 1<<32 | 1<<31, 1 << 32},
		{low, 0, 1<<32 | low, 1<<32 | (low - 1)},
		{low, 31, 1<<32 | low, 1<<32 | low>>1},
		{1, 0, 1<<32 | 1, 1 << 32},
		{1 << 31, 31, 1<<32 | 1<<31, 1 << 32},
		{3 << 32, 5, 4<<32 | 32, 4 << 32},
		{all, 0, low, low - 1},
		{all, 31, low, low >> 1},
		{high, 3, 8, 0},
		{high | 8, 3, 8, 0},
		{(low - 1) << 32, 3, high | 8, high},
		{low>>1<<32 | 6, 0, 1<<63 | 7, 1<<63 | 6},
	} {
		if got := Claim(x.w, x.bit); got != x.claimed {
			t.Errorf("Claim(%#x, %d): %#x, not %#x", x.w, x.bit, got, x.claimed)
		}
		if got := Drop(x.w, x.bit); got != x.free {
			t.Errorf("Drop(%#x, %d): %#x, not %#x", x.w, x.bit, got, x.free)
		}
	}
}

func TestFirstAndFullOfEachWord(t *testing.T) { // P7.2
	for _, w := range words() {
		used := part(w).used
		first := slices.Index(used[:], false)
		if got := Full(w); got != (first < 0) {
			t.Fatalf("Full(%#x): %v", w, got)
		}
		if bit, ok := First(w); bit != max(first, 0) || ok != (first >= 0) {
			t.Fatalf("First(%#x): %d %v, not %d", w, bit, ok, first)
		}
	}
}

// The bits of the changes are none of the offsets': whatever they are, they aren't told.
func TestFirstAndFullWhateverTheChanges(t *testing.T) { // P7.2
	for _, changes := range []uint64{0, 1, 1 << 31, low - 1, low} {
		for bit := range 32 {
			w := changes<<32 | (uint64(1)<<uint(bit) - 1)
			if got, ok := First(w); got != bit || !ok || Full(w) {
				t.Errorf("First(%#x): %d %v, Full: %v", w, got, ok, Full(w))
			}
			w = changes<<32 | (low - uint64(1)<<uint(bit))
			if got, ok := First(w); got != bit || !ok || Full(w) {
				t.Errorf("First(%#x): %d %v, Full: %v", w, got, ok, Full(w))
			}
		}
		if got, ok := First(changes<<32 | low); got != 0 || ok || !Full(changes<<32|low) {
			t.Errorf("a full word, changed %d times: %d %v", changes, got, ok)
		}
	}
}

func TestNewByHand(t *testing.T) { // P7.2, the chapter's example the first
	for _, x := range []struct {
		c    api.Conf
		leaf int
		want uint64
	}{
		{of(32), 0, low - 1},
		{of(32, 0), 0, low},
		{of(31), 0, low - 3},
		{of(31, 0), 0, low - 2},
		{of(31, 1), 0, low - 1},
		{of(31, 0, 1), 0, low},
		{of(30, 0, 3), 0, low - 6},
		{of(28), 0, low - 0xffff},
		{of(27), 0, 0},
		{of(27, 0, 31), 0, 1<<31 | 1},
		{of(27, counted(0, 32)...), 0, low},
		{of(26), 0, 0},
		{of(26), 1, 0},
		{of(26, 0, 63), 0, 1},
		{of(26, 0, 63), 1, 1 << 31},
		{of(26, 31, 32), 0, 1 << 31},
		{of(26, 31, 32), 1, 1},
		{of(26, counted(32, 32)...), 0, 0},
		{of(26, counted(32, 32)...), 1, low},
		{of(26, counted(0, 64)...), 1, low},
		{of(21, 2047), 63, 1 << 31},
		{of(20, 2048), 64, 1},
		{of(20, 2048), 63, 0},
		{of(16, 0, 65535), 0, 1},
		{of(16, 0, 65535), 1000, 0},
		{of(16, 0, 65535), 2047, 1 << 31},
		{of(16, counted(65535-63, 64)...), 2045, 0},
		{of(16, counted(65535-63, 64)...), 2046, low},
	} {
		if got := New(x.c, x.leaf); got != x.want {
			t.Errorf("/%d, %v reserved, the leaf %d: %#x, not %#x", x.c.Block.Prefix, x.c.Held, x.leaf, got, x.want)
		}
	}
}

func TestCellsByHand(t *testing.T) { // P7.2
	for _, x := range []struct {
		c    api.Conf
		want []uint64
	}{
		{of(32), []uint64{low - 1, all - 1, all - 1}},
		{of(32, 0), []uint64{low, all, all}},
		{of(31), []uint64{low - 3, all - 1, all - 1}},
		{of(31, 0, 1), []uint64{low, all, all}},
		{of(27), []uint64{0, all - 1, all - 1}},
		{of(27, counted(0, 31)...), []uint64{low >> 1, all - 1, all - 1}},
		{of(27, counted(0, 32)...), []uint64{low, all, all}},
		{of(26), []uint64{0, 0, all - 3, all - 1}},
		{of(26, 0, 63), []uint64{1, 1 << 31, all - 3, all - 1}},
		{of(26, counted(0, 32)...), []uint64{low, 0, all - 2, all - 1}},
		{of(26, counted(32, 32)...), []uint64{0, low, all - 1, all - 1}},
		{of(26, counted(0, 64)...), []uint64{low, low, all, all}},
		{of(25, counted(32, 64)...), []uint64{0, low, low, 0, all - 9, all - 1}},
	} {
		if got := Cells(x.c); !slices.Equal(got, x.want) {
			t.Errorf("/%d, %v reserved: %#x, not %#x", x.c.Block.Prefix, x.c.Held, got, x.want)
		}
	}
}

// The tops and the root of greater blocks, the leaves looked at elsewhere.
func TestSummariesByHand(t *testing.T) { // P7.2
	zeros := func(n int, l ...uint64) []uint64 { return append(make([]uint64, n), l...) }
	for _, x := range []struct {
		c    api.Conf
		want []uint64
	}{
		{of(21), []uint64{0, all - 1}},
		{of(21, counted(2016, 32)...), []uint64{1 << 63, all - 1}},
		{of(22), []uint64{high, all - 1}},
		{of(20), []uint64{0, 0, all - 3}},
		{of(20, counted(2016, 64)...), []uint64{1 << 63, 1, all - 3}},
		{of(16), zeros(32, high)},
		{of(16, counted(65472, 64)...), zeros(31, 3<<62, high)},
	} {
		leaves := place.Leaves(many(x.c.Block.Prefix))
		if got := Cells(x.c); !slices.Equal(got[leaves:], x.want) {
			t.Errorf("/%d, %v reserved: %#x, not %#x", x.c.Block.Prefix, x.c.Held, got[leaves:], x.want)
		}
	}
}

func TestNewAndCellsOfEachConfiguration(t *testing.T) { // P7.2
	for _, c := range confs() {
		if !block.May(c) {
			t.Fatalf("it may not be: %v", c)
		}
		want := meant(c)
		got := Cells(c)
		if !slices.Equal(got, want) {
			t.Fatalf("/%d, %v reserved: %#x, not %#x", c.Block.Prefix, c.Held, got, want)
		}
		for leaf := range place.Leaves(many(c.Block.Prefix)) {
			if w := New(c, leaf); w != want[leaf] || Changes(w) != 0 {
				t.Fatalf("/%d, %v reserved, the leaf %d: %#x, not %#x", c.Block.Prefix, c.Held, leaf, w, want[leaf])
			}
		}
	}
}

// First words hang on the Prefix and on Held alone.
func TestCellsWhateverElseIsConfigured(t *testing.T) { // P7.2
	for _, held := range helds(256) {
		want := Cells(of(24, held...))
		for _, base := range []uint32{0, 0x80000000, 0xffffff00} {
			c := api.Conf{Block: api.Block{Base: base, Prefix: 24}, Held: held, Shards: 64, Workers: 64, Queue: 64, Tries: 8}
			if got := Cells(c); !slices.Equal(got, want) {
				t.Errorf("%#x/24, %v reserved: %#x, not %#x", base, held, got, want)
			}
		}
	}
}

func TestAClaimAndADropTellThemselves(t *testing.T) { // P7.3
	for _, w := range words() {
		for bit := range 32 {
			on, off := Claim(w, bit), Drop(w, bit)
			if !Used(on, bit) || Used(off, bit) || Full(off) {
				t.Fatalf("%#x, the bit %d: claimed %#x, dropped %#x", w, bit, on, off)
			}
			if Changes(on)-Changes(w) != 1 || Changes(off)-Changes(w) != 1 || on == w || off == w {
				t.Fatalf("%#x, the bit %d: claimed %#x, dropped %#x, as often changed", w, bit, on, off)
			}
			if first, ok := First(on); ok && first == bit {
				t.Fatalf("%#x: %d is claimed, and the first", w, bit)
			}
			if first, ok := First(off); !ok || first > bit {
				t.Fatalf("%#x: %d is dropped, and the first is %d %v", w, bit, first, ok)
			}
			if back := Drop(on, bit); back&low != off&low || Changes(back)-Changes(w) != 2 {
				t.Fatalf("%#x, the bit %d claimed and dropped: %#x", w, bit, back)
			}
		}
	}
}

// Claimed first by first, a leaf gives each bit once that wasn't set, and is then full.
func TestClaimsOfAllThatIsFree(t *testing.T) { // P7.3
	for _, w := range words() {
		free := 0
		for _, used := range part(w).used {
			if !used {
				free++
			}
		}
		last, got, at := -1, 0, w
		for bit, ok := First(at); ok; bit, ok = First(at) {
			if bit <= last || Used(w, bit) || got > 32 {
				t.Fatalf("%#x: %d comes behind %d", w, bit, last)
			}
			last, at = bit, Claim(at, bit)
			got++
		}
		if got != free || !Full(at) || Changes(at)-Changes(w) != uint32(free) {
			t.Fatalf("%#x: %d claims of %d; %#x", w, got, free, at)
		}
	}
}

func TestAsManyBitsArentSetAsOffsetsAreUsable(t *testing.T) { // P7.3
	for _, c := range confs() {
		free := 0
		l := Cells(c)
		for leaf := range place.Leaves(many(c.Block.Prefix)) {
			for bit := range 32 {
				if Used(l[leaf], bit) {
					continue
				}
				free++
				if off := place.Offset(leaf, bit); off >= block.Many(c.Block) || block.Held(c, off) {
					t.Fatalf("/%d, %v reserved: %d is free", c.Block.Prefix, c.Held, off)
				}
			}
		}
		if free != block.Usable(c) || free != many(c.Block.Prefix)-len(c.Held) {
			t.Errorf("/%d, %v reserved: %d bits aren't set, %d are usable", c.Block.Prefix, c.Held, free, block.Usable(c))
		}
	}
}

func TestWhatIsHandedInStays(t *testing.T) { // P7.2
	for _, held := range helds(1024) {
		room := []int{11, -22, 33}
		l := slices.Concat(held, room)
		c := of(22, l[:len(held)]...)
		got := Cells(c)
		for i := range got {
			got[i]++
		}
		for leaf := range 32 {
			New(c, leaf)
		}
		if !slices.Equal(l, slices.Concat(held, room)) {
			t.Errorf("Held %v, or the room behind it, changed: %v", held, l)
		}
	}
}

// What stands in the room behind Held's length is not reserved.
func TestRoomBehindHeldIsNone(t *testing.T) { // P7.2
	c := of(27, []int{1, 5, 9, 4}[:2]...)
	if w := New(c, 0); w != 1<<1|1<<5 {
		t.Errorf("%#x", w)
	}
	if l := Cells(c); l[0] != 1<<1|1<<5 {
		t.Errorf("%#x", l)
	}
}

func TestNoTwoAnswersShareMemory(t *testing.T) { // P7.2
	c := of(24, 0, 255)
	want := meant(c)
	a, b := Cells(c), Cells(c)
	for i := range a {
		a[i] = ^a[i]
	}
	if !slices.Equal(b, want) || !slices.Equal(Cells(c), want) {
		t.Errorf("%#x, %#x", b, Cells(c))
	}
}

// The chapter promises nothing of these but that the calls end and don't panic.
func TestNothingPanics(t *testing.T) { // P1
	odd := []int{math.MinInt, -65536, -64, -33, -32, -1, 32, 33, 63, 64, 2048, 65536, math.MaxInt}
	for _, w := range []uint64{0, low, all} {
		for _, bit := range odd {
			Used(w, bit)
			Claim(w, bit)
			Drop(w, bit)
		}
	}
	for _, prefix := range []int{math.MinInt, -1, 0, 15, 16, 24, 27, 32, 33, math.MaxInt} {
		c := of(prefix, math.MaxInt, 9, -3, 9, 65536, math.MinInt)
		Cells(c)
		for _, leaf := range odd {
			New(c, leaf)
		}
	}
	Cells(api.Conf{})
	New(api.Conf{}, 0)
}

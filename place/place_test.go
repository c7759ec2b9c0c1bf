package place

import (
	"math"
	"testing"
)

// most is how many addresses there are at most.
const most = 65536

// laid is what n addresses come to, told by laying them out one by one, so that the tests
// hold the package's divisions against something else.
type laid struct {
	n      int
	widths []int // of each leaf
	leaves []int // of each top, how many it sums
}

// lay lays one more address.
func (l *laid) lay() {
	l.n++
	if last := len(l.widths) - 1; last >= 0 && l.widths[last] < 32 {
		l.widths[last]++
		return
	}
	l.widths = append(l.widths, 1)
	if last := len(l.leaves) - 1; last >= 0 && l.leaves[last] < 64 {
		l.leaves[last]++
		return
	}
	l.leaves = append(l.leaves, 1)
}

// all calls look of each number of addresses that there may be.
func all(look func(l *laid)) {
	l := &laid{}
	for range most {
		l.lay()
		look(l)
	}
}

// picked tells whether n is one of those that are looked at leaf by leaf: the small ones,
// those with which a top's leaves end or begin, the greatest ones, and some of a fixed rule.
func picked(n int) bool {
	top := n % 2048
	return n <= 200 || top <= 1 || top == 2047 || n >= most-33 || n%997 == 0
}

func TestLeavesTopsAndCellsOfEachNumber(t *testing.T) { // P6.1
	all(func(l *laid) {
		leaves, tops := len(l.widths), len(l.leaves)
		if got := Leaves(l.n); got != leaves {
			t.Fatalf("Leaves(%d): %d, not %d", l.n, got, leaves)
		}
		if got := Tops(l.n); got != tops {
			t.Fatalf("Tops(%d): %d, not %d", l.n, got, tops)
		}
		if got := Cells(l.n); got != leaves+tops+1 {
			t.Fatalf("Cells(%d): %d, not %d", l.n, got, leaves+tops+1)
		}
	})
}

func TestNumbersByHand(t *testing.T) { // P6.1, the chapter's example among them
	for _, x := range []struct{ n, leaves, tops, cells, last int }{
		{1, 1, 1, 3, 1}, {2, 1, 1, 3, 2}, {31, 1, 1, 3, 31}, {32, 1, 1, 3, 32},
		{33, 2, 1, 4, 1}, {63, 2, 1, 4, 31}, {64, 2, 1, 4, 32}, {65, 3, 1, 5, 1}, {256, 8, 1, 10, 32},
		{2016, 63, 1, 65, 32}, {2047, 64, 1, 66, 31}, {2048, 64, 1, 66, 32}, {2049, 65, 2, 68, 1}, {4096, 128, 2, 131, 32}, {4097, 129, 3, 133, 1},
		{65504, 2047, 32, 2080, 32}, {65505, 2048, 32, 2081, 1}, {65535, 2048, 32, 2081, 31}, {65536, 2048, 32, 2081, 32},
	} {
		if l, m, c := Leaves(x.n), Tops(x.n), Cells(x.n); l != x.leaves || m != x.tops || c != x.cells {
			t.Errorf("%d addresses: %d leaves, %d tops, %d cells", x.n, l, m, c)
		}
		if w := Width(x.n, x.leaves-1); w != x.last {
			t.Errorf("%d addresses: the last leaf's width is %d, not %d", x.n, w, x.last)
		}
	}
	if a, b := Width(33, 0), Width(33, 1); a != 32 || b != 1 {
		t.Errorf("33 addresses: widths %d, %d", a, b)
	}
}

func TestLeafAndOffsetOfEachOffset(t *testing.T) { // P6.1
	off := 0
	for leaf := range most / 32 {
		for bit := range 32 {
			if l, b := Leaf(off); l != leaf || b != bit {
				t.Fatalf("Leaf(%d): %d, %d; not %d, %d", off, l, b, leaf, bit)
			}
			if got := Offset(leaf, bit); got != off {
				t.Fatalf("Offset(%d, %d): %d, not %d", leaf, bit, got, off)
			}
			off++
		}
	}
}

// The chapter asks for the offset that would have them: it needn't be one of a block's.
func TestOffsetOfBitsBeyondTheWidth(t *testing.T) { // P6.1
	for _, x := range []struct{ n, leaf, bit, off int }{{1, 0, 1, 1}, {1, 0, 31, 31}, {33, 1, 1, 33}, {33, 1, 31, 63}, {2049, 64, 31, 2079}} {
		if got := Offset(x.leaf, x.bit); got != x.off || got < x.n {
			t.Errorf("Offset(%d, %d): %d, not %d", x.leaf, x.bit, got, x.off)
		}
	}
}

func TestWidthOfEachLeaf(t *testing.T) { // P6.1
	all(func(l *laid) {
		last := len(l.widths) - 1
		if got := Width(l.n, last); got != l.widths[last] {
			t.Fatalf("Width(%d, %d): %d, not %d", l.n, last, got, l.widths[last])
		}
		if !picked(l.n) {
			return
		}
		for leaf, want := range l.widths {
			if got := Width(l.n, leaf); got != want {
				t.Fatalf("Width(%d, %d): %d, not %d", l.n, leaf, got, want)
			}
		}
	})
}

// seen looks at Top and Root of each leaf in turn, and answers how many cells they name.
func seen(t *testing.T, l *laid) int {
	t.Helper()
	leaf, root := 0, len(l.widths)+len(l.leaves)
	for top, many := range l.leaves {
		for bit := range many {
			if c, b := Top(l.n, leaf); c != len(l.widths)+top || b != bit {
				t.Fatalf("Top(%d, %d): %d, %d; not %d, %d", l.n, leaf, c, b, len(l.widths)+top, bit)
			}
			if c, b := Root(l.n, leaf); c != root || b != top {
				t.Fatalf("Root(%d, %d): %d, %d; not %d, %d", l.n, leaf, c, b, root, top)
			}
			leaf++
		}
	}
	return leaf
}

func TestTopAndRootOfEachLeaf(t *testing.T) { // P6.2
	all(func(l *laid) {
		if picked(l.n) && seen(t, l) != len(l.widths) {
			t.Fatalf("%d addresses: not each leaf was looked at", l.n)
		}
	})
}

func TestTopAndRootByHand(t *testing.T) { // P6.2
	for _, x := range []struct{ n, leaf, top, bit, root, rootBit int }{
		{1, 0, 1, 0, 2, 0}, {32, 0, 1, 0, 2, 0}, {33, 0, 2, 0, 3, 0}, {33, 1, 2, 1, 3, 0},
		{2048, 0, 64, 0, 65, 0}, {2048, 63, 64, 63, 65, 0},
		{2049, 0, 65, 0, 67, 0}, {2049, 63, 65, 63, 67, 0}, {2049, 64, 66, 0, 67, 1},
		{65536, 0, 2048, 0, 2080, 0}, {65536, 63, 2048, 63, 2080, 0}, {65536, 64, 2049, 0, 2080, 1}, {65536, 1000, 2063, 40, 2080, 15}, {65536, 2047, 2079, 63, 2080, 31},
	} {
		c, b := Top(x.n, x.leaf)
		d, e := Root(x.n, x.leaf)
		if c != x.top || b != x.bit || d != x.root || e != x.rootBit {
			t.Errorf("the leaf %d of %d: the top %d, %d, the root %d, %d", x.leaf, x.n, c, b, d, e)
		}
	}
}

func TestWidthsComeToAll(t *testing.T) { // P6.3
	for n := 1; n <= most; n++ {
		sum := 0
		for leaf := range Leaves(n) {
			w := Width(n, leaf)
			if w < 1 || w > 32 {
				t.Fatalf("Width(%d, %d): %d", n, leaf, w)
			}
			sum += w
		}
		if sum != n {
			t.Fatalf("%d addresses: widths come to %d", n, sum)
		}
	}
}

// owners answers how many leaves, tops and roots each cell is, by the package's own calls.
func owners(n int) map[int]int {
	held := map[int]bool{}
	got := map[int]int{}
	for leaf := range Leaves(n) {
		got[leaf]++
		top, _ := Top(n, leaf)
		root, _ := Root(n, leaf)
		held[top], held[root] = true, true
	}
	for cell := range held {
		got[cell]++
	}
	return got
}

func TestEachCellIsOfOneKind(t *testing.T) { // P6.3
	for n := 1; n <= most; n++ {
		if !picked(n) {
			continue
		}
		got := owners(n)
		if len(got) != Cells(n) {
			t.Fatalf("%d addresses: %d cells are named, of %d", n, len(got), Cells(n))
		}
		for cell := range Cells(n) {
			if got[cell] != 1 {
				t.Fatalf("%d addresses: the cell %d is named %d times", n, cell, got[cell])
			}
		}
	}
}

func TestEachBitOfSummariesIsOneLeafs(t *testing.T) { // P6.3
	for n := 1; n <= most; n++ {
		if !picked(n) {
			continue
		}
		leafOf, topOf := map[[2]int]int{}, map[int]int{}
		for leaf := range Leaves(n) {
			top, bit := Top(n, leaf)
			if other, is := leafOf[[2]int{top, bit}]; is {
				t.Fatalf("%d addresses: the leaves %d and %d have one bit", n, other, leaf)
			}
			leafOf[[2]int{top, bit}] = leaf
			_, up := Root(n, leaf)
			if other, is := topOf[up]; is && other != top {
				t.Fatalf("%d addresses: the tops %d and %d have one bit", n, other, top)
			}
			topOf[up] = top
		}
		if len(topOf) != Tops(n) {
			t.Fatalf("%d addresses: the root sums %d tops, of %d", n, len(topOf), Tops(n))
		}
	}
}

func TestOffsetsStandBelowTheirLeafsWidth(t *testing.T) { // P6.3
	for _, n := range []int{1, 31, 32, 33, 64, 2047, 2048, 2049, 65535, 65536} {
		for off := range n {
			leaf, bit := Leaf(off)
			if leaf >= Leaves(n) || bit >= Width(n, leaf) || Offset(leaf, bit) != off {
				t.Fatalf("the offset %d of %d: the leaf %d, the bit %d", off, n, leaf, bit)
			}
		}
		if leaf, bit := Leaf(n); leaf < Leaves(n) && bit < Width(n, leaf) {
			t.Fatalf("%d is an offset of %d", n, n)
		}
	}
}

func TestPartsOfNarrowKinds(t *testing.T) { // P6.1: rounded up, and nowhere wrapped round
	for n := range 256 {
		for size := 1; size < 256; size++ {
			want := (n + size - 1) / size
			if got := parts(uint8(n), uint8(size)); int(got) != want {
				t.Fatalf("parts(%d, %d): %d, not %d", n, size, got, want)
			}
		}
	}
	if got := parts(math.MaxInt, 64); got != math.MaxInt/64+1 {
		t.Errorf("parts(%d, 64): %d", math.MaxInt, got)
	}
}

// The chapter promises nothing of these but that the calls end and don't panic.
func TestNumbersThatThereArent(t *testing.T) {
	odd := []int{math.MinInt, -65536, -33, -32, -1, 0, most + 1, math.MaxInt32, math.MaxInt}
	for _, n := range odd {
		Leaves(n)
		Tops(n)
		Cells(n)
		Leaf(n)
		for _, leaf := range append(odd, 2048) {
			Offset(leaf, n)
			Top(n, leaf)
			Root(n, leaf)
			if w := Width(n, leaf); w < 0 || w > 32 {
				t.Errorf("Width(%d, %d): %d", n, leaf, w)
			}
		}
	}
	for _, n := range []int{1, 32, 33, 2048, 65535, 65536} {
		if w := Width(n, Leaves(n)); w != 0 {
			t.Errorf("the leaf behind the last one of %d has the width %d", n, w)
		}
	}
}

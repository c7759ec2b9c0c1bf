package cells

import (
	"math"
	"slices"
	"testing"
)

const all = uint64(math.MaxUint64)

// rows are the cells that the tests go through: none, one, a few, and many of a fixed rule.
func rows() [][]uint64 {
	many := make([]uint64, 300)
	w := uint64(1)
	for i := range many {
		w = w*6364136223846793005 + 1442695040888963407
		many[i] = w
	}
	return [][]uint64{nil, {}, {0}, {all}, {5, 6, 7}, {0, 0, 0, 0}, {all, 0, 1 << 63, all - 1, 5, 5}, many}
}

// places are all places of n cells, and such as none has.
func places(n int) []int {
	l := []int{math.MinInt, -65536, -2, -1, n, n + 1, n + 7, 65536 + n, math.MaxInt}
	for at := range n {
		l = append(l, at)
	}
	return l
}

// values are words to write: edges, and ordinary ones.
func values() []uint64 { return []uint64{0, 1, 5, 6, 9, 1 << 32, 1 << 63, all - 4, all} }

// room are the words that stand behind a list's length in the tests of spare room.
func room() []uint64 { return []uint64{11, 22, 33} }

// roomy answers l with such words behind its length, so that a write there shows.
func roomy(l []uint64) []uint64 { return slices.Concat(l, room())[:len(l)] }

// made is an answer of one of the calls that answer cells.
type made struct {
	call string
	l    []uint64
	is   bool   // the cell at the place was to change
	w    uint64 // what it is to be, if so
}

// answers are the answers of all calls that answer cells, at one place of l.
func answers(l []uint64, at int, w uint64) []made {
	is, c := at >= 0 && at < len(l), uint64(0)
	if is {
		c = l[at]
	}
	hit, _ := Swap(l, at, c, w)
	miss, _ := Swap(l, at, c+1, w)
	return []made{
		{"Store", Store(l, at, w), is, w},
		{"Add", Add(l, at, w), is, c + w},
		{"Swap from what it is", hit, is, w},
		{"Swap from another", miss, false, 0},
	}
}

func TestNewIsCellsOfZero(t *testing.T) { // P2.1
	for _, n := range []int{0, 1, 2, 3, 64, 2048, 65535, 65536} {
		l := New(n)
		if len(l) != n {
			t.Fatalf("New(%d): %d cells", n, len(l))
		}
		for at, c := range l {
			if c != 0 {
				t.Fatalf("New(%d): the cell %d is %d", n, at, c)
			}
		}
	}
}

// The chapter promises nothing of these but that the call ends and doesn't panic.
func TestNewOfNumbersThatMayNotBe(t *testing.T) {
	for _, n := range []int{math.MinInt, -65536, -1, 65537, math.MaxInt32, math.MaxInt} {
		if l := New(n); len(l) != 0 {
			t.Errorf("New(%d): %d cells", n, len(l))
		}
	}
}

func TestLoadIsTheCellOrZero(t *testing.T) { // P2.1
	for _, l := range rows() {
		for _, at := range places(len(l)) {
			want := uint64(0)
			if at >= 0 && at < len(l) {
				want = l[at]
			}
			if got := Load(l, at); got != want {
				t.Fatalf("Load of %d cells at %d: %d, not %d", len(l), at, got, want)
			}
		}
	}
	if got := Load(roomy([]uint64{5, 6}), 2); got != 0 {
		t.Errorf("Load behind the last cell, where there is room: %d", got)
	}
}

func TestStoreAndAddByHand(t *testing.T) { // P2.1
	for _, x := range []struct {
		call      string
		got, want []uint64
	}{
		{"Store at the first", Store([]uint64{5, 6, 7}, 0, 9), []uint64{9, 6, 7}},
		{"Store at the last", Store([]uint64{5, 6, 7}, 2, 9), []uint64{5, 6, 9}},
		{"Store of what it is", Store([]uint64{5, 6, 7}, 1, 6), []uint64{5, 6, 7}},
		{"Store ahead of the first", Store([]uint64{5, 6, 7}, -1, 9), []uint64{5, 6, 7}},
		{"Store behind the last", Store([]uint64{5, 6, 7}, 3, 9), []uint64{5, 6, 7}},
		{"Store in no cells", Store(nil, 0, 9), nil},
		{"Store in the only one", Store([]uint64{5}, 0, 0), []uint64{0}},
		{"Add at the first", Add([]uint64{5, 6, 7}, 0, 9), []uint64{14, 6, 7}},
		{"Add at the last", Add([]uint64{5, 6, 7}, 2, 9), []uint64{5, 6, 16}},
		{"Add of nothing", Add([]uint64{5, 6, 7}, 1, 0), []uint64{5, 6, 7}},
		{"Add up to 2^64 - 1", Add([]uint64{all - 1}, 0, 1), []uint64{all}},
		{"Add up to 2^64", Add([]uint64{all}, 0, 1), []uint64{0}},
		{"Add beyond 2^64", Add([]uint64{7, 8}, 1, all-4), []uint64{7, 3}},
		{"Add of the two greatest", Add([]uint64{all}, 0, all), []uint64{all - 1}},
		{"Add ahead of the first", Add([]uint64{5, 6, 7}, -1, 9), []uint64{5, 6, 7}},
		{"Add behind the last", Add([]uint64{5, 6, 7}, 3, 9), []uint64{5, 6, 7}},
		{"Add in no cells", Add([]uint64{}, 0, 9), nil},
	} {
		if !slices.Equal(x.got, x.want) {
			t.Errorf("%s: %v, not %v", x.call, x.got, x.want)
		}
	}
}

func TestSwapByHand(t *testing.T) { // P2.2
	for _, x := range []struct {
		l      []uint64
		at     int
		old, w uint64
		want   []uint64
		ok     bool
	}{
		{[]uint64{5, 6, 7}, 0, 5, 9, []uint64{9, 6, 7}, true},
		{[]uint64{5, 6, 7}, 2, 7, 9, []uint64{5, 6, 9}, true},
		{[]uint64{5, 6, 7}, 1, 6, 6, []uint64{5, 6, 7}, true},
		{[]uint64{5, 6, 7}, 1, 5, 9, []uint64{5, 6, 7}, false},
		{[]uint64{5, 6, 7}, 1, 5, 6, []uint64{5, 6, 7}, false},
		{[]uint64{0, all}, 1, all, 0, []uint64{0, 0}, true},
		{[]uint64{1 << 32}, 0, 0, 9, []uint64{1 << 32}, false},
		{[]uint64{0}, 0, 0, 9, []uint64{9}, true},
		{[]uint64{0}, -1, 0, 9, []uint64{0}, false},
		{[]uint64{0}, 1, 0, 9, []uint64{0}, false},
		{nil, 0, 0, 9, nil, false},
		{nil, -1, 0, 0, nil, false},
	} {
		if got, ok := Swap(x.l, x.at, x.old, x.w); !slices.Equal(got, x.want) || ok != x.ok {
			t.Errorf("Swap(%v, %d, %d, %d): %v %v", x.l, x.at, x.old, x.w, got, ok)
		}
	}
}

func TestSwapTwice(t *testing.T) { // P2.2, the chapter's example
	l, ok := Swap([]uint64{5}, 0, 5, 6)
	if !ok || !slices.Equal(l, []uint64{6}) {
		t.Error("the first one", l, ok)
	}
	if l, ok = Swap(l, 0, 5, 6); ok || !slices.Equal(l, []uint64{6}) {
		t.Error("the second one", l, ok)
	}
}

func TestSwapTellsWhetherItWasOld(t *testing.T) { // P2.2
	for _, l := range rows() {
		for _, at := range places(len(l)) {
			for _, old := range append(values(), Load(l, at)) {
				want := at >= 0 && at < len(l) && l[at] == old
				got, ok := Swap(l, at, old, 9)
				if ok != want || ok && got[at] != 9 || !ok && !slices.Equal(got, l) {
					t.Fatalf("Swap of %d cells at %d from %d: %v", len(l), at, old, ok)
				}
			}
		}
	}
}

func TestNoOtherCellChanges(t *testing.T) { // P2.1, P2.2, P2.3
	for _, l := range rows() {
		for _, at := range places(len(l)) {
			for _, w := range values() {
				for _, m := range answers(l, at, w) {
					want := slices.Clone(l)
					if m.is {
						want[at] = m.w
					}
					if !slices.Equal(m.l, want) {
						t.Fatalf("%s of %d cells at %d, of %d: other cells than those that were to be", m.call, len(l), at, w)
					}
				}
			}
		}
	}
}

func TestWhatIsHandedInStays(t *testing.T) { // P2.4
	for _, l := range rows() {
		for _, at := range places(len(l)) {
			for _, w := range values() {
				in := roomy(l)
				Load(in, at)
				for _, m := range answers(in, at, w) {
					if !slices.Equal(in, l) || !slices.Equal(in[:len(in)+3][len(in):], room()) {
						t.Fatalf("%s of %d cells at %d: what was handed in, or the room behind it, changed", m.call, len(l), at)
					}
				}
			}
		}
	}
}

func TestWhatIsAnsweredIsNewMemory(t *testing.T) { // P2.4
	for _, l := range rows() {
		for at := range l {
			in := roomy(l)
			for _, m := range answers(in, at, 9) {
				if !m.is {
					continue // cells that stay as they were may be shared
				}
				for i := range m.l[:cap(m.l)] {
					m.l[:cap(m.l)][i] = 77
				}
				if !slices.Equal(in, l) || !slices.Equal(in[:len(in)+3][len(in):], room()) {
					t.Fatalf("%s of %d cells at %d: a write into the answer shows in what was handed in", m.call, len(l), at)
				}
			}
		}
	}
}

func TestNoTwoAnswersShareMemory(t *testing.T) { // P2.4
	a, b := New(3), New(3)
	a[0] = 77
	if b[0] != 0 || New(3)[0] != 0 {
		t.Error("New: a write into one answer shows in another")
	}
	l := []uint64{5, 6, 7}
	first, second := answers(l, 1, 6), answers(l, 1, 6) // Store and Swap of what it is: new cells all the same
	for i, m := range first {
		if !m.is {
			continue
		}
		m.l[0] = 77
		for j, o := range first {
			if j > i && o.l[0] != 5 {
				t.Errorf("a write into %s's answer shows in %s's", m.call, o.call)
			}
		}
		if second[i].l[0] != 5 {
			t.Errorf("%s: a write into one answer shows in another", m.call)
		}
	}
}

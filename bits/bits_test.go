package bits

import (
	"math"
	"testing"
)

const all = uint64(math.MaxUint64)

// words are the edges, ordinary words, and a few hundred more of a fixed rule.
func words() []uint64 {
	l := []uint64{0, 1, 7, all, all - 1, all >> 1, 1 << 63, 0b1011, 0xaaaaaaaaaaaaaaaa, 0x5555555555555555, 0x00000000ffffffff, 0xffffffff00000000}
	for i := range 64 {
		l = append(l, uint64(1)<<uint(i), ^(uint64(1) << uint(i)), uint64(1)<<uint(i)-1)
	}
	w := uint64(1)
	for range 200 {
		w = w*6364136223846793005 + 1442695040888963407
		l = append(l, w)
	}
	return l
}

// digits writes w as 64 bools, the lowest bit first, by division alone, so that the
// tests hold the package's shifts against something else.
func digits(w uint64) [64]bool {
	var d [64]bool
	for i := range d {
		d[i] = w%2 == 1
		w /= 2
	}
	return d
}

func TestHasTellsEachBit(t *testing.T) { // P1.1
	for _, w := range words() {
		for i, want := range digits(w) {
			if Has(w, i) != want {
				t.Fatalf("Has(%#x, %d): %v", w, i, !want)
			}
		}
	}
}

func TestSetAndClearChangeOneBit(t *testing.T) { // P1.1
	for _, w := range words() {
		for i := range 64 {
			want := digits(w)
			want[i] = true
			if got := Set(w, i); digits(got) != want {
				t.Fatalf("Set(%#x, %d): %#x", w, i, got)
			}
			want[i] = false
			if got := Clear(w, i); digits(got) != want {
				t.Fatalf("Clear(%#x, %d): %#x", w, i, got)
			}
		}
	}
}

func TestEdgePlaces(t *testing.T) { // P1.1
	if Set(0, 0) != 1 || Set(0, 63) != 1<<63 || Clear(all, 0) != all-1 || Clear(all, 63) != all>>1 {
		t.Error("places 0 and 63, changed", Set(0, 0), Set(0, 63), Clear(all, 0), Clear(all, 63))
	}
	if Set(all, 0) != all || Set(all, 63) != all || Clear(0, 0) != 0 || Clear(0, 63) != 0 {
		t.Error("places 0 and 63, as they were")
	}
	if !Has(1, 0) || Has(1, 63) || !Has(1<<63, 63) || Has(1<<63, 0) {
		t.Error("places 0 and 63, told")
	}
}

func TestFirstCountAndMaskOfAllNumbers(t *testing.T) { // P1.2
	for _, w := range words() {
		d := digits(w)
		count, first, ok := 0, 0, false
		for n := range 65 {
			if got := Count(w, n); got != count {
				t.Fatalf("Count(%#x, %d): %d, not %d", w, n, got, count)
			}
			if i, is := First(w, n); i != first || is != ok {
				t.Fatalf("First(%#x, %d): %d %v, not %d %v", w, n, i, is, first, ok)
			}
			if n == 64 {
				break
			}
			if d[n] {
				count++
			} else if !ok {
				first, ok = n, true
			}
		}
	}
	for n := range 65 {
		for i, is := range digits(Mask(n)) {
			if is != (i < n) {
				t.Fatalf("Mask(%d): %#x", n, Mask(n))
			}
		}
	}
}

func TestExamplesAndEdgesOfNumbers(t *testing.T) { // P1.2
	for _, x := range []struct {
		w     uint64
		n     int
		first int
		ok    bool
		count int
	}{
		{7, 64, 3, true, 3},
		{7, 2, 0, false, 2},
		{0, 0, 0, false, 0},
		{0, 1, 0, true, 0},
		{0, 63, 0, true, 0},
		{0, 64, 0, true, 0},
		{all, 0, 0, false, 0},
		{all, 1, 0, false, 1},
		{all, 63, 0, false, 63},
		{all, 64, 0, false, 64},
		{all >> 1, 63, 0, false, 63},
		{all >> 1, 64, 63, true, 63},
		{all - 1, 1, 0, true, 0},
	} {
		if i, ok := First(x.w, x.n); i != x.first || ok != x.ok {
			t.Errorf("First(%#x, %d): %d %v", x.w, x.n, i, ok)
		}
		if got := Count(x.w, x.n); got != x.count {
			t.Errorf("Count(%#x, %d): %d", x.w, x.n, got)
		}
	}
	for n, want := range map[int]uint64{0: 0, 1: 1, 63: all >> 1, 64: all} {
		if got := Mask(n); got != want {
			t.Errorf("Mask(%d): %#x", n, got)
		}
	}
}

func TestSetBitIsCountedAndNotFirst(t *testing.T) { // P1.3
	for _, w := range words() {
		for i := range 64 {
			on, off := Set(w, i), Clear(w, i)
			if !Has(on, i) || Has(off, i) {
				t.Fatalf("bit %d of %#x: set, it is to be had; cleared, not", i, w)
			}
			for n := range 65 {
				more := 0
				if i < n {
					more = 1
				}
				if Count(on, n) != Count(off, n)+more {
					t.Fatalf("bit %d of %#x isn't counted once below %d", i, w, n)
				}
				if first, ok := First(on, n); ok && first == i {
					t.Fatalf("bit %d of %#x is set, and the first one below %d that isn't", i, w, n)
				}
			}
		}
	}
}

func TestMaskIsCountedWhole(t *testing.T) { // P1.3
	for n := range 65 {
		if Count(Mask(n), 64) != n || Count(Mask(n), n) != n {
			t.Errorf("Mask(%d) has not so many bits", n)
		}
		if _, ok := First(Mask(n), n); ok {
			t.Errorf("Mask(%d) has a bit below that isn't set", n)
		}
		if first, ok := First(Mask(n), 64); ok != (n < 64) || ok && first != n {
			t.Errorf("Mask(%d): first %d %v", n, first, ok)
		}
	}
}

// The chapter promises nothing of these but that the calls end and don't panic; they
// are answered as if a word had no such places.
func TestPlacesAndNumbersThatNoWordHas(t *testing.T) {
	for _, w := range words() {
		for _, i := range []int{math.MinInt, -64, -1, 64, 65, 128, math.MaxInt} {
			if Has(w, i) || Set(w, i) != w || Clear(w, i) != w {
				t.Fatalf("place %d of %#x", i, w)
			}
		}
		for _, n := range []int{math.MinInt, -64, -1} {
			if i, ok := First(w, n); i != 0 || ok || Count(w, n) != 0 || Mask(n) != 0 {
				t.Fatalf("number %d of %#x", n, w)
			}
		}
		first, is := First(w, 64)
		for _, n := range []int{65, 128, math.MaxInt} {
			if i, ok := First(w, n); i != first || ok != is || Count(w, n) != Count(w, 64) || Mask(n) != all {
				t.Fatalf("number %d of %#x", n, w)
			}
		}
	}
}

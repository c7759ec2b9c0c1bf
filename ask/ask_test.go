package ask

import (
	"math"
	"slices"
	"testing"

	"lodger/api"
	"lodger/block"
)

// of answers a configuration of that block and those reserved offsets.
func of(base uint32, prefix int, held ...int) api.Conf {
	return api.Conf{Block: api.Block{Base: base, Prefix: prefix}, Held: held, Shards: 2, Workers: 3, Queue: 4, Tries: 5}
}

// upTo are the numbers from 0 on, below n.
func upTo(n int) []int {
	l := make([]int, n)
	for i := range l {
		l[i] = i
	}
	return l
}

// row are the n addresses from the first one on.
func row(first uint32, n int) []uint32 {
	l := make([]uint32, n)
	for i := range l {
		l[i] = first + uint32(i)
	}
	return l
}

// batch is a request of these addresses.
func batch(l ...uint32) api.Ask { return api.Ask{Kind: api.Batch, Addrs: l} }

// confs are the configurations that may be, that the tests go through: of one address, of
// two, at both ends of the range, great ones, and such as have all offsets reserved.
func confs() []api.Conf {
	return []api.Conf{
		of(0x0a000000, 32), of(0x0a000000, 32, 0), of(0, 32), of(math.MaxUint32, 32), of(math.MaxUint32, 32, 0),
		of(0x0a000002, 31), of(0x0a000002, 31, 1), of(math.MaxUint32-1, 31, 0), of(0x0a000004, 31, 0, 1),
		of(0x0a000004, 30, 0, 3), of(0x0a000004, 30, 0, 1, 2, 3), of(0, 30, 1), of(0xfffffffc, 30, 0, 3),
		of(0x0a000100, 26), of(0x0a000100, 26, upTo(64)...), of(0x0a000100, 26, upTo(63)...),
		of(0x0a000100, 24, 0, 255), of(0xffffff00, 24, 0, 7, 255), of(0, 24, 0, 100),
		of(0x0a010000, 16), of(0x0a010000, 16, upTo(64)...), of(0xffff0000, 16, 0, 1, 65534, 65535), of(0, 16, 65535),
	}
}

// many is how many addresses the block has, by doubling, so that the tests hold the package
// against something else than what it calls.
func many(b api.Block) int64 {
	n := int64(1)
	for p := 32; p > b.Prefix; p-- {
		n *= 2
	}
	return n
}

// near are addresses in and about the block: both ends of all, its own ends, those ahead of
// and behind them as far as there are any, the reserved ones and those beside them.
func near(c api.Conf) []uint32 {
	first, n := int64(c.Block.Base), many(c.Block)
	l := []uint32{0, 1, 5, 0x7fffffff, 0x80000000, math.MaxUint32 - 1, math.MaxUint32}
	at := []int64{-65536, -256, -2, -1, 0, 1, 2, n / 2, n - 2, n - 1, n, n + 1, n + 65536, 1 << 31, -1 << 31}
	for _, off := range c.Held {
		at = append(at, int64(off)-1, int64(off), int64(off)+1)
	}
	for _, off := range at {
		if a := first + off; a >= 0 && a <= math.MaxUint32 {
			l = append(l, uint32(a))
		}
	}
	return l
}

// usable are the first addresses, at most n of them, that aren't reserved.
func usable(c api.Conf, n int) []uint32 {
	var l []uint32
	for off := range many(c.Block) {
		if len(l) < n && !slices.Contains(c.Held, int(off)) {
			l = append(l, uint32(int64(c.Block.Base)+off))
		}
	}
	return l
}

// fault is the error that the address has by itself.
func fault(c api.Conf, x uint32) api.Errno {
	off := int64(x) - int64(c.Block.Base)
	if off < 0 || off >= many(c.Block) {
		return api.ErrOutside
	}
	if slices.Contains(c.Held, int(off)) {
		return api.ErrReserved
	}
	return api.OK
}

// meant is what Check must answer, from the chapter's words.
func meant(c api.Conf, a api.Ask) api.Errno {
	switch a.Kind {
	case 1, 6, 7:
		return api.OK
	case 2, 3, 5:
		return fault(c, a.Addr)
	case 4:
	default:
		return api.ErrArg
	}
	if len(a.Addrs) == 0 {
		return api.ErrEmpty
	}
	if len(a.Addrs) > 64 {
		return api.ErrArg
	}
	for i, x := range a.Addrs {
		if e := fault(c, x); e != api.OK {
			return e
		}
		if slices.Contains(a.Addrs[:i], x) {
			return api.ErrTwice
		}
	}
	return api.OK
}

// wrongKinds are those that there aren't; some are right in their lowest bits.
func wrongKinds() []int {
	return []int{0, 8, 9, 16, 64, 256 + 2, 1<<16 + 3, 1<<32 + 1, 1<<32 + 4, math.MaxInt32, math.MaxInt, -1, -2, -4, -7, -1<<32 + 5, math.MinInt32, math.MinInt}
}

// lists are such as may stand in a request.
func lists() [][]uint32 {
	return [][]uint32{
		nil, {}, {0}, {5}, {math.MaxUint32}, {6, 7}, {7, 6}, {7, 7}, {5, 5, 5}, {0x0a000001, 0x0a000000}, {0x0a000001, 0x0a0000ff, 0x0a000001},
		row(0x0a000001, 63), row(0x0a000001, 64), row(0x0a000001, 65), row(0x0a000001, 1000), make([]uint32, 65),
	}
}

// asks are requests of all kinds, those that there aren't too, with lists and addresses of
// all sorts.
func asks() []api.Ask {
	var l []api.Ask
	for _, kind := range append(wrongKinds(), 1, 2, 3, 4, 5, 6, 7) {
		for _, x := range []uint32{0, 5, 0x0a000000, 0x0a000001, 0x0a0000ff, 0x0a000100, math.MaxUint32} {
			for _, addrs := range lists() {
				l = append(l, api.Ask{Kind: kind, Addr: x, Addrs: addrs})
			}
		}
	}
	return l
}

// roomy is the list with room behind its length, all of it the number x.
func roomy[T any](l []T, x T) []T {
	r := slices.Concat(l, []T{x, x, x})
	return r[:len(l)]
}

// whole is the list with the room behind its length, copied.
func whole[T any](l []T) []T { return slices.Clone(l[:cap(l)]) }

// share tells whether a write into one list, or into the room behind it, is seen in the other
// one, or in its room. The numbers are put back.
func share(a, b []uint32) bool {
	a, b = a[:cap(a)], b[:cap(b)]
	for i := range a {
		was, before := a[i], slices.Clone(b)
		a[i]++
		seen := !slices.Equal(before, b)
		a[i] = was
		if seen {
			return true
		}
	}
	return false
}

func TestTheConfigurationsMayBe(t *testing.T) {
	for i, c := range confs() {
		if !block.May(c) {
			t.Errorf("%d may not be: %v", i, c)
		}
	}
}

func TestCheckByHand(t *testing.T) { // P10.1
	c := of(0x0a000100, 24, 0, 7, 255)
	for i, x := range []struct {
		a    api.Ask
		want api.Errno
	}{
		{batch(0x0a000101, 0x0a000101), api.ErrTwice}, // the chapter's example
		{api.Ask{}, api.ErrArg}, {api.Ask{Kind: -1}, api.ErrArg}, {api.Ask{Kind: 8}, api.ErrArg},
		{api.Ask{Kind: 8, Addr: 0x0a000101, Addrs: []uint32{0x0a000101}}, api.ErrArg},
		{api.Ask{Kind: api.Grant}, api.OK}, {api.Ask{Kind: api.Snapshot}, api.OK}, {api.Ask{Kind: api.Close}, api.OK},
		{api.Ask{Kind: api.Exact, Addr: 0x0a000101}, api.OK}, {api.Ask{Kind: api.Exact, Addr: 0x0a000100}, api.ErrReserved},
		{api.Ask{Kind: api.Exact, Addr: 0x0a000107}, api.ErrReserved}, {api.Ask{Kind: api.Exact, Addr: 0x0a0000ff}, api.ErrOutside},
		{api.Ask{Kind: api.Exact, Addr: 0x0a000200}, api.ErrOutside}, {api.Ask{Kind: api.Exact}, api.ErrOutside},
		{api.Ask{Kind: api.Release, Addr: 0x0a0001fe}, api.OK}, {api.Ask{Kind: api.Release, Addr: 0x0a0001ff}, api.ErrReserved},
		{api.Ask{Kind: api.Release, Addr: 0x0a0000ff}, api.ErrOutside}, {api.Ask{Kind: api.Release, Addr: 0x0a000200}, api.ErrOutside},
		{api.Ask{Kind: api.Query, Addr: 0x0a000106}, api.OK}, {api.Ask{Kind: api.Query, Addr: 0x0a000107}, api.ErrReserved},
		{api.Ask{Kind: api.Query, Addr: 0x0a0000ff}, api.ErrOutside}, {api.Ask{Kind: api.Query, Addr: 0x0a000200}, api.ErrOutside},
		{batch(), api.ErrEmpty}, {batch([]uint32{}...), api.ErrEmpty}, {batch(0x0a000101), api.OK}, {batch(0x0a000102, 0x0a000101), api.OK},
		{batch(0x0a000107), api.ErrReserved}, {batch(0x0a000200), api.ErrOutside}, {batch(0x0a0000ff), api.ErrOutside},
		{batch(0x0a000107, 0x0a000107), api.ErrReserved}, {batch(0x0a000200, 0x0a000200), api.ErrOutside},
		{batch(0x0a000101, 0x0a000102, 0x0a000101), api.ErrTwice}, {batch(0x0a000101, 0x0a000102, 0x0a000102), api.ErrTwice},
		{batch(0x0a000101, 0x0a000101, 0x0a000107), api.ErrTwice}, {batch(0x0a000101, 0x0a000101, 5), api.ErrTwice},
		{batch(0x0a000101, 0x0a000107, 0x0a000101), api.ErrReserved}, {batch(0x0a000101, 5, 0x0a000101), api.ErrOutside},
		{batch(0x0a000107, 5), api.ErrReserved}, {batch(5, 0x0a000107), api.ErrOutside}, {batch(5, 0x0a000107, 5, 0x0a000107), api.ErrOutside},
		{batch(row(0x0a000108, 64)...), api.OK}, {batch(row(0x0a000108, 65)...), api.ErrArg},
	} {
		if e := Check(c, x.a); e != x.want {
			t.Errorf("%d: %d, not %d", i, e, x.want)
		}
	}
}

// The examples of the whole that speak of wrong requests.
func TestCheckOfTheWholesExamples(t *testing.T) { // P10.1
	c := of(0x0a000000, 30, 0, 3)
	for i, x := range []struct {
		a    api.Ask
		want api.Errno
	}{
		{api.Ask{Kind: api.Exact, Addr: 0x0a000003}, api.ErrReserved}, {api.Ask{Kind: api.Exact, Addr: 0x0a000004}, api.ErrOutside},
		{batch(), api.ErrEmpty}, {batch(0x0a000001, 0x0a000001), api.ErrTwice}, {batch(0x0a000001, 0x0a000002), api.OK},
	} {
		if e := Check(c, x.a); e != x.want {
			t.Errorf("%d: %d, not %d", i, e, x.want)
		}
	}
}

func TestCheckOfKindsThatThereArent(t *testing.T) { // P10.1
	for i, c := range confs() {
		for _, kind := range wrongKinds() {
			for _, x := range near(c) {
				for _, l := range [][]uint32{nil, {}, {x}, {x, x}, row(x, 65)} {
					if e := Check(c, api.Ask{Kind: kind, Addr: x, Addrs: l}); e != api.ErrArg {
						t.Fatalf("configuration %d, the kind %d: %d", i, kind, e)
					}
				}
			}
		}
	}
}

func TestCheckOfKindsThatNameNothing(t *testing.T) { // P10.1
	for i, c := range confs() {
		for _, kind := range []int{api.Grant, api.Snapshot, api.Close} {
			for _, x := range near(c) {
				for _, l := range [][]uint32{nil, {}, {x}, {x, x}, row(x, 65)} {
					if e := Check(c, api.Ask{Kind: kind, Addr: x, Addrs: l}); e != api.OK {
						t.Fatalf("configuration %d, the kind %d: %d", i, kind, e)
					}
				}
			}
		}
	}
}

// Whatever stands in Addrs, Addr alone is looked at.
func TestCheckOfKindsThatNameOne(t *testing.T) { // P10.1
	for i, c := range confs() {
		for _, kind := range []int{api.Exact, api.Release, api.Query} {
			for _, x := range near(c) {
				for _, l := range [][]uint32{nil, {}, {x}, {x, x}, {0, math.MaxUint32}, usable(c, 3), row(x, 65)} {
					if e := Check(c, api.Ask{Kind: kind, Addr: x, Addrs: l}); e != fault(c, x) {
						t.Fatalf("configuration %d, the kind %d, %#x with %v: %d", i, kind, x, l, e)
					}
				}
			}
		}
	}
}

// Whatever stands in Addr, Addrs alone are looked at.
func TestCheckOfBatchesOfOneAndTwo(t *testing.T) { // P10.1
	for i, c := range confs() {
		if len(c.Held) > 10 {
			c.Held = append(c.Held[:5:5], c.Held[len(c.Held)-5:]...)
		}
		for _, x := range near(c) {
			for _, y := range near(c) {
				for _, l := range [][]uint32{nil, {}, {y}, {x, y}} {
					a := api.Ask{Kind: api.Batch, Addr: x, Addrs: l}
					if e := Check(c, a); e != meant(c, a) {
						t.Fatalf("configuration %d, %v: %d, not %d", i, a, e, meant(c, a))
					}
				}
			}
		}
	}
}

// How many there are is told ahead of what they are.
func TestCheckOfBatchesSizes(t *testing.T) { // P10.1
	c := of(0x0a010000, 16, 0, 65535)
	for _, x := range []struct {
		n    int
		want api.Errno
	}{
		{0, api.ErrEmpty}, {1, api.OK}, {2, api.OK}, {32, api.OK}, {63, api.OK}, {64, api.OK},
		{65, api.ErrArg}, {66, api.ErrArg}, {128, api.ErrArg}, {256, api.ErrArg}, {65536, api.ErrArg}, {65537, api.ErrArg},
	} {
		if e := Check(c, batch(row(0x0a010001, x.n)...)); e != x.want {
			t.Errorf("%d addresses: %d", x.n, e)
		}
		if x.want != api.ErrArg {
			continue
		}
		for _, wrong := range []uint32{0, 0x0a010000, 0x0a01ffff, 0x0a020000, 0x0a010001} {
			if e := Check(c, batch(slices.Repeat([]uint32{wrong}, x.n)...)); e != api.ErrArg {
				t.Errorf("%d times %#x: %d", x.n, wrong, e)
			}
		}
	}
	for i, c := range confs() {
		if Check(c, batch()) != api.ErrEmpty || Check(c, batch([]uint32{}...)) != api.ErrEmpty {
			t.Errorf("configuration %d: a batch of nothing", i)
		}
	}
}

// One address of a batch is wrong, at each of its places.
func TestCheckOfBatchesWithOneWrong(t *testing.T) { // P10.1
	c := of(0x0a000100, 24, 0, 7, 255)
	for _, n := range []int{1, 2, 3, 33, 64} {
		right := usable(c, n)
		if e := Check(c, batch(right...)); e != api.OK {
			t.Errorf("%d right ones: %d", n, e)
		}
		for at := range n {
			for _, x := range []struct {
				wrong uint32
				want  api.Errno
			}{
				{0, api.ErrOutside}, {0x0a0000ff, api.ErrOutside}, {0x0a000200, api.ErrOutside}, {math.MaxUint32, api.ErrOutside},
				{0x0a000100, api.ErrReserved}, {0x0a000107, api.ErrReserved}, {0x0a0001ff, api.ErrReserved},
			} {
				l := slices.Clone(right)
				l[at] = x.wrong
				if e := Check(c, batch(l...)); e != x.want {
					t.Errorf("%#x at %d of %d: %d", x.wrong, at, n, e)
				}
			}
			for other := range at {
				l := slices.Clone(right)
				l[at] = l[other]
				if e := Check(c, batch(l...)); e != api.ErrTwice {
					t.Errorf("the same at %d and %d of %d: %d", other, at, n, e)
				}
			}
		}
	}
}

// Two addresses are wrong, each in another way: the first one tells.
func TestCheckOfBatchesWithTwoWrong(t *testing.T) { // P10.1
	c := of(0x0a000100, 24, 0, 7, 255)
	right := usable(c, 64)
	wrongs := map[api.Errno]uint32{api.ErrOutside: 0x0a000200, api.ErrReserved: 0x0a000107, api.ErrTwice: right[0]}
	for _, first := range []int{1, 2, 31, 62} {
		for second := first + 1; second < 64; second++ {
			for want, x := range wrongs {
				for _, y := range wrongs {
					l := slices.Clone(right)
					l[first], l[second] = x, y
					if e := Check(c, batch(l...)); e != want {
						t.Errorf("%#x at %d, %#x at %d: %d, not %d", x, first, y, second, e, want)
					}
				}
			}
		}
	}
}

// All batches of up to four of the addresses in and about a block of four.
func smallBatches() [][]uint32 {
	l := [][]uint32{nil}
	for at := 0; at < len(l); at++ {
		if len(l[at]) == 4 {
			break
		}
		for _, x := range row(0x0a000003, 6) {
			l = append(l, append(slices.Clone(l[at]), x))
		}
	}
	return l
}

func TestCheckOfAllSmallBatches(t *testing.T) { // P10.1
	for _, c := range []api.Conf{of(0x0a000004, 30), of(0x0a000004, 30, 0), of(0x0a000004, 30, 0, 3), of(0x0a000004, 30, 1, 2), of(0x0a000004, 30, 0, 1, 2, 3), of(0x0a000004, 31, 1), of(0x0a000004, 32)} {
		for _, l := range smallBatches() {
			if e := Check(c, batch(l...)); e != meant(c, batch(l...)) {
				t.Fatalf("Held %v, %x: %d, not %d", c.Held, l, e, meant(c, batch(l...)))
			}
		}
	}
}

func TestCheckOfAllSorts(t *testing.T) { // P10.1
	for i, c := range append(confs(), of(0x0a000000, 24, 0, 255)) {
		for _, a := range asks() {
			if e := Check(c, a); e != meant(c, a) {
				t.Fatalf("configuration %d, %v: %d, not %d", i, a, e, meant(c, a))
			}
		}
	}
}

// Blocks all of whose addresses fit into one batch, and all of them are asked for at once.
func TestCheckOfWholeBlocks(t *testing.T) { // P10.1
	for p := 26; p <= 32; p++ {
		n := int(many(api.Block{Prefix: p}))
		for _, base := range []uint32{0, 0x0a000000, uint32(1<<32 - int64(n))} {
			all := row(base, n)
			if e := Check(of(base, p), batch(all...)); e != api.OK {
				t.Errorf("%#x/%d, nothing reserved: %d", base, p, e)
			}
			if e := Check(of(base, p, n-1), batch(all...)); e != api.ErrReserved {
				t.Errorf("%#x/%d, the last one reserved: %d", base, p, e)
			}
			full := of(base, p, upTo(n)...)
			for _, x := range all {
				for _, kind := range []int{api.Exact, api.Release, api.Query, api.Batch} {
					if e := Check(full, api.Ask{Kind: kind, Addr: x, Addrs: []uint32{x}}); e != api.ErrReserved {
						t.Errorf("%#x/%d, all reserved, %#x: %d", base, p, x, e)
					}
				}
			}
			if e := Check(full, api.Ask{Kind: api.Grant}); e != api.OK {
				t.Errorf("%#x/%d, all reserved, a Grant: %d", base, p, e)
			}
		}
	}
}

func TestNamesByHand(t *testing.T) { // P10.2
	for _, x := range []struct {
		kind int
		want []uint32
	}{
		{api.Grant, nil}, {api.Exact, []uint32{5}}, {api.Release, []uint32{5}}, {api.Batch, []uint32{7, 6, 7}},
		{api.Query, []uint32{5}}, {api.Snapshot, nil}, {api.Close, nil},
	} {
		if l := Names(api.Ask{Kind: x.kind, Addr: 5, Addrs: []uint32{7, 6, 7}}); !slices.Equal(l, x.want) {
			t.Errorf("the kind %d: %v", x.kind, l)
		}
	}
}

// Names asks no configuration: those of a wrong request are told too, as many as there are.
func TestNamesOfAllSorts(t *testing.T) { // P10.2
	for _, a := range asks() {
		var want []uint32
		switch a.Kind {
		case 2, 3, 5:
			want = []uint32{a.Addr}
		case 4:
			want = a.Addrs
		}
		if l := Names(a); !slices.Equal(l, want) {
			t.Fatalf("%v: %v", a, l)
		}
	}
}

func TestSameByHand(t *testing.T) { // P10.2
	a := api.Ask{Kind: 4, Addr: 5, Addrs: []uint32{6, 7}}
	for i, x := range []struct {
		a, b api.Ask
		want bool
	}{
		{a, a, true}, {a, api.Ask{Kind: 4, Addr: 5, Addrs: []uint32{6, 7}}, true}, {api.Ask{}, api.Ask{}, true},
		{a, api.Ask{Kind: 3, Addr: 5, Addrs: []uint32{6, 7}}, false}, {a, api.Ask{Kind: -4, Addr: 5, Addrs: []uint32{6, 7}}, false},
		{a, api.Ask{Kind: 1<<32 + 4, Addr: 5, Addrs: []uint32{6, 7}}, false},
		{a, api.Ask{Kind: 4, Addr: 6, Addrs: []uint32{6, 7}}, false}, {a, api.Ask{Kind: 4, Addrs: []uint32{6, 7}}, false},
		{a, api.Ask{Kind: 4, Addr: 5, Addrs: []uint32{7, 6}}, false}, {a, api.Ask{Kind: 4, Addr: 5, Addrs: []uint32{6}}, false},
		{a, api.Ask{Kind: 4, Addr: 5, Addrs: []uint32{7}}, false}, {a, api.Ask{Kind: 4, Addr: 5, Addrs: []uint32{6, 8}}, false},
		{a, api.Ask{Kind: 4, Addr: 5, Addrs: []uint32{5, 7}}, false}, {a, api.Ask{Kind: 4, Addr: 5, Addrs: []uint32{6, 7, 0}}, false},
		{a, api.Ask{Kind: 4, Addr: 5, Addrs: []uint32{6, 7, 7}}, false}, {a, api.Ask{Kind: 4, Addr: 5}, false},
		{api.Ask{}, api.Ask{Addrs: []uint32{}}, true}, {api.Ask{Kind: 4, Addr: 5}, api.Ask{Kind: 4, Addr: 5, Addrs: []uint32{6, 7}[:0]}, true},
		{api.Ask{}, api.Ask{Addrs: []uint32{0}}, false}, {api.Ask{Kind: 1}, api.Ask{Kind: 1, Addrs: []uint32{0}}, false},
		{api.Ask{Kind: 1}, api.Ask{Kind: 1, Addr: 1}, false}, {api.Ask{Kind: 2, Addr: 1}, api.Ask{Kind: 2, Addr: 1, Addrs: []uint32{1}}, false},
		{api.Ask{Kind: 0}, api.Ask{Kind: 8}, false}, {api.Ask{Kind: 8}, api.Ask{Kind: 8}, true},
	} {
		if Same(x.a, x.b) != x.want || Same(x.b, x.a) != x.want {
			t.Errorf("%d: %v, %v: not %v", i, x.a, x.b, x.want)
		}
	}
}

// Requests that are made anew each time are the same just where they are the same one; nil
// and empty lists are one.
func TestSameOfAllSorts(t *testing.T) { // P10.2
	var few []api.Ask
	for _, a := range asks() {
		if a.Kind >= -1 && a.Kind <= 8 && a.Addr <= 5 {
			few = append(few, a)
		}
	}
	for _, a := range few {
		for _, b := range few {
			want := a.Kind == b.Kind && a.Addr == b.Addr && len(a.Addrs) == len(b.Addrs)
			for i := 0; want && i < len(a.Addrs); i++ {
				want = a.Addrs[i] == b.Addrs[i]
			}
			b.Addrs = slices.Clone(b.Addrs)
			if Same(a, b) != want {
				t.Fatalf("%v, %v: not %v", a, b, want)
			}
		}
	}
}

// A long list that differs at one place alone, whichever, is another one, of each kind, though
// but one kind has a list.
func TestSameOfListsUnlikeAtOnePlace(t *testing.T) { // P10.2
	for kind := range 9 {
		a := api.Ask{Kind: kind, Addrs: row(0x0a000001, 64)}
		for at := range a.Addrs {
			b := api.Ask{Kind: kind, Addrs: slices.Clone(a.Addrs)}
			b.Addrs[at] += 1 << 31
			if Same(a, b) || Same(b, a) {
				t.Errorf("the kind %d, unlike at %d", kind, at)
			}
		}
	}
}

// wantRight holds the names of a request that Check lets pass against layer 5.
func wantRight(t *testing.T, c api.Conf, a api.Ask) {
	t.Helper()
	offs := map[int]bool{}
	for _, x := range Names(a) {
		off, e := block.Offset(c.Block, x)
		if e != api.OK || block.Held(c, off) || fault(c, x) != api.OK {
			t.Fatalf("%v, Held %v: %#x of %v: %d", c.Block, c.Held, x, a, e)
		}
		if offs[off] {
			t.Fatalf("%v: two names of %v have the offset %d", c.Block, a, off)
		}
		offs[off] = true
	}
	if a.Kind == api.Batch && (len(offs) < 1 || len(offs) > api.MaxBatch) {
		t.Fatalf("a batch of %d is right", len(offs))
	}
}

func TestNamesOfRightRequests(t *testing.T) { // P10.3
	passed := map[int]int{}
	for _, c := range append(confs(), of(0x0a000000, 24, 0, 255), of(0x0a000000, 16, upTo(2)...)) {
		l := asks()
		for _, x := range near(c) {
			for kind := 1; kind <= 7; kind++ {
				l = append(l, api.Ask{Kind: kind, Addr: x, Addrs: []uint32{x, x + 1}})
			}
		}
		for n := range 67 {
			l = append(l, batch(usable(c, n)...))
		}
		for _, a := range l {
			if Check(c, a) == api.OK {
				passed[a.Kind]++
				wantRight(t, c, a)
			}
		}
	}
	for kind := 1; kind <= 7; kind++ {
		if passed[kind] == 0 {
			t.Errorf("nothing of the kind %d is right", kind)
		}
	}
}

// Of all small batches just those are right whose names all have offsets that may be lent,
// each another one.
func TestNamesOfRightSmallBatches(t *testing.T) { // P10.3
	for _, x := range []struct {
		c    api.Conf
		want int
	}{
		{of(0x0a000004, 30), 4 + 12 + 24 + 24}, {of(0x0a000004, 30, 0), 3 + 6 + 6}, {of(0x0a000004, 30, 0, 3), 2 + 2}, {of(0x0a000004, 30, 1, 2), 2 + 2},
		{of(0x0a000004, 30, 0, 1, 2, 3), 0}, {of(0x0a000004, 31, 1), 1}, {of(0x0a000004, 32), 1},
	} {
		right := 0
		for _, l := range smallBatches() {
			if Check(x.c, batch(l...)) == api.OK {
				right++
				wantRight(t, x.c, batch(l...))
			}
		}
		if right != x.want {
			t.Errorf("%v, Held %v: %d are right", x.c.Block, x.c.Held, right)
		}
	}
}

func TestWhatIsHandedInStays(t *testing.T) { // P10.4
	for i, c := range confs() {
		c.Held = roomy(c.Held, -9)
		held := whole(c.Held)
		l := asks()
		for n := range 67 {
			l = append(l, batch(usable(c, n)...))
		}
		for _, a := range l {
			if i%4 != 0 && a.Kind != api.Batch {
				continue
			}
			a.Addrs = roomy(a.Addrs, 0x0a000001)
			addrs := whole(a.Addrs)
			Check(c, a)
			Names(a)
			Same(a, a)
			Same(a, api.Ask{Kind: a.Kind, Addr: a.Addr, Addrs: addrs})
			if !slices.Equal(whole(a.Addrs), addrs) || !slices.Equal(whole(c.Held), held) {
				t.Fatalf("configuration %d, %v: %v, %v", i, a, whole(a.Addrs), whole(c.Held))
			}
		}
	}
}

func TestNamesAreNew(t *testing.T) { // P10.4
	for _, a := range asks() {
		if len(a.Addrs) > 65 || a.Addr != 5 {
			continue
		}
		a.Addrs = roomy(a.Addrs, 0x0a000001)
		first, second := Names(a), Names(a)
		if share(first, a.Addrs) || share(a.Addrs, first) {
			t.Errorf("%v: the names are the request's", a)
		}
		if share(first, second) {
			t.Errorf("%v: two answers are one", a)
		}
	}
}

// What is written into an answer is told by no later one.
func TestNamesThatWereWrittenInto(t *testing.T) { // P10.4
	for kind := 1; kind <= 7; kind++ {
		a := api.Ask{Kind: kind, Addr: 5, Addrs: []uint32{6, 7}}
		want := slices.Clone(Names(a))
		for i := range Names(a) {
			l := Names(a)
			l[i] = 99
		}
		if l := Names(a); !slices.Equal(l, want) {
			t.Errorf("the kind %d: %v", kind, l)
		}
	}
}

// What stands in the room behind a list is none of it, and what was met in one call is
// forgotten in the next one.
func TestAnswersHangOnArgumentsAlone(t *testing.T) { // P10.4
	c := of(0x0a000100, 24, 0, 7, 9)
	c.Held = c.Held[:2]
	a := batch(0x0a000101, 0x0a000109, 0x0a000101, 5)
	a.Addrs = a.Addrs[:2]
	for range 3 {
		if e := Check(c, a); e != api.OK {
			t.Error("right:", e)
		}
		if e := Check(c, batch(0x0a000101, 0x0a000101)); e != api.ErrTwice {
			t.Error("twice:", e)
		}
	}
	if l := Names(a); !slices.Equal(l, []uint32{0x0a000101, 0x0a000109}) {
		t.Error(l)
	}
	if !Same(a, batch(0x0a000101, 0x0a000109)) || !Same(batch(a.Addrs[:0]...), batch()) {
		t.Error("the room behind a list is told")
	}
}

// Nothing is promised of configurations that may not be but that each call ends, and none
// panics.
func TestNothingPanics(t *testing.T) { // P1
	for _, p := range []int{math.MinInt, -33, -32, -1, 0, 15, 33, 64, math.MaxInt} {
		for _, base := range []uint32{0, 0x0a000001, math.MaxUint32} {
			c := of(base, p, 9, -3, 9, math.MinInt, math.MaxInt)
			for _, a := range asks() {
				Check(c, a)
			}
		}
	}
	for _, a := range asks() {
		Check(api.Conf{}, a)
	}
}

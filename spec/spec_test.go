package spec

import (
	"math"
	"slices"
	"testing"

	"lodger/api"
	"lodger/ask"
	"lodger/block"
	"lodger/model"
)

// of answers a configuration of that block and those reserved offsets.
func of(base uint32, prefix int, held ...int) api.Conf {
	return api.Conf{Block: api.Block{Base: base, Prefix: prefix}, Held: held, Shards: 2, Workers: 3, Queue: 4, Tries: 5}
}

// upTo are the numbers from 0 on, below n.
func upTo(n int) []int {
	l := make([]int, n)
	for i := range l {
		l[i] = i
	}
	return l
}

// row are the n addresses from the first one on.
func row(first uint32, n int) []uint32 {
	l := make([]uint32, n)
	for i := range l {
		l[i] = first + uint32(i)
	}
	return l
}

// to is a request of that kind and address.
func to(kind int, x uint32) api.Ask { return api.Ask{Kind: kind, Addr: x} }

// batchOf is a request of these addresses.
func batchOf(l ...uint32) api.Ask { return api.Ask{Kind: api.Batch, Addrs: l} }

// bad is an answer of that error, and nothing else.
func bad(e api.Errno) api.Answer { return api.Answer{Err: e} }

// many is how many addresses the block of the configuration has, by doubling, so that the
// tests hold the package against something else than what it calls.
func many(c api.Conf) int {
	n := 1
	for p := 32; p > c.Block.Prefix; p-- {
		n *= 2
	}
	return n
}

// usable are the offsets that aren't reserved.
func usable(c api.Conf) []int {
	return slices.DeleteFunc(upTo(many(c)), func(off int) bool { return slices.Contains(c.Held, off) })
}

// small are configurations so small that all of their sets can be gone through: of one
// address, of two, at both ends of the range, and such as have all offsets reserved.
func small() []api.Conf {
	return []api.Conf{
		of(0x0a000000, 32), of(0x0a000000, 32, 0), of(0, 32), of(0, 32, 0), of(math.MaxUint32, 32), of(math.MaxUint32, 32, 0),
		of(0x0a000002, 31), of(0x0a000002, 31, 0), of(0x0a000002, 31, 1), of(0x0a000002, 31, 0, 1), of(math.MaxUint32-1, 31),
		of(0x0a000004, 30), of(0x0a000004, 30, 0, 3), of(0x0a000004, 30, 1, 2), of(0x0a000004, 30, 0, 1, 2, 3), of(0, 30, 1), of(0xfffffffc, 30, 0),
	}
}

// setsOf are all sets that may be of a small configuration, told by counting in twos.
func setsOf(c api.Conf) [][]int {
	all := usable(c)
	var l [][]int
	for n := range 1 << len(all) {
		var s []int
		for _, off := range all {
			if n%2 == 1 {
				s = append(s, off)
			}
			n /= 2
		}
		l = append(l, s)
	}
	return l
}

// wrongKinds are those that there aren't; some are right in their lowest bits.
func wrongKinds() []int {
	return []int{0, 8, 9, 16, 256 + 2, 1<<32 + 1, math.MaxInt, -1, -2, -7, -1<<32 + 5, math.MinInt}
}

// near are the addresses of a small configuration, those beside it, and the ends of all.
func near(c api.Conf) []uint32 {
	return append(row(c.Block.Base-1, many(c)+2), 5, 0x7fffffff)
}

// asksOf are requests to a small configuration, right and wrong ones, of all kinds.
func asksOf(c api.Conf) []api.Ask {
	var l []api.Ask
	for _, kind := range append(wrongKinds(), 1, 6, 7) {
		l = append(l, to(kind, 0), api.Ask{Kind: kind, Addr: c.Block.Base, Addrs: []uint32{c.Block.Base}})
	}
	for _, x := range near(c) {
		l = append(l, to(2, x), to(3, x), to(5, x), batchOf(x), batchOf(x, x))
		for _, y := range row(c.Block.Base, many(c)) {
			l = append(l, batchOf(x, y), api.Ask{Kind: 2, Addr: y, Addrs: []uint32{x, y}})
		}
	}
	all := row(c.Block.Base, many(c))
	back := slices.Clone(all)
	slices.Reverse(back)
	return append(l, batchOf(), batchOf([]uint32{}...), batchOf(all...), batchOf(back...), batchOf(told(c, usable(c))...), batchOf(row(c.Block.Base, 65)...))
}

// outcome is an answer that is right, and the set then.
type outcome struct {
	then []int
	x    api.Answer
}

// rights are all outcomes that the chapter's words let a request have. Sets are gone through
// number by number.
func rights(c api.Conf, s []int, a api.Ask) []outcome {
	l := []outcome{{s, bad(api.ErrBusy)}, {s, bad(api.ErrClosed)}}
	if e := ask.Check(c, a); e != api.OK {
		return append(l, outcome{s, bad(e)})
	}
	off := int(int64(a.Addr) - int64(c.Block.Base))
	in := slices.Contains(s, off)
	switch a.Kind {
	case 1:
		return append(l, grants(c, s)...)
	case 2:
		if in {
			return append(l, outcome{s, bad(api.ErrUsed)})
		}
		return append(l, outcome{with(s, off), api.Answer{Addr: a.Addr}})
	case 3:
		if in {
			return append(l, outcome{without(s, off), api.Answer{}})
		}
		return append(l, outcome{s, bad(api.ErrFree)})
	case 4:
		return append(l, released(c, s, a.Addrs))
	case 5:
		return append(l, outcome{s, api.Answer{Used: in}})
	case 6:
		return append(l, outcome{s, bad(api.ErrRetry)}, outcome{s, api.Answer{Addrs: told(c, s)}})
	}
	return append(l, outcome{s, api.Answer{}})
}

// grants are the outcomes of a Grant that isn't put off, the least address' first.
func grants(c api.Conf, s []int) []outcome {
	var l []outcome
	for _, off := range usable(c) {
		if !slices.Contains(s, off) {
			l = append(l, outcome{with(s, off), api.Answer{Addr: c.Block.Base + uint32(off)}})
		}
	}
	if l == nil {
		return []outcome{{s, bad(api.ErrFull)}}
	}
	return l
}

// released is the outcome of a right Batch that isn't put off.
func released(c api.Conf, s []int, addrs []uint32) outcome {
	var errs []api.Errno
	for _, x := range addrs {
		off := int(x - c.Block.Base)
		if slices.Contains(s, off) {
			s, errs = without(s, off), append(errs, api.OK)
		} else {
			errs = append(errs, api.ErrFree)
		}
	}
	return outcome{s, api.Answer{Errs: errs}}
}

// with is the set and the number, sorted.
func with(s []int, off int) []int {
	l := append(slices.Clone(s), off)
	slices.Sort(l)
	return l
}

// without is the set less the number.
func without(s []int, off int) []int {
	return slices.DeleteFunc(slices.Clone(s), func(x int) bool { return x == off })
}

// told are the set's addresses.
func told(c api.Conf, s []int) []uint32 {
	var l []uint32
	for _, off := range s {
		l = append(l, c.Block.Base+uint32(off))
	}
	return l
}

// alike tells whether the answers are the same, field by field.
func alike(a, b api.Answer) bool {
	return a.Err == b.Err && a.Addr == b.Addr && a.Used == b.Used && slices.Equal(a.Addrs, b.Addrs) && slices.Equal(a.Errs, b.Errs)
}

// unlike are answers that differ from x in one field alone.
func unlike(x api.Answer) []api.Answer {
	var l []api.Answer
	put := func(change func(y *api.Answer)) {
		y := x
		y.Addrs, y.Errs = slices.Clone(x.Addrs), slices.Clone(x.Errs)
		change(&y)
		if !alike(x, y) {
			l = append(l, y)
		}
	}
	for e := api.Errno(-1); e <= api.MaxErr+1; e++ {
		put(func(y *api.Answer) { y.Err = e })
		put(func(y *api.Answer) { y.Errs = append(y.Errs, e) })
		put(func(y *api.Answer) { y.Errs = append([]api.Errno{e}, y.Errs...) })
		for i := range x.Errs {
			put(func(y *api.Answer) { y.Errs[i] = e })
		}
	}
	put(func(y *api.Answer) { y.Err += 1 << 32 })
	put(func(y *api.Answer) { y.Used = !y.Used })
	for _, z := range []uint32{0, 1, x.Addr + 1, x.Addr - 1, x.Addr ^ 1<<31, 0x0a000000, 0x0a000004, math.MaxUint32} {
		put(func(y *api.Answer) { y.Addr = z })
		put(func(y *api.Answer) { y.Addrs = append(y.Addrs, z) })
		put(func(y *api.Answer) { y.Addrs = append([]uint32{z}, y.Addrs...) })
	}
	put(func(y *api.Answer) { slices.Reverse(y.Addrs) })
	put(func(y *api.Answer) { slices.Reverse(y.Errs) })
	put(func(y *api.Answer) { y.Addrs = nil })
	put(func(y *api.Answer) { y.Errs = nil })
	for i := range x.Addrs {
		put(func(y *api.Answer) { y.Addrs[i]++ })
		put(func(y *api.Answer) { y.Addrs = slices.Delete(y.Addrs, i, i+1) })
		put(func(y *api.Answer) { y.Addrs = slices.Insert(y.Addrs, i, y.Addrs[i]) })
	}
	for i := range x.Errs {
		put(func(y *api.Answer) { y.Errs = slices.Delete(y.Errs, i, i+1) })
	}
	return l
}

// wantLegal holds Legal's answer to the outcomes that the request may have.
func wantLegal(t *testing.T, c api.Conf, s []int, a api.Ask, x api.Answer, may []outcome) {
	t.Helper()
	want, right := s, false
	for _, o := range may {
		if alike(o.x, x) {
			want, right = o.then, true
		}
	}
	if then, ok := Legal(c, s, a, x); ok != right || !slices.Equal(then, want) {
		t.Fatalf("%v Held %v, the set %v, %v answered %v: %v %v, not %v %v", c.Block, c.Held, s, a, x, then, ok, want, right)
	}
}

// roomy is the list with room behind its length, all of it the number x.
func roomy[T any](l []T, x T) []T {
	r := slices.Concat(l, []T{x, x, x})
	return r[:len(l)]
}

// whole is the list with the room behind its length, copied.
func whole[T any](l []T) []T { return slices.Clone(l[:cap(l)]) }

// share tells whether a write into one list, or into the room behind it, is seen in the other
// one, or in its room. The numbers are put back.
func share[T int | uint32 | api.Errno](a, b []T) bool {
	a, b = a[:cap(a)], b[:cap(b)]
	for i := range a {
		was, before := a[i], slices.Clone(b)
		a[i]++
		seen := !slices.Equal(before, b)
		a[i] = was
		if seen {
			return true
		}
	}
	return false
}

// tried is a request of a set with an answer; then is the set that must be, if it is right.
type tried struct {
	s    []int
	a    api.Ask
	x    api.Answer
	then []int
	ok   bool
}

// run holds Legal against the rows.
func run(t *testing.T, c api.Conf, rows []tried) {
	t.Helper()
	for i, r := range rows {
		if then, ok := Legal(c, r.s, r.a, r.x); ok != r.ok || !slices.Equal(then, r.then) {
			t.Errorf("%d: %v %v, not %v %v", i, then, ok, r.then, r.ok)
		}
	}
}

// base is the first address of the block of hand.
const base = 0x0a000108

// hand is the configuration of the tests by hand: 2, 3, 4, 5 and 6 aren't reserved.
func hand() api.Conf { return of(base, 29, 0, 1, 7) }

func TestTheConfigurationsMayBe(t *testing.T) {
	for i, c := range append(small(), hand()) {
		if !block.May(c) {
			t.Errorf("%d may not be: %v", i, c)
		}
	}
}

func TestTheChaptersExample(t *testing.T) { // P11.1, P11.2
	c := of(0x0a000000, 30, 0, 3)
	a := to(api.Exact, 0x0a000001)
	s, x := Some(c, nil, a)
	if !slices.Equal(s, []int{1}) || !alike(x, api.Answer{Addr: 0x0a000001}) {
		t.Error(s, x)
	}
	twice, x := Some(c, s, a)
	if !slices.Equal(twice, []int{1}) || !alike(x, bad(api.ErrUsed)) {
		t.Error(twice, x)
	}
	run(t, c, []tried{
		{nil, a, api.Answer{Addr: 0x0a000001}, []int{1}, true}, {nil, a, bad(api.ErrUsed), nil, false},
		{[]int{1}, a, bad(api.ErrUsed), []int{1}, true}, {[]int{1}, a, api.Answer{Addr: 0x0a000001}, []int{1}, false},
	})
}

// The examples of the whole, but those of queues, one behind the other.
func TestTheWholesExamples(t *testing.T) { // P11.1, P11.2
	c := of(0x0a000000, 30, 0, 3)
	var s []int
	for i, r := range []struct {
		a    api.Ask
		x    api.Answer
		then []int
	}{
		{to(api.Snapshot, 0), api.Answer{}, nil}, {to(api.Grant, 0), api.Answer{Addr: 0x0a000001}, []int{1}},
		{to(api.Grant, 0), api.Answer{Addr: 0x0a000002}, []int{1, 2}}, {to(api.Grant, 0), bad(api.ErrFull), []int{1, 2}},
		{to(api.Exact, 0x0a000003), bad(api.ErrReserved), []int{1, 2}}, {to(api.Exact, 0x0a000004), bad(api.ErrOutside), []int{1, 2}},
		{to(api.Release, 0x0a000001), api.Answer{}, []int{2}}, {to(api.Release, 0x0a000001), bad(api.ErrFree), []int{2}},
		{to(api.Query, 0x0a000002), api.Answer{Used: true}, []int{2}}, {batchOf(0x0a000001, 0x0a000002), api.Answer{Errs: []api.Errno{api.ErrFree, api.OK}}, nil},
		{batchOf(), bad(api.ErrEmpty), nil}, {batchOf(0x0a000001, 0x0a000001), bad(api.ErrTwice), nil}, {to(api.Close, 0), api.Answer{}, nil},
	} {
		if then, ok := Legal(c, s, r.a, r.x); !ok || !slices.Equal(then, r.then) {
			t.Errorf("%d: %v %v", i, then, ok)
		}
		then, x := Some(c, s, r.a)
		if !slices.Equal(then, r.then) || !alike(x, r.x) {
			t.Errorf("%d: %v %v", i, then, x)
		}
		s = then
	}
}

func TestLegalOfGrants(t *testing.T) { // P11.1
	s, all, a := []int{3, 5}, []int{2, 3, 4, 5, 6}, to(api.Grant, 0)
	full := of(base, 29, upTo(8)...)
	run(t, hand(), []tried{
		{s, a, api.Answer{Addr: base + 2}, []int{2, 3, 5}, true}, {s, a, api.Answer{Addr: base + 4}, []int{3, 4, 5}, true}, {s, a, api.Answer{Addr: base + 6}, []int{3, 5, 6}, true},
		{s, to(api.Grant, base), api.Answer{Addr: base + 2}, []int{2, 3, 5}, true}, {s, api.Ask{Kind: api.Grant, Addrs: row(0, 70)}, api.Answer{Addr: base + 2}, []int{2, 3, 5}, true},
		{nil, a, api.Answer{Addr: base + 2}, []int{2}, true}, {all[1:], a, api.Answer{Addr: base + 2}, all, true}, {all[:4], a, api.Answer{Addr: base + 6}, all, true},
		{s, a, api.Answer{Addr: base + 3}, s, false}, {s, a, api.Answer{Addr: base + 5}, s, false},
		{s, a, api.Answer{Addr: base}, s, false}, {s, a, api.Answer{Addr: base + 1}, s, false}, {s, a, api.Answer{Addr: base + 7}, s, false},
		{s, a, api.Answer{Addr: base + 8}, s, false}, {s, a, api.Answer{Addr: base - 1}, s, false}, {s, a, api.Answer{Addr: 2}, s, false}, {s, a, api.Answer{}, s, false},
		{s, a, api.Answer{Addr: math.MaxUint32}, s, false},
		{s, a, bad(api.ErrFull), s, false}, {nil, a, bad(api.ErrFull), nil, false}, {all[1:], a, bad(api.ErrFull), all[1:], false},
		{all, a, bad(api.ErrFull), all, true}, {all, a, api.Answer{Addr: base + 2}, all, false}, {all, a, api.Answer{}, all, false}, {all, a, bad(api.ErrUsed), all, false},
		{all, a, api.Answer{Err: api.ErrFull, Addr: base + 2}, all, false}, {all, a, api.Answer{Err: api.ErrFull, Used: true}, all, false},
		{s, a, api.Answer{Err: api.ErrUsed, Addr: base + 2}, s, false}, {s, a, api.Answer{Err: api.ErrBusy, Addr: base + 2}, s, false},
		{s, a, api.Answer{Addr: base + 2, Used: true}, s, false}, {s, a, api.Answer{Addr: base + 2, Addrs: []uint32{base + 2}}, s, false}, {s, a, api.Answer{Addr: base + 2, Errs: []api.Errno{0}}, s, false},
		{s, a, bad(api.ErrArg), s, false}, {s, a, bad(api.ErrOutside), s, false}, {s, a, bad(api.ErrReserved), s, false}, {s, a, bad(api.ErrUsed), s, false},
	})
	run(t, full, []tried{{nil, a, bad(api.ErrFull), nil, true}, {nil, a, api.Answer{Addr: base}, nil, false}, {nil, a, api.Answer{}, nil, false}, {nil, a, bad(api.ErrReserved), nil, false}})
	run(t, of(0, 30), []tried{{nil, a, api.Answer{}, []int{0}, true}, {[]int{0}, a, api.Answer{}, []int{0}, false}, {nil, a, api.Answer{Addr: 4}, nil, false}})
	run(t, of(0, 30, 0), []tried{{nil, a, api.Answer{}, nil, false}})
	run(t, of(math.MaxUint32, 32), []tried{{nil, a, api.Answer{Addr: math.MaxUint32}, []int{0}, true}, {nil, a, api.Answer{}, nil, false}, {[]int{0}, a, bad(api.ErrFull), []int{0}, true}})
}

func TestLegalOfExact(t *testing.T) { // P11.1
	s, a, b := []int{3, 5}, to(api.Exact, base+4), to(api.Exact, base+5)
	run(t, hand(), []tried{
		{s, a, api.Answer{Addr: base + 4}, []int{3, 4, 5}, true}, {nil, a, api.Answer{Addr: base + 4}, []int{4}, true}, {[]int{2, 3, 5, 6}, a, api.Answer{Addr: base + 4}, []int{2, 3, 4, 5, 6}, true},
		{s, api.Ask{Kind: api.Exact, Addr: base + 4, Addrs: []uint32{0, 0}}, api.Answer{Addr: base + 4}, []int{3, 4, 5}, true},
		{s, a, api.Answer{Addr: base + 6}, s, false}, {s, a, api.Answer{Addr: base + 5}, s, false}, {s, a, api.Answer{}, s, false}, {s, a, bad(api.ErrUsed), s, false}, {s, a, bad(api.ErrFree), s, false},
		{s, a, bad(api.ErrFull), s, false}, {s, a, bad(api.ErrReserved), s, false}, {s, a, bad(api.ErrOutside), s, false},
		{s, a, api.Answer{Addr: base + 4, Used: true}, s, false}, {s, a, api.Answer{Addr: base + 4, Addrs: []uint32{base + 4}}, s, false}, {s, a, api.Answer{Addr: base + 4, Errs: []api.Errno{0}}, s, false},
		{s, b, bad(api.ErrUsed), s, true}, {[]int{2, 3, 4, 5, 6}, b, bad(api.ErrUsed), []int{2, 3, 4, 5, 6}, true}, {s, b, api.Answer{Addr: base + 5}, s, false}, {s, b, api.Answer{}, s, false},
		{[]int{2, 3, 4, 5, 6}, b, bad(api.ErrFull), []int{2, 3, 4, 5, 6}, false},
		{s, b, api.Answer{Err: api.ErrUsed, Addr: base + 5}, s, false}, {s, b, api.Answer{Err: api.ErrUsed, Used: true}, s, false}, {s, b, bad(api.ErrFree), s, false},
	})
}

func TestLegalOfReleases(t *testing.T) { // P11.1
	s, a, b := []int{3, 5}, to(api.Release, base+5), to(api.Release, base+4)
	run(t, hand(), []tried{
		{s, a, api.Answer{}, []int{3}, true}, {[]int{5}, a, api.Answer{}, nil, true}, {[]int{2, 3, 4, 5, 6}, a, api.Answer{}, []int{2, 3, 4, 6}, true},
		{s, api.Ask{Kind: api.Release, Addr: base + 5, Addrs: []uint32{base + 3}}, api.Answer{}, []int{3}, true},
		{s, a, bad(api.ErrFree), s, false}, {s, a, bad(api.ErrUsed), s, false}, {s, a, api.Answer{Addr: base + 5}, s, false}, {s, a, api.Answer{Used: true}, s, false},
		{s, a, api.Answer{Errs: []api.Errno{0}}, s, false}, {s, a, api.Answer{Addrs: []uint32{base + 5}}, s, false}, {s, a, bad(api.ErrReserved), s, false}, {s, a, bad(api.ErrOutside), s, false},
		{s, b, bad(api.ErrFree), s, true}, {nil, b, bad(api.ErrFree), nil, true}, {[]int{2, 3, 5, 6}, b, bad(api.ErrFree), []int{2, 3, 5, 6}, true},
		{s, b, api.Answer{}, s, false}, {s, b, api.Answer{Err: api.ErrFree, Addr: base + 4}, s, false}, {s, b, api.Answer{Err: api.ErrFree, Errs: []api.Errno{api.ErrFree}}, s, false},
		{s, b, api.Answer{Errs: []api.Errno{api.ErrFree}}, s, false},
	})
}

func TestLegalOfQueries(t *testing.T) { // P11.1
	s, a, b := []int{3, 5}, to(api.Query, base+5), to(api.Query, base+4)
	run(t, hand(), []tried{
		{s, a, api.Answer{Used: true}, s, true}, {s, a, api.Answer{}, s, false}, {s, b, api.Answer{}, s, true}, {s, b, api.Answer{Used: true}, s, false}, {nil, a, api.Answer{}, nil, true}, {nil, a, api.Answer{Used: true}, nil, false},
		{s, a, bad(api.ErrUsed), s, false}, {s, b, bad(api.ErrFree), s, false}, {s, a, api.Answer{Err: api.ErrUsed, Used: true}, s, false},
		{s, a, api.Answer{Used: true, Addr: base + 5}, s, false}, {s, b, api.Answer{Addr: base + 4}, s, false}, {s, a, api.Answer{Used: true, Addrs: []uint32{base + 5}}, s, false}, {s, b, api.Answer{Errs: []api.Errno{0}}, s, false},
	})
}

func TestLegalOfSnapshots(t *testing.T) { // P11.1
	s, all, a := []int{3, 5}, []int{2, 3, 4, 5, 6}, to(api.Snapshot, 0)
	tell := func(l ...uint32) api.Answer { return api.Answer{Addrs: l} }
	run(t, hand(), []tried{
		{s, a, tell(base+3, base+5), s, true}, {s, api.Ask{Kind: api.Snapshot, Addr: 9, Addrs: []uint32{9, 9}}, tell(base+3, base+5), s, true},
		{nil, a, api.Answer{}, nil, true}, {nil, a, api.Answer{Addrs: []uint32{}}, nil, true}, {[]int{}, a, api.Answer{}, nil, true}, {all, a, tell(row(base+2, 5)...), all, true},
		{s, a, tell(base+5, base+3), s, false}, {s, a, tell(base + 3), s, false}, {s, a, tell(base + 5), s, false}, {s, a, tell(), s, false}, {s, a, tell(base+3, base+4, base+5), s, false},
		{s, a, tell(base+3, base+5, base+5), s, false}, {s, a, tell(base+3, base+3, base+5), s, false}, {s, a, tell(base+3, base+5, base+6), s, false}, {s, a, tell(base, base+3, base+5), s, false},
		{s, a, tell(base+3, base+6), s, false}, {s, a, tell(3, 5), s, false}, {nil, a, tell(base + 2), nil, false}, {nil, a, tell(0), nil, false}, {all, a, tell(row(base, 8)...), all, false}, {all, a, tell(row(base+2, 4)...), all, false},
		{s, a, bad(api.ErrRetry), s, true}, {nil, a, bad(api.ErrRetry), nil, true}, {all, a, bad(api.ErrRetry), all, true},
		{s, a, api.Answer{Err: api.ErrRetry, Addrs: row(base+3, 1)}, s, false}, {s, a, api.Answer{Err: api.ErrRetry, Addr: 1}, s, false}, {s, a, api.Answer{Err: api.ErrRetry, Used: true}, s, false}, {s, a, api.Answer{Err: api.ErrRetry, Errs: []api.Errno{0}}, s, false},
		{all, a, bad(api.ErrFull), all, false}, {nil, a, bad(api.ErrEmpty), nil, false},
		{s, a, api.Answer{Addrs: []uint32{base + 3, base + 5}, Addr: base + 3}, s, false}, {s, a, api.Answer{Addrs: []uint32{base + 3, base + 5}, Used: true}, s, false}, {s, a, api.Answer{Addrs: []uint32{base + 3, base + 5}, Errs: make([]api.Errno, 2)}, s, false},
	})
}

func TestLegalOfCloses(t *testing.T) { // P11.1
	s, a := []int{3, 5}, to(api.Close, 0)
	run(t, hand(), []tried{
		{s, a, api.Answer{}, s, true}, {nil, a, api.Answer{}, nil, true}, {s, api.Ask{Kind: api.Close, Addr: 4, Addrs: []uint32{4, 4}}, api.Answer{}, s, true},
		{s, a, bad(api.ErrClosed), s, true}, {s, a, bad(api.ErrBusy), s, true}, {s, a, bad(api.ErrRetry), s, false}, {s, a, bad(api.ErrArg), s, false},
		{s, a, api.Answer{Addr: 1}, s, false}, {s, a, api.Answer{Used: true}, s, false}, {s, a, api.Answer{Addrs: []uint32{0}}, s, false}, {s, a, api.Answer{Errs: []api.Errno{0}}, s, false},
	})
}

func TestLegalOfBatches(t *testing.T) { // P11.1
	s, free := []int{2, 3, 5}, api.ErrFree
	errs := func(l ...api.Errno) api.Answer { return api.Answer{Errs: l} }
	mixed := batchOf(base+5, base+4, base+2, base+6)
	run(t, hand(), []tried{
		{s, batchOf(base+2, base+3, base+5), errs(0, 0, 0), nil, true}, {s, batchOf(base+5, base+2, base+3), errs(0, 0, 0), nil, true}, {s, batchOf(base + 3), errs(0), []int{2, 5}, true},
		{s, batchOf(base+4, base+6), errs(free, free), s, true}, {nil, mixed, errs(free, free, free, free), nil, true}, {s, batchOf(base + 4), errs(free), s, true},
		{s, mixed, errs(0, free, 0, free), []int{3}, true}, {s, api.Ask{Kind: api.Batch, Addr: base, Addrs: mixed.Addrs}, errs(0, free, 0, free), []int{3}, true},
		{s, mixed, errs(0, free, 0), s, false}, {s, mixed, errs(0, free, 0, free, free), s, false}, {s, mixed, errs(0, free, 0, free, 0), s, false}, {s, mixed, errs(), s, false}, {s, mixed, errs(free, 0, free, 0), s, false},
		{s, mixed, errs(0, free, 0, 0), s, false}, {s, mixed, errs(free, free, 0, free), s, false}, {s, mixed, errs(0, free, 0, api.ErrUsed), s, false}, {s, mixed, errs(0, free, 0, api.ErrBusy), s, false}, {s, mixed, errs(0, 0, free, free), s, false},
		{s, batchOf(base + 3), errs(), s, false}, {s, batchOf(base + 3), errs(free), s, false}, {s, batchOf(base + 3), errs(0, 0), s, false}, {s, batchOf(base + 4), errs(0), s, false}, {s, batchOf(base + 4), bad(free), s, false},
		{s, mixed, bad(free), s, false}, {s, mixed, bad(api.ErrEmpty), s, false}, {s, mixed, bad(api.ErrTwice), s, false}, {s, mixed, bad(api.ErrArg), s, false}, {s, mixed, bad(api.ErrBusy), s, true}, {s, mixed, bad(api.ErrClosed), s, true},
		{s, mixed, api.Answer{Err: free, Errs: []api.Errno{0, free, 0, free}}, s, false}, {s, mixed, api.Answer{Addr: base + 5, Errs: []api.Errno{0, free, 0, free}}, s, false}, {s, mixed, api.Answer{Used: true, Errs: []api.Errno{0, free, 0, free}}, s, false},
		{s, mixed, api.Answer{Addrs: mixed.Addrs, Errs: []api.Errno{0, free, 0, free}}, s, false}, {s, mixed, api.Answer{Err: api.ErrClosed, Errs: []api.Errno{0, free, 0, free}}, s, false}, {s, mixed, api.Answer{Err: api.ErrBusy, Errs: make([]api.Errno, 4)}, s, false},
	})
}

// wrong are requests that aren't right in hand, with the errors that they have.
func wrong() map[api.Errno][]api.Ask {
	l := map[api.Errno][]api.Ask{
		api.ErrArg:      {batchOf(row(base+2, 65)...), batchOf(slices.Repeat([]uint32{5}, 65)...), {Kind: 8, Addr: base + 3}, {Kind: 0, Addr: base + 3, Addrs: []uint32{base + 3}}},
		api.ErrOutside:  {batchOf(base+3, base+8), batchOf(5), to(api.Exact, base+8), to(api.Exact, 3), to(api.Release, base-1), to(api.Query, math.MaxUint32), to(api.Query, 0)},
		api.ErrReserved: {batchOf(base+3, base+7), batchOf(base), to(api.Exact, base), to(api.Release, base+1), to(api.Query, base+7)},
		api.ErrEmpty:    {batchOf(), batchOf([]uint32{}...), {Kind: api.Batch, Addr: base + 3}},
		api.ErrTwice:    {batchOf(base+3, base+3), batchOf(base+2, base+3, base+4, base+2), batchOf(base+3, base+3, 5)},
	}
	for _, kind := range wrongKinds() {
		l[api.ErrArg] = append(l[api.ErrArg], to(kind, 0))
	}
	return l
}

// Of a wrong request its own error, ErrBusy and ErrClosed are right, alone, and no other one.
func TestLegalOfWrongRequests(t *testing.T) { // P11.1
	c := hand()
	for e, asks := range wrong() {
		for _, a := range asks {
			for _, s := range [][]int{nil, {3}, {2, 5}, {2, 3, 4, 5, 6}} {
				for x := api.Errno(-2); x <= 15; x++ {
					then, ok := Legal(c, s, a, bad(x))
					if ok != (x == e || x == api.ErrBusy || x == api.ErrClosed) || !slices.Equal(then, s) {
						t.Errorf("%v of %v, answered %d: %v %v", a, s, x, then, ok)
					}
				}
				may := rights(c, s, a)
				for _, o := range may {
					for _, x := range unlike(o.x) {
						wantLegal(t, c, s, a, x, may)
					}
				}
				for _, x := range []api.Answer{{Addr: a.Addr}, {Used: true}, {Errs: make([]api.Errno, len(a.Addrs))}, {Addrs: told(c, s)}} {
					wantLegal(t, c, s, a, x, may)
				}
			}
		}
	}
}

// ErrBusy and ErrClosed are right of whatever request, alone; ErrRetry of Snapshot.
func TestLegalOfWhatIsPutOff(t *testing.T) { // P11.1
	c := hand()
	for _, s := range [][]int{nil, {3}, {2, 5}, {2, 3, 4, 5, 6}} {
		for _, kind := range append(wrongKinds(), upTo(8)...) {
			for _, a := range []api.Ask{to(kind, base+3), to(kind, base), to(kind, 9), {Kind: kind, Addr: base + 4, Addrs: []uint32{base + 3, base + 2}}} {
				for _, e := range []api.Errno{api.ErrBusy, api.ErrClosed, api.ErrRetry} {
					right := e != api.ErrRetry || kind == api.Snapshot
					if then, ok := Legal(c, s, a, bad(e)); ok != right || !slices.Equal(then, s) {
						t.Errorf("%v of %v, answered %d: %v %v", a, s, e, then, ok)
					}
					for _, x := range []api.Answer{{Err: e, Addr: base + 3}, {Err: e, Used: true}, {Err: e, Addrs: []uint32{base + 3}}, {Err: e, Errs: []api.Errno{0}}, {Err: e, Errs: []api.Errno{e}}, {Err: -e}, {Err: e + 16}, {Err: e + 1<<32}} {
						if then, ok := Legal(c, s, a, x); ok || !slices.Equal(then, s) {
							t.Errorf("%v of %v, answered %v: %v %v", a, s, x, then, ok)
						}
					}
				}
			}
		}
	}
}

// All requests to small configurations, of all sets, with each answer that is right, those
// that are unlike it in one field alone, and those that are right of other requests.
func TestLegalOfAllSmallOnes(t *testing.T) { // P11.1
	for _, c := range small() {
		pool := others(c)
		for _, s := range setsOf(c) {
			for _, a := range asksOf(c) {
				may := rights(c, s, a)
				for _, o := range may {
					wantLegal(t, c, s, a, o.x, may)
					for _, x := range unlike(o.x) {
						wantLegal(t, c, s, a, x, may)
					}
				}
				for _, x := range pool {
					wantLegal(t, c, s, a, x, may)
				}
			}
		}
	}
}

// others are answers that are right of some request of some set of the configuration.
func others(c api.Conf) []api.Answer {
	var l []api.Answer
	sets := setsOf(c)
	for _, s := range [][]int{sets[0], sets[len(sets)/2], sets[len(sets)-1]} {
		for _, a := range asksOf(c) {
			for _, o := range rights(c, s, a) {
				if !slices.ContainsFunc(l, func(x api.Answer) bool { return alike(x, o.x) }) {
					l = append(l, o.x)
				}
			}
		}
	}
	return l
}

// Of great blocks: sets of many numbers, some of them at leaves' edges.
func TestLegalOfGreatBlocks(t *testing.T) { // P11.1
	for _, c := range []api.Conf{of(0x0a010000, 16), of(0x0a010000, 16, upTo(64)...), of(0xffff0000, 16, 0, 31, 32, 65535), of(0, 20, 0, 4095), of(0x0a000100, 24, 7, 200), of(0x0a000100, 26, upTo(64)...)} {
		all := usable(c)
		most := slices.DeleteFunc(slices.Clone(all), func(off int) bool { return off%1000 == 100 })
		few := slices.DeleteFunc(slices.Clone(all), func(off int) bool { return off%61 != 40 })
		for _, s := range [][]int{nil, few, most, all} {
			wantGreat(t, c, s)
		}
	}
}

// wantGreat holds Legal against the words, of one set, at some of the block's offsets.
func wantGreat(t *testing.T, c api.Conf, s []int) {
	t.Helper()
	n := many(c)
	for _, off := range []int{0, 7, 31, 32, 40, 63, 64, 100, n / 2, n - 1, n} {
		x := c.Block.Base + uint32(off)
		for _, a := range []api.Ask{to(2, x), to(3, x), to(5, x), batchOf(x), batchOf(row(x, 64)...)} {
			may := rights(c, s, a)
			for _, o := range may {
				wantLegal(t, c, s, a, o.x, may)
			}
		}
		// All outcomes of a Grant would be too many sets.
		lent := off < n && !slices.Contains(c.Held, off) && !slices.Contains(s, off)
		then, ok := Legal(c, s, to(1, 0), api.Answer{Addr: x})
		if ok != lent || lent && !slices.Equal(then, with(s, off)) || !lent && !slices.Equal(then, s) {
			t.Errorf("%v, of %d a Grant of %#x: %v", c.Block, len(s), x, ok)
		}
	}
	may := []outcome{{s, bad(api.ErrRetry)}, {s, api.Answer{Addrs: told(c, s)}}}
	wantLegal(t, c, s, to(6, 0), api.Answer{Addrs: told(c, s)}, may)
	wantLegal(t, c, s, to(6, 0), api.Answer{Addrs: told(c, s)[:max(1, len(s))-1]}, may)
	wantLegal(t, c, s, to(6, 0), bad(api.ErrRetry), may)
	if then, ok := Legal(c, s, to(1, 0), bad(api.ErrFull)); ok != (len(s) == n-len(c.Held)) || !slices.Equal(then, s) {
		t.Errorf("%v, ErrFull of %d: %v", c.Block, len(s), ok)
	}
}

func TestSameByHand(t *testing.T) { // P11.1
	x := api.Answer{Err: 3, Addr: 5, Used: true, Addrs: []uint32{6, 7}, Errs: []api.Errno{0, 6}}
	change := func(do func(y *api.Answer)) api.Answer {
		y := x
		y.Addrs, y.Errs = slices.Clone(x.Addrs), slices.Clone(x.Errs)
		do(&y)
		return y
	}
	for i, r := range []struct {
		a, b api.Answer
		want bool
	}{
		{x, x, true}, {x, change(func(y *api.Answer) {}), true}, {api.Answer{}, api.Answer{}, true},
		{x, change(func(y *api.Answer) { y.Err = 0 }), false}, {x, change(func(y *api.Answer) { y.Err = -3 }), false}, {x, change(func(y *api.Answer) { y.Err += 1 << 32 }), false},
		{x, change(func(y *api.Answer) { y.Addr = 6 }), false}, {x, change(func(y *api.Answer) { y.Addr = 0 }), false}, {x, change(func(y *api.Answer) { y.Addr += 1 << 31 }), false}, {x, change(func(y *api.Answer) { y.Used = false }), false},
		{x, change(func(y *api.Answer) { y.Addrs = nil }), false}, {x, change(func(y *api.Answer) { y.Addrs = y.Addrs[:1] }), false}, {x, change(func(y *api.Answer) { y.Addrs = y.Addrs[1:] }), false},
		{x, change(func(y *api.Answer) { y.Addrs = append(y.Addrs, 0) }), false}, {x, change(func(y *api.Answer) { y.Addrs = append(y.Addrs, 7) }), false}, {x, change(func(y *api.Answer) { slices.Reverse(y.Addrs) }), false},
		{x, change(func(y *api.Answer) { y.Addrs[0]-- }), false}, {x, change(func(y *api.Answer) { y.Addrs[1]++ }), false},
		{x, change(func(y *api.Answer) { y.Errs = nil }), false}, {x, change(func(y *api.Answer) { y.Errs = y.Errs[:1] }), false}, {x, change(func(y *api.Answer) { y.Errs = y.Errs[1:] }), false},
		{x, change(func(y *api.Answer) { y.Errs = append(y.Errs, 0) }), false}, {x, change(func(y *api.Answer) { slices.Reverse(y.Errs) }), false}, {x, change(func(y *api.Answer) { y.Errs[0] = 6 }), false}, {x, change(func(y *api.Answer) { y.Errs[1] = 0 }), false},
		{api.Answer{}, api.Answer{Addrs: []uint32{}, Errs: []api.Errno{}}, true}, {api.Answer{Addrs: []uint32{}}, api.Answer{Errs: []api.Errno{}}, true}, {api.Answer{Used: true}, api.Answer{Used: true, Addrs: x.Addrs[:0], Errs: x.Errs[:0]}, true},
		{api.Answer{}, api.Answer{Addrs: []uint32{0}}, false}, {api.Answer{}, api.Answer{Errs: []api.Errno{0}}, false}, {api.Answer{}, api.Answer{Err: 1}, false}, {api.Answer{}, api.Answer{Addr: 1}, false}, {api.Answer{}, api.Answer{Used: true}, false},
		{api.Answer{Addrs: []uint32{0}}, api.Answer{Errs: []api.Errno{0}}, false}, {api.Answer{Err: -1}, api.Answer{Err: 1}, false}, {api.Answer{Err: 99}, api.Answer{Err: 99}, true},
	} {
		if Same(r.a, r.b) != r.want || Same(r.b, r.a) != r.want {
			t.Errorf("%d: %v, %v: not %v", i, r.a, r.b, r.want)
		}
	}
}

// Answers that are unlike in one field alone aren't the same; those that are made anew are.
func TestSameOfAllSorts(t *testing.T) { // P11.1
	long := api.Answer{Addrs: row(9, 64), Errs: make([]api.Errno, 64)}
	for _, x := range append(others(of(0x0a000004, 30, 0)), long, api.Answer{Err: 7, Addr: 8, Used: true, Addrs: []uint32{2, 4}, Errs: []api.Errno{1, 0}}) {
		anew := x
		anew.Addrs, anew.Errs = roomy(x.Addrs, 1), roomy(x.Errs, 1)
		if !Same(x, anew) || !Same(anew, x) {
			t.Errorf("%v isn't the same", x)
		}
		for _, y := range unlike(x) {
			if Same(x, y) || Same(y, x) {
				t.Errorf("%v is the same as %v", x, y)
			}
		}
	}
}

func TestSomeByHand(t *testing.T) { // P11.2
	c, full := hand(), of(base, 29, upTo(8)...)
	s, all := []int{3, 5}, []int{2, 3, 4, 5, 6}
	for i, r := range []struct {
		c    api.Conf
		s    []int
		a    api.Ask
		then []int
		x    api.Answer
	}{
		{c, nil, to(api.Grant, 0), []int{2}, api.Answer{Addr: base + 2}}, {c, s, to(api.Grant, base+6), []int{2, 3, 5}, api.Answer{Addr: base + 2}}, {c, []int{2, 3, 5}, to(api.Grant, 0), []int{2, 3, 4, 5}, api.Answer{Addr: base + 4}},
		{c, all[:4], to(api.Grant, 0), all, api.Answer{Addr: base + 6}}, {c, all, to(api.Grant, 0), all, bad(api.ErrFull)}, {full, nil, to(api.Grant, 0), nil, bad(api.ErrFull)},
		{of(0, 30), nil, to(api.Grant, 0), []int{0}, api.Answer{}}, {of(0xfffffffc, 30, 0), []int{1, 2}, to(api.Grant, 0), []int{1, 2, 3}, api.Answer{Addr: math.MaxUint32}}, {of(base, 29, 0, 2), []int{1}, to(api.Grant, 0), []int{1, 3}, api.Answer{Addr: base + 3}},
		{c, nil, to(api.Exact, base+4), []int{4}, api.Answer{Addr: base + 4}}, {c, s, to(api.Exact, base+5), s, bad(api.ErrUsed)}, {c, all, to(api.Exact, base+2), all, bad(api.ErrUsed)}, {full, nil, to(api.Exact, base+2), nil, bad(api.ErrReserved)},
		{c, nil, to(api.Release, base+4), nil, bad(api.ErrFree)}, {c, s, to(api.Release, base+5), []int{3}, api.Answer{}}, {c, all, to(api.Release, base+2), all[1:], api.Answer{}}, {full, nil, to(api.Release, base+2), nil, bad(api.ErrReserved)},
		{c, nil, batchOf(base+4, base+2), nil, api.Answer{Errs: []api.Errno{6, 6}}}, {c, s, batchOf(base+4, base+5, base+2), []int{3}, api.Answer{Errs: []api.Errno{6, 0, 6}}}, {c, all, batchOf(row(base+2, 5)...), nil, api.Answer{Errs: make([]api.Errno, 5)}},
		{full, nil, batchOf(base + 2), nil, bad(api.ErrReserved)}, {c, s, batchOf(), s, bad(api.ErrEmpty)}, {c, s, batchOf(base+3, base+3), s, bad(api.ErrTwice)}, {c, s, batchOf(row(base, 65)...), s, bad(api.ErrArg)},
		{c, nil, to(api.Query, base+4), nil, api.Answer{}}, {c, s, to(api.Query, base+5), s, api.Answer{Used: true}}, {c, all, to(api.Query, base+2), all, api.Answer{Used: true}}, {full, nil, to(api.Query, base+8), nil, bad(api.ErrOutside)},
		{c, nil, to(api.Snapshot, 0), nil, api.Answer{}}, {c, s, to(api.Snapshot, 0), s, api.Answer{Addrs: []uint32{base + 3, base + 5}}}, {c, all, to(api.Snapshot, 0), all, api.Answer{Addrs: row(base+2, 5)}}, {full, nil, to(api.Snapshot, 0), nil, api.Answer{}},
		{c, nil, to(api.Close, 0), nil, api.Answer{}}, {c, s, to(api.Close, base), s, api.Answer{}}, {c, all, to(api.Close, 0), all, api.Answer{}}, {full, nil, to(api.Close, 0), nil, api.Answer{}},
		{c, s, to(0, base+4), s, bad(api.ErrArg)}, {c, s, to(8, base+4), s, bad(api.ErrArg)}, {c, s, to(-1, base+4), s, bad(api.ErrArg)}, {c, s, to(math.MinInt, base+4), s, bad(api.ErrArg)},
	} {
		if then, x := Some(r.c, r.s, r.a); !slices.Equal(then, r.then) || !alike(x, r.x) {
			t.Errorf("%d: %v %v, not %v %v", i, then, x, r.then, r.x)
		}
	}
}

// What Some answers is right, of a Grant the first of the outcomes; nothing is put off.
func TestSomeOfAllSmallOnes(t *testing.T) { // P11.2
	for _, c := range small() {
		for _, s := range setsOf(c) {
			for _, a := range asksOf(c) {
				want := settledOutcome(c, s, a)
				then, x := Some(c, s, a)
				if !slices.Equal(then, want.then) || !alike(x, want.x) {
					t.Fatalf("%v Held %v, the set %v, %v: %v %v", c.Block, c.Held, s, a, then, x)
				}
				if legal, ok := Legal(c, s, a, x); !ok || !slices.Equal(legal, then) {
					t.Fatalf("%v Held %v, the set %v, %v: %v isn't right", c.Block, c.Held, s, a, x)
				}
			}
		}
	}
}

// settledOutcome is the first outcome of the request that isn't put off.
func settledOutcome(c api.Conf, s []int, a api.Ask) outcome {
	l := rights(c, s, a)
	return l[slices.IndexFunc(l, func(o outcome) bool {
		return o.x.Err != api.ErrBusy && o.x.Err != api.ErrClosed && o.x.Err != api.ErrRetry
	})]
}

// The least address is granted, wherever it is, past reserved ones and used ones.
func TestSomeGrantsTheLeast(t *testing.T) { // P11.2
	for _, c := range []api.Conf{of(0x0a000100, 24), of(0x0a000100, 24, 0, 7, 8, 31, 32, 100, 255), of(0xffffff00, 24, upTo(64)...), of(0, 25, 127)} {
		all := usable(c)
		for at := range all {
			for _, s := range [][]int{all[:at], slices.Concat(all[:at], all[at+1:]), slices.Concat(all[:at], all[min(at+3, len(all)):])} {
				then, x := Some(c, s, to(api.Grant, 0))
				if !alike(x, api.Answer{Addr: c.Block.Base + uint32(all[at])}) || !slices.Equal(then, with(s, all[at])) {
					t.Fatalf("%v: of %v %v", c.Block, s, x)
				}
			}
		}
		if then, x := Some(c, all, to(api.Grant, 0)); !alike(x, bad(api.ErrFull)) || !slices.Equal(then, all) {
			t.Errorf("%v, all used: %v", c.Block, x)
		}
	}
	c := of(0x0a010000, 16, 0, 65535)
	s := upTo(65535)[1:]
	if then, x := Some(c, s[:65533], to(api.Grant, 0)); !alike(x, api.Answer{Addr: 0x0a01fffe}) || !slices.Equal(then, s) {
		t.Error("the last one:", x)
	}
	if then, x := Some(c, s, to(api.Grant, 0)); !alike(x, bad(api.ErrFull)) || !slices.Equal(then, s) {
		t.Error("none:", x)
	}
}

// wantFollows holds an outcome that is right against what follows.
func wantFollows(t *testing.T, c api.Conf, s []int, a api.Ask, then []int, x api.Answer) {
	t.Helper()
	if !model.May(c, then) {
		t.Fatalf("%v Held %v, the set %v, %v answered %v: %v may not be", c.Block, c.Held, s, a, x, then)
	}
	if x.Err != api.OK && !slices.Equal(s, then) {
		t.Fatalf("%v Held %v, the set %v, %v answered %v: %v", c.Block, c.Held, s, a, x, then)
	}
	if x.Err != api.OK || a.Kind != api.Grant && a.Kind != api.Exact {
		return
	}
	off := int(int64(x.Addr) - int64(c.Block.Base))
	if slices.Contains(s, off) || !slices.Contains(then, off) || !slices.Contains(usable(c), off) || len(then) != len(s)+1 {
		t.Fatalf("%v Held %v, the set %v, %v is granted %#x: %v", c.Block, c.Held, s, a, x.Addr, then)
	}
}

// Whatever answers are tried of all sets, those that Legal lets pass grant nothing twice.
func TestWhatFollowsOfAllSmallOnes(t *testing.T) { // P11.3
	passed := map[int]int{}
	for _, c := range small() {
		pool := others(c)
		for _, x := range append(near(c), row(c.Block.Base-4, 12)...) {
			pool = append(pool, api.Answer{Addr: x}, api.Answer{Addr: x, Used: true}, api.Answer{Err: api.ErrUsed, Addr: x})
		}
		for _, s := range setsOf(c) {
			for _, a := range asksOf(c) {
				then, x := Some(c, s, a)
				wantFollows(t, c, s, a, then, x)
				for _, x := range pool {
					then, ok := Legal(c, s, a, x)
					if ok {
						passed[a.Kind]++
						wantFollows(t, c, s, a, then, x)
					} else if !slices.Equal(then, s) {
						t.Fatalf("the set %v, %v answered %v, which isn't right: %v", s, a, x, then)
					}
				}
			}
		}
	}
	for kind := 1; kind <= 7; kind++ {
		if passed[kind] == 0 {
			t.Errorf("nothing of the kind %d is right", kind)
		}
	}
}

// A long row of requests, one behind the other, by a fixed rule, right and wrong ones; who
// holds what is kept by address beside the set.
func TestWhatFollowsAlong(t *testing.T) { // P11.3
	for _, c := range []api.Conf{hand(), of(0x0a000000, 30, 0, 3), of(0xffffffc0, 26, 0, 31, 32, 63), of(0, 24, 5), of(0x0a000004, 30, 0, 1, 2, 3)} {
		var s []int
		held, w := map[uint32]bool{}, uint64(1)
		next := func(n int) int {
			w = w*6364136223846793005 + 1442695040888963407
			return int(w >> 33 % uint64(n))
		}
		for range 4000 {
			x := c.Block.Base + uint32(next(many(c)+2)) - 1
			a := api.Ask{Kind: next(9), Addr: x, Addrs: []uint32{x, x + uint32(next(3))}}
			if next(3) > 0 {
				a.Kind = 1 + next(3)
			}
			then, y := Some(c, s, a)
			if a.Kind == api.Grant && next(2) == 0 {
				if other, ok := Legal(c, s, a, api.Answer{Addr: x}); ok {
					then, y = other, api.Answer{Addr: x}
				}
			}
			wantFollows(t, c, s, a, then, y)
			keep(t, held, a, y)
			if len(held) != len(then) {
				t.Fatalf("%v, %v answered %v: %v", c.Block, a, y, then)
			}
			s = then
		}
	}
}

// keep writes into held what the answer of the request changes.
func keep(t *testing.T, held map[uint32]bool, a api.Ask, x api.Answer) {
	t.Helper()
	switch {
	case x.Err != api.OK:
	case a.Kind == api.Grant || a.Kind == api.Exact:
		if held[x.Addr] {
			t.Fatalf("%#x is granted twice", x.Addr)
		}
		held[x.Addr] = true
	case a.Kind == api.Release:
		delete(held, a.Addr)
	case a.Kind == api.Batch:
		for i, y := range a.Addrs {
			if held[y] != (x.Errs[i] == api.OK) {
				t.Fatalf("%#x of %v: %v", y, a, x)
			}
			delete(held, y)
		}
	case a.Kind == api.Query && x.Used != held[a.Addr]:
		t.Fatalf("%v: %v", a, x)
	case a.Kind == api.Snapshot && len(x.Addrs) != len(held):
		t.Fatalf("%v: %v of %v", a, x, held)
	}
}

// given are what is handed in, in lists with room behind their lengths.
type given struct {
	c api.Conf
	s []int
	a api.Ask
	x api.Answer
}

// handed are these with room behind each list.
func handed(c api.Conf, s []int, a api.Ask, x api.Answer) given {
	c.Held, s = roomy(c.Held, 2), roomy(s, 2)
	a.Addrs, x.Addrs, x.Errs = roomy(a.Addrs, base+2), roomy(x.Addrs, base+2), roomy(x.Errs, api.ErrFree)
	return given{c, s, a, x}
}

// copied are copies of the lists with the room behind them.
func (g given) copied() given {
	g.c.Held, g.s, g.a.Addrs, g.x.Addrs, g.x.Errs = whole(g.c.Held), whole(g.s), whole(g.a.Addrs), whole(g.x.Addrs), whole(g.x.Errs)
	return g
}

// same tells whether the lists, and the room behind them, are those that were copied.
func (g given) same(was given) bool {
	now := g.copied()
	return slices.Equal(now.c.Held, was.c.Held) && slices.Equal(now.s, was.s) && slices.Equal(now.a.Addrs, was.a.Addrs) &&
		slices.Equal(now.x.Addrs, was.x.Addrs) && slices.Equal(now.x.Errs, was.x.Errs)
}

// each calls do with what may be handed in: requests of all kinds, sets, and answers that are
// right, and those that aren't.
func each(do func(given)) {
	for _, c := range []api.Conf{of(0x0a000004, 30), of(0x0a000004, 30, 0, 3), of(0x0a000004, 30, 0, 1, 2, 3), of(0, 31, 1)} {
		for _, s := range setsOf(c) {
			for _, a := range asksOf(c) {
				for _, o := range append(rights(c, s, a), outcome{s, api.Answer{Addrs: []uint32{4, 5}, Errs: []api.Errno{6}}}) {
					do(handed(c, s, a, o.x))
				}
			}
		}
	}
}

func TestWhatIsHandedInStays(t *testing.T) { // P11.4
	each(func(g given) {
		was := g.copied()
		Legal(g.c, g.s, g.a, g.x)
		Some(g.c, g.s, g.a)
		Same(g.x, g.x)
		Same(g.x, api.Answer{Addrs: []uint32{4}, Errs: []api.Errno{0}})
		if !g.same(was) {
			t.Fatalf("%v, the set %v, %v, %v: changed", was.c, was.s, was.a, was.x)
		}
	})
}

// A set that is another one, and all lists of an answer, are new memory: nothing that is
// written into them, or behind them, is seen in what was handed in, or in another answer.
func TestWhatIsAnsweredIsNew(t *testing.T) { // P11.4
	each(func(g given) {
		then, _ := Legal(g.c, g.s, g.a, g.x)
		again, _ := Legal(g.c, g.s, g.a, g.x)
		some, x := Some(g.c, g.s, g.a)
		twice, y := Some(g.c, g.s, g.a)
		sets := [][]int{g.c.Held}
		for _, l := range [][]int{then, again, some, twice} {
			if slices.Equal(l, g.s) {
				continue
			}
			for _, other := range append(sets, g.s) {
				if share(l, other) || share(other, l) {
					t.Fatalf("%v, the set %v, %v: the set %v is shared", g.c, g.s, g.a, l)
				}
			}
			sets = append(sets, l)
		}
		for _, l := range [][]uint32{y.Addrs, g.a.Addrs, g.x.Addrs} {
			if share(x.Addrs, l) || share(l, x.Addrs) {
				t.Fatalf("%v, the set %v, %v: Addrs are shared", g.c, g.s, g.a)
			}
		}
		if share(x.Errs, y.Errs) || share(x.Errs, g.x.Errs) || share(g.x.Errs, x.Errs) {
			t.Fatalf("%v, the set %v, %v: Errs are shared", g.c, g.s, g.a)
		}
	})
}

// A set that stays as it was may be the one that was handed in, but never a piece of Held.
func TestSetsThatStayAreNotHeld(t *testing.T) { // P11.4
	each(func(g given) {
		then, _ := Legal(g.c, g.s, g.a, g.x)
		some, _ := Some(g.c, g.s, g.a)
		if share(then, g.c.Held) || share(some, g.c.Held) {
			t.Fatalf("%v, the set %v, %v: the set is Held's", g.c, g.s, g.a)
		}
	})
}

// What is written into an answer is told by no later one, and room behind a list is no part
// of it.
func TestAnswersHangOnArgumentsAlone(t *testing.T) { // P11.4
	c := hand()
	c.Held = roomy(c.Held, 4)
	s := roomy([]int{3, 5}, 6)
	a := batchOf(roomy([]uint32{base + 5, base + 4}, base+3)...)
	for range 3 {
		then, x := Some(c, s, a)
		if !slices.Equal(then, []int{3}) || !alike(x, api.Answer{Errs: []api.Errno{0, api.ErrFree}}) {
			t.Fatal(then, x)
		}
		then[0], x.Errs[0] = 9, 9
		then, x = Some(c, s, to(api.Snapshot, 0))
		if !slices.Equal(then, s) || !alike(x, api.Answer{Addrs: []uint32{base + 3, base + 5}}) {
			t.Fatal(then, x)
		}
		x.Addrs[0] = 9
		then, ok := Legal(c, s, to(api.Grant, 0), api.Answer{Addr: base + 6})
		if !ok || !slices.Equal(then, []int{3, 5, 6}) {
			t.Fatal(then, ok)
		}
		then[0] = 9
	}
}

// Nothing is promised of configurations and sets that may not be but that each call ends, and
// none panics.
func TestNothingPanics(t *testing.T) { // P1
	confs := []api.Conf{{}, of(0, 16), of(9, 33), of(9, 30), of(0, math.MinInt), of(0, math.MaxInt), of(base, 29, 9, -3, 9, math.MinInt, math.MaxInt), of(base, 29, upTo(100)...), of(math.MaxUint32, 16)}
	sets := [][]int{nil, {}, {3, 5}, {0, 1, 7}, {5, 3}, {3, 3}, {-1, 2}, {8, 9}, {math.MinInt, math.MaxInt}, upTo(100)}
	for _, c := range confs {
		for _, s := range sets {
			for _, a := range asksOf(hand()) {
				_, x := Some(c, s, a)
				for _, y := range []api.Answer{x, {}, {Addr: base + 2}, {Err: -1}, {Err: math.MinInt}, {Err: api.ErrFull}, {Addrs: a.Addrs, Errs: make([]api.Errno, 9)}} {
					Legal(c, s, a, y)
					Same(x, y)
				}
			}
		}
	}
}

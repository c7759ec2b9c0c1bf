package queue

import (
	"math"
	"slices"
	"testing"

	"lodger/api"
)

// counted answers n items, none of them 0, so that a missing one shows.
func counted(n int) []int {
	var l []int
	for i := range n {
		l = append(l, 100+i)
	}
	return l
}

// queues are those that may be, that the tests go through: of each Cap empty ones (nil,
// and of length 0), with one item, with one fewer than Cap, and full; open, and closed.
func queues() []api.Queue {
	var l []api.Queue
	for _, most := range []int{1, 2, 3, 7, 8, 63, 64} {
		lists := [][]int{nil, {}, {-5}, {0}, counted(most - 1), counted(most)}
		if most >= 3 {
			lists = append(lists, []int{math.MaxInt, math.MinInt}, []int{4, 4, 4})
		}
		for _, items := range lists {
			l = append(l, api.Queue{Cap: most, Items: items}, api.Queue{Cap: most, Items: items, Closed: true})
		}
	}
	return l
}

// same tells whether two queues are one. Nil and empty Items are.
func same(a, b api.Queue) bool {
	return a.Cap == b.Cap && a.Closed == b.Closed && slices.Equal(a.Items, b.Items)
}

// room are the items that stand behind a list's length in the tests of spare room.
func room() []int { return []int{11, 22, 33} }

// roomy answers q with such items behind its Items' length, so that a write there shows.
func roomy(q api.Queue) api.Queue {
	q.Items = slices.Concat(q.Items, room())[:len(q.Items)]
	return q
}

// stays tells whether in, which roomy made of q, is as it was, with the room behind it.
func stays(in, q api.Queue) bool {
	return same(in, q) && slices.Equal(in.Items[:len(in.Items)+3][len(in.Items):], room())
}

// scribble writes over all of a list's memory, the room behind its length included.
func scribble(l []int) {
	l = l[:cap(l)]
	for i := range l {
		l[i] = 77
	}
}

// made is an answer of one of the calls that answer queues.
type made struct {
	call string
	q    api.Queue
	new  bool // it was to change
}

// answers are the answers of all calls that answer queues, of q.
func answers(q api.Queue) []made {
	put, e := Put(q, 9)
	took, _, ok := Take(q)
	return []made{{"Put", put, e == api.OK}, {"Take", took, ok}, {"Close", Close(q), !q.Closed}}
}

func TestMay(t *testing.T) { // P3.1
	for _, q := range queues() {
		if !May(q) {
			t.Errorf("Cap %d with %d Items: it may not be", q.Cap, len(q.Items))
		}
	}
	for _, x := range []struct {
		most, items int
		want        bool
	}{
		{math.MinInt, 0, false}, {-1, 0, false}, {0, 0, false}, {0, 1, false}, {-1, 1, false},
		{1, 0, true}, {1, 1, true}, {1, 2, false}, {2, 2, true}, {2, 3, false},
		{63, 63, true}, {63, 64, false}, {64, 0, true}, {64, 64, true}, {64, 65, false},
		{65, 0, false}, {65, 64, false}, {65, 65, false}, {128, 3, false}, {math.MaxInt, 0, false},
	} {
		for _, closed := range []bool{false, true} {
			q := api.Queue{Cap: x.most, Items: counted(x.items), Closed: closed}
			if May(q) != x.want || May(roomy(q)) != x.want {
				t.Errorf("Cap %d with %d Items, closed %v: not %v", x.most, x.items, closed, x.want)
			}
		}
	}
	if May(api.Queue{}) {
		t.Error("a zero queue may be")
	}
}

func TestNewIsAnEmptyQueueOfThatCap(t *testing.T) { // P3.1
	for most := 1; most <= 64; most++ {
		q, e := New(most)
		if e != api.OK || !same(q, api.Queue{Cap: most}) || !May(q) || Ends(q) {
			t.Errorf("New(%d): %v, %d", most, q, e)
		}
	}
}

func TestNewOfNumbersThatMayNotBe(t *testing.T) { // P3.1
	for _, most := range []int{math.MinInt, -64, -1, 0, 65, 66, 1 << 32, 1<<32 + 1, math.MaxInt} {
		if q, e := New(most); e != api.ErrArg || !same(q, api.Queue{}) {
			t.Errorf("New(%d): %v, %d", most, q, e)
		}
	}
}

func TestPutByHand(t *testing.T) { // P3.1
	for _, x := range []struct {
		q    api.Queue
		want []int
		e    api.Errno
	}{
		{api.Queue{Cap: 2}, []int{9}, api.OK},
		{api.Queue{Cap: 2, Items: []int{}}, []int{9}, api.OK},
		{api.Queue{Cap: 2, Items: []int{5}}, []int{5, 9}, api.OK},
		{api.Queue{Cap: 2, Items: []int{9}}, []int{9, 9}, api.OK},
		{api.Queue{Cap: 2, Items: []int{5, 6}}, []int{5, 6}, api.ErrBusy},
		{api.Queue{Cap: 2, Closed: true}, nil, api.ErrClosed},
		{api.Queue{Cap: 2, Items: []int{}, Closed: true}, nil, api.ErrClosed},
		{api.Queue{Cap: 2, Items: []int{5}, Closed: true}, []int{5}, api.ErrClosed},
		{api.Queue{Cap: 2, Items: []int{5, 6}, Closed: true}, []int{5, 6}, api.ErrClosed}, // full too
		{api.Queue{Cap: 64, Items: counted(63)}, append(counted(63), 9), api.OK},
		{api.Queue{Cap: 64, Items: counted(64)}, counted(64), api.ErrBusy},
	} {
		for _, in := range []api.Queue{x.q, roomy(x.q)} {
			got, e := Put(in, 9)
			if e != x.e || !same(got, api.Queue{Cap: x.q.Cap, Items: x.want, Closed: x.q.Closed}) {
				t.Errorf("Put into %v: %v, %d", x.q, got, e)
			}
		}
	}
}

func TestPutIntoEachQueue(t *testing.T) { // P3.1
	for _, q := range queues() {
		for _, x := range []int{math.MinInt, -1, 0, 1, 9, math.MaxInt} {
			want, err := q, api.OK
			switch {
			case q.Closed:
				err = api.ErrClosed
			case len(q.Items) == q.Cap:
				err = api.ErrBusy
			default:
				want.Items = slices.Concat(q.Items, []int{x})
			}
			if got, e := Put(q, x); e != err || !same(got, want) || !May(got) {
				t.Fatalf("Put(%v, %d): %v, %d", q, x, got, e)
			}
		}
	}
}

func TestPutTwiceIntoOnePlace(t *testing.T) { // P3.1, the chapter's example
	q, _ := New(1)
	q, e := Put(q, 5)
	if e != api.OK || !same(q, api.Queue{Cap: 1, Items: []int{5}}) {
		t.Error("the first one", q, e)
	}
	if q, e = Put(q, 6); e != api.ErrBusy || !same(q, api.Queue{Cap: 1, Items: []int{5}}) {
		t.Error("the second one", q, e)
	}
}

func TestTakeByHand(t *testing.T) { // P3.2
	for _, x := range []struct {
		items, want []int
		x           int
		ok          bool
	}{
		{nil, nil, 0, false},
		{[]int{}, nil, 0, false},
		{[]int{5}, nil, 5, true},
		{[]int{0}, nil, 0, true},
		{[]int{-1, 6}, []int{6}, -1, true},
		{[]int{5, 5, 7}, []int{5, 7}, 5, true},
		{counted(64), counted(64)[1:], 100, true},
	} {
		for _, closed := range []bool{false, true} {
			q := api.Queue{Cap: 64, Items: x.items, Closed: closed}
			for _, in := range []api.Queue{q, roomy(q)} {
				got, first, ok := Take(in)
				if first != x.x || ok != x.ok || !same(got, api.Queue{Cap: 64, Items: x.want, Closed: closed}) {
					t.Errorf("Take of %v: %v, %d, %v", q, got, first, ok)
				}
			}
		}
	}
}

func TestTakeOfEachQueue(t *testing.T) { // P3.2
	for _, q := range queues() {
		want, x, is := q, 0, len(q.Items) > 0
		if is {
			want.Items, x = q.Items[1:], q.Items[0]
		}
		if got, first, ok := Take(q); first != x || ok != is || !same(got, want) || !May(got) {
			t.Fatalf("Take(%v): %v, %d, %v", q, got, first, ok)
		}
	}
}

func TestCloseClosesAndKeepsTheItems(t *testing.T) { // P3.2
	for _, q := range queues() {
		want := q
		want.Closed = true
		got := Close(q)
		if !same(got, want) || !May(got) || !same(Close(got), want) {
			t.Errorf("Close(%v): %v", q, got)
		}
		if back, e := Put(got, 9); e != api.ErrClosed || !same(back, want) {
			t.Errorf("Put into %v, which Close answered: %v, %d", got, back, e)
		}
	}
}

func TestEndsIsClosedAndEmpty(t *testing.T) { // P3.2
	for _, x := range []struct {
		items  []int
		closed bool
		want   bool
	}{
		{nil, false, false}, {[]int{}, false, false}, {[]int{5}, false, false}, {[]int{5, 6}, false, false},
		{nil, true, true}, {[]int{}, true, true}, {[]int{5}, true, false}, {[]int{0}, true, false}, {[]int{5, 6}, true, false},
	} {
		q := api.Queue{Cap: 2, Items: x.items, Closed: x.closed}
		if Ends(q) != x.want || Ends(roomy(q)) != x.want {
			t.Errorf("Ends(%v): not %v", q, x.want)
		}
	}
}

func TestAClosedQueueEndsWhenAllIsTaken(t *testing.T) { // P3.2
	q := Close(api.Queue{Cap: 3, Items: []int{5, 6, 7}})
	for _, want := range []int{5, 6, 7} {
		if Ends(q) {
			t.Fatal("it ends ahead of its last item", q)
		}
		x, ok := 0, false
		if q, x, ok = Take(q); !ok || x != want || !q.Closed {
			t.Fatal(q, x, ok, want)
		}
	}
	if !Ends(q) {
		t.Error("it doesn't end", q)
	}
}

// Puts and takes of a fixed rule, which fill the queue and empty it, many times over.
func TestNumbersComeOutInTheOrderInWhichTheyWerePut(t *testing.T) { // P3.3
	for _, most := range []int{1, 2, 3, 8, 63, 64} {
		q, _ := New(most)
		var put, took []int
		w := uint32(most)
		for i := range 4000 {
			w = w*1664525 + 1013904223
			lean := uint32(3 + i/500%2*2) // of 8: first more puts, then more takes
			if w>>29 >= lean {
				n, e := Put(q, i)
				if full := len(put)-len(took) == most; full != (e == api.ErrBusy) || !full && e != api.OK {
					t.Fatalf("Cap %d: put %d with %d in it: %d", most, i, len(put)-len(took), e)
				}
				if e == api.OK {
					put = append(put, i)
				}
				q = n
				continue
			}
			n, x, ok := Take(q)
			if ok != (len(put) > len(took)) {
				t.Fatalf("Cap %d: took with %d in it: %v", most, len(put)-len(took), ok)
			}
			if ok {
				took = append(took, x)
			}
			q = n
		}
		for q = Close(q); !Ends(q); {
			x := 0
			q, x, _ = Take(q)
			took = append(took, x)
			if len(took) > len(put) {
				t.Fatalf("Cap %d: more came out than was put", most)
			}
		}
		if !slices.Equal(put, took) || len(put) < 500 {
			t.Errorf("Cap %d: %d put, %d taken, or in another order", most, len(put), len(took))
		}
	}
}

func TestWhatIsHandedInStays(t *testing.T) { // P3.4
	for _, q := range queues() {
		in := roomy(q)
		May(in)
		Ends(in)
		for _, m := range answers(in) {
			if !stays(in, q) {
				t.Fatalf("%s, of %v: what was handed in, or the room behind it, changed", m.call, q)
			}
		}
	}
}

func TestWhatIsAnsweredIsNewMemory(t *testing.T) { // P3.4
	for _, q := range queues() {
		in := roomy(q)
		for _, m := range answers(in) {
			if !m.new {
				continue // a queue that stays as it was may be shared
			}
			scribble(m.q.Items)
			if !stays(in, q) {
				t.Fatalf("%s, of %v: a write into the answer shows in what was handed in", m.call, q)
			}
		}
	}
}

func TestNoTwoAnswersShareMemory(t *testing.T) { // P3.4
	for _, q := range queues() {
		in := roomy(q)
		all := append(answers(in), answers(in)...)
		for i, m := range all {
			if !m.new {
				continue
			}
			scribble(m.q.Items)
			for _, o := range all[i+1:] {
				if o.new && slices.Contains(o.q.Items, 77) {
					t.Fatalf("of %v: a write into %s's answer shows in %s's", q, m.call, o.call)
				}
			}
		}
	}
}

// Of one queue that Put answered, and that may have room behind its Items, two more are made.
func TestTwoPutsIntoOneAnswer(t *testing.T) { // P3.4
	q, _ := New(64)
	for i := range 63 {
		q, _ = Put(q, 100+i)
		a, _ := Put(q, 1)
		b, _ := Put(q, 2)
		want := counted(i + 1)
		if !slices.Equal(a.Items, append(want, 1)) || !slices.Equal(b.Items, append(want, 2)) || !slices.Equal(q.Items, want) {
			t.Fatalf("behind %d items: %v, %v", i+1, a.Items, b.Items)
		}
	}
}

package run

import (
	"fmt"
	"math"
	"reflect"
	"slices"
	"strconv"
	"strings"
	"testing"

	"lodger/api"
	"lodger/front"
)

// all is a word all of whose bits are set; base is where the tests' blocks begin, if nothing else
// is said.
const (
	all  = uint64(math.MaxUint64)
	base = uint32(0x0a010000)
)

// conf is a configuration of a block of that prefix.
func conf(prefix, shards, workers, places, tries int, held ...int) api.Conf {
	return api.Conf{Block: api.Block{Base: base, Prefix: prefix}, Held: held, Shards: shards, Workers: workers, Queue: places, Tries: tries}
}

// opened is a front of these clients.
func opened(t *testing.T, c api.Conf, clients ...[]api.Ask) api.Hall {
	t.Helper()
	h, err := front.New(c, clients)
	if err != api.OK {
		t.Fatalf("%+v, %+v: %d", c, clients, err)
	}
	return h
}

// request is one of that Kind, of those offsets, or the first one.
func request(kind int, offs ...int) api.Ask {
	a := api.Ask{Kind: kind}
	switch kind {
	case api.Exact, api.Release, api.Query:
		a.Addr = base + uint32(offs[0])
	case api.Batch:
		for _, off := range offs {
			a.Addrs = append(a.Addrs, base+uint32(off))
		}
	}
	return a
}

// failed is an answer that is an error, and nothing else.
func failed(err api.Errno) api.Answer { return api.Answer{Err: err} }

// random is a source of numbers by a fixed rule.
type random uint64

func (r *random) below(n int) int {
	*r = *r*6364136223846793005 + 1442695040888963407
	return int(uint64(*r) >> 32 % uint64(n))
}
func (r *random) word() uint64 { return uint64(r.below(1<<32))<<32 + uint64(r.below(1<<32)) }

// alike tells whether all fields of two of one type are the same, nil and empty lists being one.
func alike(a, b any) bool { return equal(reflect.ValueOf(a), reflect.ValueOf(b)) }
func equal(a, b reflect.Value) bool {
	switch a.Kind() {
	case reflect.Slice:
		if a.Len() != b.Len() {
			return false
		}
		for i := range a.Len() {
			if !equal(a.Index(i), b.Index(i)) {
				return false
			}
		}
		return true
	case reflect.Struct:
		for i := range a.NumField() {
			if !equal(a.Field(i), b.Field(i)) {
				return false
			}
		}
		return true
	}
	return a.Interface() == b.Interface()
}

// odd is something of that type that isn't zero.
func odd(t reflect.Type) reflect.Value {
	v := reflect.New(t).Elem()
	switch t.Kind() {
	case reflect.Slice:
		v.Set(reflect.Append(v, odd(t.Elem())))
	case reflect.Struct:
		for i := range t.NumField() {
			v.Field(i).Set(odd(t.Field(i).Type))
		}
	case reflect.Bool:
		v.SetBool(true)
	case reflect.Int:
		v.SetInt(77)
	default:
		v.SetUint(77)
	}
	return v
}

// roomy is a copy that shares nothing; its lists have such room behind them, in which odd things
// stand. A list without any is nil, or empty, as it was.
func roomy[T any](x T, room int) T { return roomed(reflect.ValueOf(x), room).Interface().(T) }
func roomed(v reflect.Value, room int) reflect.Value {
	to := reflect.New(v.Type()).Elem()
	switch {
	case v.Kind() == reflect.Slice && (room > 0 || !v.IsNil()):
		to = reflect.MakeSlice(v.Type(), v.Len(), v.Len()+room)
		for i := range v.Len() {
			to.Index(i).Set(roomed(v.Index(i), room))
		}
		behind := to.Slice(0, v.Len()+room)
		for i := range room {
			behind.Index(v.Len() + i).Set(odd(v.Type().Elem()))
		}
	case v.Kind() == reflect.Struct:
		for i := range v.NumField() {
			to.Field(i).Set(roomed(v.Field(i), room))
		}
	default:
		to.Set(v)
	}
	return to
}

// still tells, by the words, whether the front rests.
func still(h api.Hall) bool {
	for task := -2; task < len(h.Clients)+len(h.Workers)+2; task++ {
		if front.Enabled(h, task) {
			return false
		}
	}
	return true
}

// stepped is the front behind a step of each task that is picked, by the words.
func stepped(h api.Hall, picks []int) api.Hall {
	for i := range len(picks) {
		h = front.Step(h, picks[i])
	}
	return h
}

// turn are all tasks of the front, from 0 on.
func turn(h api.Hall) []int {
	var l []int
	for task := 0; task < len(h.Clients)+len(h.Workers); task++ {
		l = append(l, task)
	}
	return l
}

// course are the fronts behind 0, 1, 2 rounds and so on, by the words, till one rests.
func course(t *testing.T, h api.Hall) []api.Hall {
	t.Helper()
	l := []api.Hall{h}
	for !still(h) {
		h = stepped(h, turn(h))
		l = append(l, h)
		if len(l) > 200000 {
			t.Fatalf("%+v never rests", h)
		}
	}
	return l
}

// used are the offsets that aren't reserved whose bits are set.
func used(h api.Hall) []int {
	var offs []int
	for off := range 1 << (32 - h.Conf.Block.Prefix) {
		if h.Cells[off/32]>>(off%32)%2 == 1 && !slices.Contains(h.Conf.Held, off) {
			offs = append(offs, off)
		}
	}
	return offs
}

// lent are the offsets that are used, as the log tells.
func lent(h api.Hall) []int {
	is := map[uint32]bool{}
	for _, e := range h.Log {
		a := h.Clients[e.Client].Asks[e.Ask]
		switch {
		case e.Kind != api.Effect || e.Answer.Err != api.OK:
		case a.Kind == api.Grant || a.Kind == api.Exact:
			is[e.Answer.Addr] = true
		case a.Kind == api.Release:
			delete(is, a.Addr)
		case a.Kind == api.Batch:
			delete(is, a.Addrs[e.Item])
		}
	}
	var offs []int
	for a := range is {
		offs = append(offs, int(a-h.Conf.Block.Base))
	}
	slices.Sort(offs)
	return offs
}

// answers are all that clients were answered, in the log's order.
func answers(h api.Hall) []api.Answer {
	var l []api.Answer
	for _, e := range h.Log {
		if e.Kind == api.Answered {
			l = append(l, e.Answer)
		}
	}
	return l
}

// same holds the front against another one.
func same(t *testing.T, what string, got, want api.Hall) {
	t.Helper()
	if !front.Same(got, want) || !alike(got, want) {
		t.Fatalf("%s:\n%+v, not\n%+v", what, got, want)
	}
}

// The chapter's example: a front without requests rests; whoever its clients and workers are.
func TestTheChaptersExample(t *testing.T) { // P23.1
	for _, c := range []api.Conf{conf(30, 1, 1, 1, 1, 0, 3), conf(16, 64, 64, 64, 8), conf(32, 1, 3, 1, 1, 0)} {
		for n := range api.MaxClients + 1 {
			if h := opened(t, c, make([][]api.Ask, n)...); !Rests(h) {
				t.Errorf("%+v, %d clients", c, n)
			}
		}
	}
}

// Each task of a front may be the one that keeps it from its rest.
func TestRestsByHand(t *testing.T) { // P23.1
	q := request(api.Query, 1)
	for n := range 5 {
		for i := range n {
			asks := make([][]api.Ask, n)
			asks[i] = []api.Ask{q}
			for workers := 1; workers < 5; workers++ {
				h := opened(t, conf(30, 1, workers, 1, 1), asks...)
				if Rests(h) {
					t.Errorf("the client %d of %d asks: %+v", i, n, h)
				}
				for w := range workers { // the client waits; the worker alone goes on, once it took that
					a := Run(h, []int{i, n + w})
					for phase := 0; phase < 2; phase++ {
						if Rests(a) || front.Enabled(a, i) || !front.Enabled(a, n+w) {
							t.Errorf("the worker %d works: %+v", w, a)
						}
						a = Run(a, []int{n + w})
					}
					if Rests(a) || !front.Enabled(a, i) || front.Enabled(a, n+w) {
						t.Errorf("the client %d is told: %+v", i, a)
					}
					if a = Run(a, []int{i}); !Rests(a) {
						t.Errorf("the client %d is answered: %+v", i, a)
					}
				}
			}
		}
	}
}

// Behind a Close a front rests not till each worker is Done; a Close alone is one that it awaits.
func TestRestsBehindAClose(t *testing.T) { // P23.1
	h := opened(t, conf(30, 1, 3, 1, 1), []api.Ask{request(api.Close)}, nil)
	for i, task := range []int{0, 2, 4, 3} {
		if Rests(h) {
			t.Errorf("%d: %+v", i, h)
		}
		h = Run(h, []int{task})
	}
	if !Rests(h) {
		t.Errorf("%+v", h)
	}
}

// No picks; one; many, of clients and workers, each as often as it is picked; and such tasks as
// there aren't, of which nothing is done.
func TestRunByHand(t *testing.T) { // P23.1
	h := opened(t, conf(30, 1, 2, 1, 1, 0, 3), []api.Ask{request(api.Grant)}, []api.Ask{request(api.Exact, 2)})
	same(t, "no picks", Run(h, nil), h)
	same(t, "no picks", Run(h, []int{}), h)
	one := Run(h, []int{1})
	if !one.Clients[1].Waits || one.Clients[0].Waits || !slices.Equal(one.Queue.Items, []int{1}) {
		t.Errorf("%+v", one)
	}
	same(t, "one pick", one, front.Step(h, 1))
	same(t, "in a row", Run(h, []int{1, 3}), front.Step(front.Step(h, 1), 3))
	same(t, "none such", Run(h, []int{-1, 4, 1, 5, math.MinInt, math.MaxInt, -4}), one)
	same(t, "not enabled", Run(h, []int{2, 3, 1, 1, 1}), one)
	full := Run(h, []int{1, 0})
	if got := answers(full); !alike(got, []api.Answer{failed(api.ErrBusy)}) {
		t.Errorf("%+v", got)
	}
	free := Run(h, []int{1, 2, 0}) // the worker made room between
	if got := answers(free); len(got) != 0 || !free.Clients[0].Waits {
		t.Errorf("%+v", free)
	}
	end := Run(h, []int{1, 3, 0, 2, 3, 3, 3, 1, 2, 2, 2, 2, 2, 2, 2, 2, 2, 2, 2, 2, 0, 3, 2})
	if got := answers(end); !alike(got, []api.Answer{{Addr: base + 2}, {Addr: base + 1}}) || !Rests(end) {
		t.Errorf("%+v", end)
	}
	same(t, "at rest", Run(end, []int{0, 1, 2, 3, 3, 2, 1, 0}), end)
}

// The set at first; and behind a grant, an exact one, a release and a batch, by hand.
func TestSetByHand(t *testing.T) { // P23.1
	h := opened(t, conf(26, 2, 1, 1, 1, 0, 32, 63), []api.Ask{
		request(api.Grant), request(api.Exact, 62), request(api.Exact, 31), request(api.Exact, 33), request(api.Exact, 32),
		request(api.Release, 31), request(api.Batch, 1, 2, 33), request(api.Query, 62), request(api.Snapshot), request(api.Close),
	})
	for i, want := range [][]int{nil, {1}, {1, 62}, {1, 31, 62}, {1, 31, 33, 62}, {1, 31, 33, 62}, {1, 33, 62}, {62}, {62}, {62}, {62}} {
		if got := Set(h); !slices.Equal(got, want) {
			t.Errorf("behind %d requests: %v, not %v", i, got, want)
		}
		other := h
		for _, w := range []uint64{0, 5, all} { // what stands behind the leaves is nothing to it
			other.Cells = slices.Clone(h.Cells)
			for k := range other.Cells[2:] {
				other.Cells[2+k] = w
			}
			if got := Set(other); !slices.Equal(got, want) {
				t.Errorf("behind %d requests, with %d behind the leaves: %v, not %v", i, w, got, want)
			}
		}
		h = Run(h, slices.Concat([]int{0}, slices.Repeat([]int{1}, 30), []int{0}))
	}
}

// Where nothing can be lent, and where all is.
func TestSetsEnds(t *testing.T) { // P23.1
	g := request(api.Grant)
	for _, x := range []struct {
		c    api.Conf
		want []int
	}{
		{conf(32, 1, 1, 1, 1, 0), nil},
		{conf(32, 1, 1, 1, 1), []int{0}},
		{conf(30, 1, 1, 1, 1), []int{0, 1, 2, 3}},
		{conf(30, 1, 1, 1, 1, 0, 3), []int{1, 2}},
		{conf(30, 1, 1, 1, 1, 0, 1, 2, 3), nil},
	} {
		h := opened(t, x.c, slices.Repeat([]api.Ask{g}, 6))
		if got := Set(h); len(got) > 0 {
			t.Errorf("%+v: at first %v", x.c, got)
		}
		h, _ = Rounds(h, 1000)
		if got := Set(h); !slices.Equal(got, x.want) {
			t.Errorf("%+v: %v, not %v", x.c, got, x.want)
		}
	}
}

// A round is a step of each task, from 0 on: what a client asks is taken up in the same round, and
// what a worker tells is heard in the next one.
func TestRoundsByHand(t *testing.T) { // P23.2
	q := request(api.Query, 1)
	h := opened(t, conf(30, 1, 2, 2, 1), []api.Ask{q}, []api.Ask{q, q}, nil)
	for i, want := range [][]int{ // how far the clients are, and how many workers work
		{0, 0, 0}, {0, 0, 2}, {0, 0, 2}, {0, 0, 0}, {1, 1, 0}, {1, 1, 1}, {1, 1, 1}, {1, 1, 0}, {1, 2, 0},
	} {
		got, n := Rounds(h, i)
		working := 0
		for _, w := range got.Workers {
			if w.Works {
				working++
			}
		}
		if x := []int{got.Clients[0].Next, got.Clients[1].Next, working}; n != i || !slices.Equal(x, want) {
			t.Errorf("behind %d rounds, %d: %v, not %v", i, n, x, want)
		}
		if Rests(got) != (i == 8) {
			t.Errorf("behind %d rounds: %+v", i, got)
		}
	}
	for _, most := range []int{8, 9, 100, math.MaxInt} {
		if got, n := Rounds(h, most); n != 8 || !Rests(got) {
			t.Errorf("%d at most: %d, %+v", most, n, got)
		}
	}
}

// The numbers that most may be, of a front that rests, and of one that doesn't.
func TestHowManyRounds(t *testing.T) { // P23.2
	h := opened(t, conf(30, 1, 1, 1, 1), []api.Ask{request(api.Grant)})
	l := course(t, h)
	end := len(l) - 1
	if end < 5 {
		t.Fatalf("%d rounds", end)
	}
	for _, most := range []int{math.MinInt, -end, -1, 0, 1, 2, end - 1, end, end + 1, 2 * end, 1000000, math.MaxInt} {
		want := max(0, min(most, end))
		got, n := Rounds(h, most)
		if n != want {
			t.Errorf("%d at most: %d, not %d", most, n, want)
		}
		same(t, fmt.Sprint(most, " at most"), got, l[want])
		got, n = Rounds(l[end], most)
		if n != 0 {
			t.Errorf("%d at most, at rest: %d", most, n)
		}
		same(t, fmt.Sprint(most, " at most, at rest"), got, l[end])
	}
}

// The bound, worked out by hand: of no requests; of one of each Kind; of wrong ones.
func TestBoundByHand(t *testing.T) { // P23.2
	batch := make([]int, 64)
	for i := range batch {
		batch[i] = i
	}
	small, two, large := conf(30, 1, 1, 1, 1, 0, 3), conf(26, 2, 5, 1, 3), conf(16, 64, 64, 64, 8)
	for _, x := range []struct {
		c    api.Conf
		asks []api.Ask
		want int
	}{
		{small, nil, 8 + 1}, {two, nil, 8 + 5}, {large, nil, 8 + 64},
		{small, []api.Ask{request(api.Grant)}, (4+2+6+16)*2 + 1},         // a shard: its root, its top, a leaf, a claim
		{two, []api.Ask{request(api.Grant)}, (2*4+4+6+16)*2 + 5},         // two of these, two leaves twice
		{large, []api.Ask{request(api.Grant)}, (64*35+4096+6+16)*2 + 64}, // 32 tops, 2048 leaves
		{small, []api.Ask{request(api.Snapshot)}, (2+16)*2 + 1},          // a leaf, twice, once
		{two, []api.Ask{request(api.Snapshot)}, (12+16)*2 + 5},           // two leaves, twice, three times
		{large, []api.Ask{request(api.Snapshot)}, (2*2048*8+16)*2 + 64},  // and the most
		{small, []api.Ask{request(api.Exact, 1)}, (6+16)*2 + 1},          // read, claimed, marked
		{large, []api.Ask{request(api.Exact, 1)}, (6+16)*2 + 64},         // whatever the size
		{small, []api.Ask{request(api.Release, 1)}, (6+16)*2 + 1},
		{small, []api.Ask{request(api.Query, 1)}, (6+16)*2 + 1},
		{small, []api.Ask{request(api.Batch, 1)}, (6+16)*2 + 1},
		{small, []api.Ask{request(api.Batch, 1, 2)}, (12+16)*2 + 1},
		{two, []api.Ask{request(api.Batch, batch...)}, (64*6+16)*2 + 5},
		{small, []api.Ask{request(api.Close)}, (0+16)*2 + 1},
		{small, []api.Ask{request(api.Exact, 3)}, (0+16)*2 + 1},
		{small, []api.Ask{request(api.Release, 4)}, (0+16)*2 + 1},
		{small, []api.Ask{request(api.Query, 0)}, (0+16)*2 + 1},
		{small, []api.Ask{request(api.Batch)}, (0+16)*2 + 1},
		{small, []api.Ask{request(api.Batch, 1, 1)}, (0+16)*2 + 1},
		{small, []api.Ask{request(api.Batch, 1, 2, 3)}, (0+16)*2 + 1},
		{two, []api.Ask{request(api.Batch, append(batch, 64)...)}, (0+16)*2 + 5},
		{small, []api.Ask{{Kind: 8}}, (0+16)*2 + 1},
		{small, []api.Ask{{}}, (0+16)*2 + 1},
		{small, []api.Ask{{Kind: -1, Addr: base + 1}}, (0+16)*2 + 1},
		{small, []api.Ask{request(api.Grant), request(api.Exact, 1), {}}, (12+6+0+3*8+8)*4 + 1},
	} {
		if got := Bound(opened(t, x.c, x.asks)); got != x.want {
			t.Errorf("%+v, %+v: %d, not %d", x.c, x.asks, got, x.want)
		}
	}
}

// Whose request it is, and where it stands, is nothing to the bound; how many there are is. Of the
// most of the longest it is the greatest one.
func TestBoundOfManyClients(t *testing.T) { // P23.2
	q := request(api.Query, 1)
	for clients := range api.MaxClients + 1 {
		for _, each := range []int{0, 1, 2, 31, 32} {
			asks, n := make([][]api.Ask, clients), clients*each
			for i := range asks {
				asks[i] = slices.Repeat([]api.Ask{q}, each)
			}
			for _, workers := range []int{1, 2, 64} {
				want := (n*14+8)*(n+1) + workers
				if got := Bound(opened(t, conf(30, 1, workers, 1, 1), asks...)); got != want {
					t.Errorf("%d clients of %d, %d workers: %d, not %d", clients, each, workers, got, want)
				}
			}
		}
	}
	a := Bound(opened(t, conf(30, 1, 1, 1, 1), []api.Ask{q, {}, request(api.Grant)}, nil, []api.Ask{q}))
	b := Bound(opened(t, conf(30, 1, 1, 1, 1), []api.Ask{{}}, []api.Ask{q, request(api.Grant), q}))
	if want := (6+12+6+4*8+8)*5 + 1; a != want || b != want {
		t.Errorf("%d, %d, not %d", a, b, want)
	}
	most := make([][]api.Ask, api.MaxClients)
	for i := range most {
		most[i] = slices.Repeat([]api.Ask{request(api.Snapshot)}, api.MaxAsks)
	}
	if got := Bound(opened(t, conf(16, 64, 64, 64, 8), most...)); got != 2156400712 {
		t.Errorf("%d", got)
	}
}

// someAsk is a request of any Kind, of few offsets, so that they meet: right, or not.
func (r *random) someAsk(c api.Conf) api.Ask {
	many := 1 << (32 - c.Block.Prefix)
	off := func() int { return (r.below(4) + []int{0, 0, 30, many - 2}[r.below(4)]) % many }
	switch r.below(24) {
	case 0:
		return request([]int{api.Exact, api.Release, api.Query}[r.below(3)], []int{-1, many, 1 << 20}[r.below(3)])
	case 1:
		return api.Ask{Kind: []int{0, 8, -1}[r.below(3)], Addr: base}
	case 2:
		return request(api.Batch, make([]int, []int{0, 2, 65, 128}[r.below(4)])...)
	case 3:
		if r.below(3) == 0 {
			return request(api.Close)
		}
	case 4, 5, 6, 7, 8:
		return request(api.Grant)
	case 9, 10:
		return request(api.Snapshot)
	case 11, 12, 13:
		var offs []int
		for range 1 + r.below(6) {
			offs = append(offs, off())
		}
		slices.Sort(offs)
		if r.below(9) != 0 {
			offs = slices.Compact(offs)
		}
		return request(api.Batch, offs...)
	}
	return request([]int{api.Exact, api.Exact, api.Release, api.Query}[r.below(4)], off())
}

// someFront is a front of any numbers of clients, requests, workers and places.
func (r *random) someFront(t *testing.T) api.Hall {
	prefix := []int{32, 31, 30, 30, 29, 27, 26, 25}[r.below(8)]
	c := conf(prefix, 1+r.below(4), 1+r.below(5), 1+r.below(4), 1+r.below(3))
	if prefix < 31 && r.below(2) == 0 {
		c.Held = []int{0, 3}
	}
	asks := make([][]api.Ask, r.below(api.MaxClients+1))
	for i := range asks {
		for range r.below(9) {
			asks[i] = append(asks[i], r.someAsk(c))
		}
	}
	return opened(t, c, asks...)
}

// picks are such of any tasks, some of those that there aren't among them; or, by their way, of
// clients rather, of workers, or of few.
func (r *random) picks(h api.Hall, way, many int) []int {
	n, m := len(h.Clients), len(h.Workers)
	var l []int
	for range many {
		switch {
		case way == 1 && n > 0 && r.below(4) != 0:
			l = append(l, r.below(n))
		case way == 2 && r.below(8) != 0:
			l = append(l, n+r.below(m))
		case way == 3 && r.below(16) != 0:
			l = append(l, n+r.below(2)%m-r.below(2))
		default:
			l = append(l, r.below(n+m+4)-2)
		}
	}
	return l
}

// hinted is the front with any words in some of the cells behind the leaves.
func (r *random) hinted(h api.Hall) api.Hall {
	h.Cells = slices.Clone(h.Cells)
	leaves := (1<<(32-h.Conf.Block.Prefix) + 31) / 32
	for i := leaves; i < len(h.Cells); i++ {
		if r.below(2) == 0 {
			h.Cells[i] = []uint64{0, all, r.word()}[r.below(3)]
		}
	}
	return h
}

// wherever are fronts from their beginning to their rest: of each of them some, with picks.
func wherever(t *testing.T, many int, f func(h api.Hall, picks []int)) {
	t.Helper()
	for seed := range many {
		r := random(seed + 900)
		h := r.someFront(t)
		for i := range 7 {
			picks := r.picks(h, seed%4, []int{0, 1, 2, 9, 30, 60, 200}[(i+seed)%7])
			f(h, picks)
			h = stepped(h, picks)
			if r.below(3) == 0 {
				h = r.hinted(h)
			}
		}
		l := course(t, h)
		f(l[len(l)-1], r.picks(h, 0, 40))
	}
}

// Wherever a front is, Run, Rests and Set are as the words say; picks in a row are those of the
// beginning, and then those of the rest.
func TestRunRestsAndSet(t *testing.T) { // P23.1
	rests, sets := 0, 0
	wherever(t, 300, func(h api.Hall, picks []int) {
		got, want := Run(h, picks), stepped(h, picks)
		if !front.Same(got, want) {
			t.Fatalf("%+v, %v:\n%+v, not\n%+v", h, picks, got, want)
		}
		at := len(picks) * 2 / 3
		if got := Run(Run(h, picks[:at]), picks[at:]); !front.Same(got, want) {
			t.Fatalf("%+v, %v, from %d on:\n%+v, not\n%+v", h, picks, at, got, want)
		}
		if Rests(h) != still(h) {
			t.Fatalf("%+v rests: %v", h, Rests(h))
		}
		if Rests(h) {
			rests++
			same(t, "at rest", got, h)
		}
		s := Set(h)
		if !slices.Equal(s, used(h)) || !slices.Equal(s, lent(h)) {
			t.Fatalf("%+v: %v, not %v, nor %v", h, s, used(h), lent(h))
		}
		if len(s) > 1 {
			sets++
		}
	})
	if rests < 300 || sets < 300 {
		t.Errorf("%d rest, %d have some used", rests, sets)
	}
}

// Wherever a front is, as many rounds are made as it takes, most at most.
func TestRounds(t *testing.T) { // P23.2
	wherever(t, 60, func(h api.Hall, picks []int) {
		l := course(t, h)
		end := len(l) - 1
		for _, most := range []int{math.MinInt, -1, 0, 1, len(picks), end / 2, end - 1, end, end + 1, end + 50, math.MaxInt} {
			want := max(0, min(most, end))
			if got, n := Rounds(h, most); n != want || !front.Same(got, l[want]) {
				t.Fatalf("%+v, %d at most: %d, not %d:\n%+v, not\n%+v", h, most, n, want, got, l[want])
			}
		}
	})
}

// bound is the bound, by the words.
func bound(h api.Hall) int {
	c := h.Conf
	leaves := (1<<(32-c.Block.Prefix) + 31) / 32
	tops := (leaves + 63) / 64
	right := func(a uint32) bool {
		off := int(a) - int(c.Block.Base)
		return off >= 0 && off < 1<<(32-c.Block.Prefix) && !slices.Contains(c.Held, off)
	}
	sum, many := 0, 0
	for _, one := range h.Clients {
		for _, a := range one.Asks {
			many++
			sum += 8
			switch a.Kind {
			case api.Grant:
				sum += c.Shards*(tops+3) + 2*leaves + 6
			case api.Exact, api.Release, api.Query:
				if right(a.Addr) {
					sum += 6
				}
			case api.Batch:
				l := slices.Compact(slices.Sorted(slices.Values(a.Addrs)))
				if len(l) == len(a.Addrs) && len(l) <= 64 && !slices.ContainsFunc(l, func(a uint32) bool { return !right(a) }) {
					sum += 6 * len(l)
				}
			case api.Snapshot:
				sum += c.Tries * 2 * leaves
			}
		}
	}
	return (sum+8)*(many+1) + c.Workers
}

// Wherever a front is, the bound is that of its beginning.
func TestBound(t *testing.T) { // P23.2
	greatest := 0
	wherever(t, 300, func(h api.Hall, picks []int) {
		want := bound(h)
		if got := Bound(h); got != want {
			t.Fatalf("%+v: %d, not %d", h, got, want)
		}
		if got := Bound(Run(h, picks)); got != want {
			t.Fatalf("%+v, %v: %d, not %d", h, picks, got, want)
		}
		greatest = max(greatest, want)
	})
	if greatest < 20000 {
		t.Errorf("%d at most", greatest)
	}
}

// checkRest: each request is asked, and answered once, and nothing waits; where the front is
// closed, all workers are done.
func checkRest(t *testing.T, h api.Hall) {
	t.Helper()
	if !Rests(h) || len(h.Queue.Items) != 0 {
		t.Fatalf("%+v doesn't rest", h)
	}
	for i, w := range h.Workers {
		if !alike(w, api.Worker{Done: h.Queue.Closed}) {
			t.Fatalf("the worker %d: %+v", i, w)
		}
	}
	for i, c := range h.Clients {
		if c.Next != len(c.Asks) || c.Waits || !alike(h.Mails[i], api.Mail{}) {
			t.Fatalf("the client %d: %+v, %+v", i, c, h.Mails[i])
		}
		asked, answered := 0, 0
		for _, e := range h.Log {
			switch {
			case e.Client != i:
			case e.Kind == api.Asked:
				asked++
			case e.Kind == api.Answered:
				answered++
				if e.Ask != answered-1 || asked != answered {
					t.Fatalf("%+v: %+v", h.Log, e)
				}
			}
		}
		if asked != len(c.Asks) || answered != len(c.Asks) {
			t.Fatalf("the client %d: %d asked, %d answered, of %d", i, asked, answered, len(c.Asks))
		}
	}
}

// Behind as many rounds as the bound, from wherever, a front rests, with each request answered.
func TestTheBoundIsEnough(t *testing.T) { // P23.3
	ends := map[[2]int]int{}
	wherever(t, 150, func(h api.Hall, picks []int) {
		a, n := Rounds(h, Bound(h))
		checkRest(t, a)
		if want := len(course(t, h)) - 1; n != want || n > Bound(h) {
			t.Fatalf("%+v: %d rounds, not %d, of %d", h, n, want, Bound(h))
		}
		for _, e := range a.Log {
			if e.Kind == api.Answered {
				ends[[2]int{a.Clients[e.Client].Asks[e.Ask].Kind, int(e.Answer.Err)}]++
			}
		}
	})
	for kind, errs := range [][]int{
		{1, 10}, {0, 9, 10, 12}, {0, 3, 5, 10, 12}, {0, 3, 4, 6, 10, 12}, {0, 1, 4, 7, 8, 10, 12}, {0, 3, 4, 10, 12}, {0, 10, 12}, {0}, {1, 10},
	} {
		for _, err := range errs {
			if ends[[2]int{kind, err}] < 5 {
				t.Errorf("the Kind %d, the error %d: %d times", kind, err, ends[[2]int{kind, err}])
			}
		}
	}
}

// So it is where operations hinder one another the most: grants of a block in which one address
// alone is free, and given back, and taken again; snapshots meanwhile; hints that lead astray.
func TestTheBoundIsEnoughWhereAllHinder(t *testing.T) { // P23.3
	g, s := request(api.Grant), request(api.Snapshot)
	retried := 0
	for _, prefix := range []int{31, 29, 26, 25} {
		many := 1 << (32 - prefix)
		last := many - 1
		e, l := request(api.Exact, last), request(api.Release, last)
		for _, workers := range []int{1, 2, 4, 8, 9} {
			c := conf(prefix, 3, workers, 8, 8)
			for off := range min(60, last-1) {
				c.Held = append(c.Held, off)
			}
			for seed := range 6 {
				r := random(seed)
				h := opened(t, c, []api.Ask{g, l, e, l, e, l, e, l}, []api.Ask{e, l, e, l, e, l}, []api.Ask{s, s, s, g, s}, []api.Ask{g, g, g, l, g}, slices.Repeat([]api.Ask{e, l}, 16), slices.Repeat([]api.Ask{l, g}, 16))
				for n := Bound(h); n > 0 && !Rests(h); n-- {
					if seed > 0 {
						h = r.hinted(h)
					}
					h, _ = Rounds(h, 1)
				}
				checkRest(t, h)
				for _, x := range answers(h) {
					if x.Err == api.ErrRetry || x.Err == api.ErrFull {
						retried++
					}
				}
			}
		}
	}
	if retried < 100 {
		t.Errorf("%d", retried)
	}
}

// A block of the most addresses, and the most clients, workers and places.
func TestTheLargestFront(t *testing.T) { // P23.3
	c := conf(16, 64, 64, 64, 8, 0)
	asks := make([][]api.Ask, 8)
	for i := range asks {
		for k := range 32 {
			asks[i] = append(asks[i], []api.Ask{request(api.Grant), request(api.Exact, 65535-i-k), request(api.Release, i*k+1), request(api.Query, k+1)}[k%4])
		}
	}
	h := opened(t, c, asks...)
	a, n := Rounds(h, Bound(h))
	checkRest(t, a)
	if n < 32*4 || !slices.Equal(Set(a), lent(a)) {
		t.Errorf("%d rounds, %v", n, Set(a))
	}
}

// The document's ten examples, of the block 10.0.0.0/30.
func TestTheDocumentsExamples(t *testing.T) { // P23.1, P23.2, P23.3
	at := uint32(0x0a000000)
	one := func(kind int, off uint32) api.Ask { return api.Ask{Kind: kind, Addr: at + off} }
	many := func(offs ...uint32) api.Ask {
		a := api.Ask{Kind: api.Batch}
		for _, off := range offs {
			a.Addrs = append(a.Addrs, at+off)
		}
		return a
	}
	g := api.Ask{Kind: api.Grant}
	c := conf(30, 1, 1, 1, 1, 0, 3)
	c.Block.Base = at
	for i, x := range []struct {
		asks []api.Ask
		want []api.Answer
	}{
		{[]api.Ask{g, g, g}, []api.Answer{{Addr: at + 1}, {Addr: at + 2}, failed(api.ErrFull)}},
		{[]api.Ask{one(api.Exact, 3), one(api.Exact, 4)}, []api.Answer{failed(api.ErrReserved), failed(api.ErrOutside)}},
		{[]api.Ask{g, one(api.Release, 1), one(api.Release, 1)}, []api.Answer{{Addr: at + 1}, {}, failed(api.ErrFree)}},
		{[]api.Ask{one(api.Exact, 2), many(1, 2)}, []api.Answer{{Addr: at + 2}, {Errs: []api.Errno{api.ErrFree, api.OK}}}},
		{[]api.Ask{many(), many(1, 1)}, []api.Answer{failed(api.ErrEmpty), failed(api.ErrTwice)}},
		{[]api.Ask{one(api.Exact, 2), one(api.Query, 2)}, []api.Answer{{Addr: at + 2}, {Used: true}}},
		{[]api.Ask{{Kind: api.Snapshot}}, []api.Answer{{}}},
		{[]api.Ask{{Kind: api.Close}, g}, []api.Answer{{}, failed(api.ErrClosed)}},
	} {
		h := opened(t, c, x.asks)
		h, _ = Rounds(h, Bound(h))
		if got := answers(h); !Rests(h) || !alike(got, x.want) {
			t.Errorf("%d: %+v, not %+v", i, got, x.want)
		}
	}
	if got := answers(Run(opened(t, c, []api.Ask{g}, []api.Ask{g}), []int{0, 1})); !alike(got, []api.Answer{failed(api.ErrBusy)}) {
		t.Errorf("%+v", got)
	}
	c.Workers = 2
	e := one(api.Exact, 1)
	for seed := range 200 {
		r := random(seed)
		h := opened(t, c, []api.Ask{e}, []api.Ask{e})
		h, _ = Rounds(Run(Run(h, []int{0, 2, 1}), r.picks(h, 0, seed%20)), 50)
		had, not := 0, 0
		for _, x := range answers(h) {
			switch {
			case alike(x, api.Answer{Addr: at + 1}):
				had++
			case alike(x, failed(api.ErrUsed)):
				not++
			}
		}
		if had != 1 || not != 1 {
			t.Errorf("%+v", h)
		}
	}
}

// spot is a field, or a list, somewhere in something: the way there, and it.
type spot struct {
	path string
	v    reflect.Value
}

// spots are all of them, those of what is in lists too.
func spots(path string, v reflect.Value) []spot {
	l := []spot{{path, v}}
	switch v.Kind() {
	case reflect.Slice:
		for i := range v.Len() {
			l = append(l, spots(path+"["+strconv.Itoa(i)+"]", v.Index(i))...)
		}
	case reflect.Struct:
		l = nil
		for i := range v.NumField() {
			l = append(l, spots(path+"."+v.Type().Field(i).Name, v.Field(i))...)
		}
	}
	return l
}

// text is all that is in something, the room behind its lists included.
func text(b *strings.Builder, v reflect.Value) {
	switch v.Kind() {
	case reflect.Slice:
		fmt.Fprint(b, v.Len(), "[")
		v = v.Slice(0, v.Cap())
		for i := range v.Len() {
			text(b, v.Index(i))
		}
		b.WriteString("]")
	case reflect.Struct:
		for i := range v.NumField() {
			text(b, v.Field(i))
		}
	default:
		fmt.Fprint(b, v.Interface(), " ")
	}
}
func whole(x any) string {
	var b strings.Builder
	text(&b, reflect.ValueOf(x))
	return b.String()
}

// What is handed in stays, with the room behind its lists, which is nothing to the answer.
func TestWhatIsHandedInStays(t *testing.T) { // P23.4
	wherever(t, 25, func(h api.Hall, picks []int) {
		a, l := roomy(h, 2), roomy(picks, 3)
		was, picked := whole(a), whole(l)
		run, set, bound, rests := Run(a, l), Set(a), Bound(a), Rests(a)
		rounds, n := Rounds(a, len(picks))
		if whole(a) != was || whole(l) != picked {
			t.Fatalf("%+v, %v: they changed to %+v, %v", h, picks, a, l)
		}
		want, m := Rounds(h, len(picks))
		if !front.Same(run, Run(h, picks)) || !slices.Equal(set, Set(h)) || bound != Bound(h) || rests != Rests(h) || !front.Same(rounds, want) || n != m {
			t.Fatalf("%+v, %v: the room is something to it", h, picks)
		}
	})
}

// memory is where a list is, the room behind it included.
type memory struct {
	spot
	from, to uintptr
}

// memories are where all lists are that have room for something.
func memories(x any) []memory {
	var l []memory
	for _, s := range spots("", reflect.ValueOf(x)) {
		if s.v.Kind() == reflect.Slice && s.v.Cap() > 0 {
			l = append(l, memory{s, s.v.Pointer(), s.v.Pointer() + uintptr(s.v.Cap())*s.v.Type().Elem().Size()})
		}
	}
	return l
}

func (m memory) meets(n memory) bool { return m.from < n.to && n.from < m.to }

// apart holds it that no two lists of one answer share memory.
func apart(t *testing.T, what, x any) {
	t.Helper()
	l := memories(x)
	slices.SortFunc(l, func(m, n memory) int { return int(m.from) - int(n.from) })
	for i := 1; i < len(l); i++ {
		if l[i-1].meets(l[i]) {
			t.Fatalf("%+v: %s and %s share memory", what, l[i-1].path, l[i].path)
		}
	}
}

// shared holds it that two share no list but such as stand at one place, and are the same; and it
// answers these.
func shared(t *testing.T, what, x, y any) map[string]bool {
	t.Helper()
	met, l := map[string]bool{}, memories(y)
	for _, m := range memories(x) {
		for _, n := range l {
			if !m.meets(n) {
				continue
			}
			if m.path != n.path || !equal(m.v, n.v) {
				t.Fatalf("%+v: %s and %s share memory", what, m.path, n.path)
			}
			met[m.path] = true
		}
	}
	return met
}

// What is answered is new memory, but what stays as it was, and what requests hold.
func TestWhatIsAnsweredIsNewMemory(t *testing.T) { // P23.4
	changed := map[string]int{}
	wherever(t, 25, func(h api.Hall, picks []int) {
		h, picks = roomy(h, 1), roomy(picks, 1)
		rounds := func() api.Hall {
			a, _ := Rounds(h, len(picks)%20)
			return a
		}
		picked := func() api.Hall { return Run(h, picks[:len(picks)%40]) }
		for _, f := range []func() api.Hall{picked, rounds} {
			a, b := f(), f()
			apart(t, h, a)
			stayed := shared(t, h, a, h)
			for path := range shared(t, h, a, b) {
				if !stayed[path] {
					t.Errorf("%+v, %v: two answers share %s", h, picks, path)
				}
			}
			if l := shared(t, h, a, picks); len(l) > 0 {
				t.Errorf("%+v, %v: the picks are kept", h, picks)
			}
			for _, m := range memories(a) {
				if !stayed[m.path] {
					changed[strings.TrimRight(m.path, "[]0123456789")]++
				}
			}
		}
		a, b := Set(h), Set(h)
		if l := shared(t, h, a, b); len(l) > 0 || len(shared(t, h, a, h)) > 0 {
			t.Errorf("%+v: sets share memory", h)
		}
	})
	for _, path := range []string{".Cells", ".Queue.Items", ".Clients", ".Workers", ".Mails", ".Log"} {
		if changed[path] < 10 {
			t.Errorf("%s was made %d times", path, changed[path])
		}
	}
}

// emptied is the front with each list that has nothing in it empty, or nil.
func emptied(h api.Hall, empty bool) api.Hall {
	v := reflect.New(reflect.TypeFor[api.Hall]()).Elem()
	v.Set(reflect.ValueOf(roomy(h, 0)))
	for _, s := range spots("", v) {
		if s.v.Kind() == reflect.Slice && s.v.Len() == 0 {
			s.v.Set(reflect.Zero(s.v.Type()))
			if empty {
				s.v.Set(reflect.MakeSlice(s.v.Type(), 0, 0))
			}
		}
	}
	return v.Interface().(api.Hall)
}

// Nil and empty lists are one; and the same is answered each time.
func TestAnswersHangOnWhatIsHandedInAlone(t *testing.T) { // P23.1, P23.2
	wherever(t, 40, func(h api.Hall, picks []int) {
		run, set, bound, rests := Run(h, picks), Set(h), Bound(h), Rests(h)
		rounds, n := Rounds(h, len(picks))
		for _, a := range []api.Hall{roomy(h, 0), emptied(h, true), emptied(h, false)} {
			if !alike(Run(a, slices.Clone(picks)), run) || !alike(Set(a), set) || Bound(a) != bound || Rests(a) != rests {
				t.Fatalf("%+v, %v", a, picks)
			}
			if x, m := Rounds(a, len(picks)); !alike(x, rounds) || m != n {
				t.Fatalf("%+v, %v: %+v, %d", a, picks, x, m)
			}
		}
	})
}

// someNumber is one of interest.
func (r *random) someNumber() int {
	return []int{math.MinInt, -65536, -1, 0, 0, 1, 1, 2, 3, 7, 31, 64, 65536, math.MaxInt}[r.below(14)]
}

// strange is a front of no kind in particular; half of these have a configuration that may be.
func (r *random) strange() api.Hall {
	lists := [][]uint32{nil, {}, {math.MaxUint32}, {0, 1 << 31, base}, slices.Repeat([]uint32{base}, 80)}
	few := [][]uint64{nil, {5}, {5, all, 5}, slices.Repeat([]uint64{all}, 40)}
	one := func() api.Ask {
		return api.Ask{Kind: r.below(10) - 1, Addr: base + uint32(r.below(5)), Addrs: lists[r.below(5)]}
	}
	numbers := func() []int {
		var l []int
		for range r.below(4) {
			l = append(l, r.someNumber())
		}
		return l
	}
	h := api.Hall{
		Conf: api.Conf{
			Block: api.Block{Base: base, Prefix: []int{math.MinInt, -1, 0, 15, 16, 26, 27, 30, 32, 33, math.MaxInt}[r.below(11)]},
			Held:  numbers(), Shards: r.someNumber(), Workers: r.someNumber(), Queue: r.someNumber(), Tries: r.someNumber(),
		},
		Cells: few[r.below(4)],
		Queue: api.Queue{Cap: r.someNumber(), Items: numbers(), Closed: r.below(2) == 0},
		Log:   make([]api.Event, r.below(3)),
	}
	if r.below(2) == 0 {
		h.Conf = conf([]int{32, 30, 26, 25}[r.below(4)], 1+r.below(3), 1+r.below(3), 1+r.below(3), 1+r.below(3))
	}
	for range r.below(4) {
		h.Clients = append(h.Clients, api.Client{Asks: []api.Ask{one(), one(), one()}[r.below(4):], Next: r.someNumber(), Waits: r.below(2) == 0})
	}
	for range r.below(4) {
		h.Mails = append(h.Mails, api.Mail{Is: r.below(3) != 0, Answer: api.Answer{Addrs: lists[r.below(5)]}})
	}
	for range r.below(4) {
		n := r.someNumber()
		o := api.Op{
			Ask: one(), Phase: r.below(12) - 1, Shard: n, Sought: r.someNumber(), Leaf: r.someNumber(), Bit: r.someNumber(), Word: 5, Full: r.below(2) == 0,
			Seen: few[r.below(4)], At: r.someNumber(), Tries: n, Item: n, Stamp: r.someNumber(), Answer: api.Answer{Addrs: lists[r.below(5)]},
		}
		h.Workers = append(h.Workers, api.Worker{Works: r.below(3) != 0, Done: r.below(2) == 0, For: r.someNumber(), Op: o})
	}
	return h
}

// The chapter promises nothing of these but that the calls end, though some of them never rest,
// don't panic, and leave what they are handed as it is.
func TestNothingPanics(t *testing.T) { // P1
	r, ran, restless := random(3), 0, 0
	for i := range 6000 {
		h := r.strange()
		was := whole(h)
		Run(h, []int{r.below(9) - 1, r.someNumber(), 0, 1, 2, 3, 4, 5, 0, 1})
		Rests(h)
		Bound(h)
		Set(h)
		then, n := Rounds(h, []int{math.MaxInt, 100, math.MinInt}[i%3])
		if n > 0 {
			ran++
		}
		if n > 0 && !Rests(then) {
			restless++
		}
		if whole(h) != was {
			t.Fatalf("%+v changed", h)
		}
	}
	if ran < 1000 || restless < 100 {
		t.Errorf("%d ran, %d don't rest", ran, restless)
	}
}

// A zero front has no tasks.
func TestAZeroFront(t *testing.T) { // P23.1, P23.2
	h := api.Hall{}
	a, n := Rounds(h, 9)
	if !Rests(h) || len(Set(h)) > 0 || n != 0 || !alike(a, h) || !alike(Run(h, []int{0, 1, -1}), h) || Bound(h) != 8 {
		t.Errorf("%+v, %d, %d", a, n, Bound(h))
	}
}

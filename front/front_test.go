package front

import (
	"cmp"
	"fmt"
	"math"
	"reflect"
	"slices"
	"strconv"
	"strings"
	"testing"

	"lodger/api"
	"lodger/ask"
	"lodger/pool"
	"lodger/spec"
	"lodger/word"
)

// low are a leaf's bits, all set; once is one change of it; all is a word all of whose bits are
// set; base is where the tests' blocks begin, if nothing else is said.
const (
	low  = uint64(1)<<32 - 1
	once = uint64(1) << 32
	all  = uint64(math.MaxUint64)
	base = uint32(0x0a010000)
)

// conf is a configuration of a block of that prefix.
func conf(prefix, shards, workers, places, tries int, held ...int) api.Conf {
	return api.Conf{Block: api.Block{Base: base, Prefix: prefix}, Held: held, Shards: shards, Workers: workers, Queue: places, Tries: tries}
}

// opened is a front of these clients.
func opened(t *testing.T, c api.Conf, clients ...[]api.Ask) api.Hall {
	t.Helper()
	h, err := New(c, clients)
	if err != api.OK {
		t.Fatalf("%+v, %+v: %d", c, clients, err)
	}
	return h
}

// request is one of that Kind, of those offsets, or the first one.
func request(kind int, offs ...int) api.Ask {
	a := api.Ask{Kind: kind}
	switch kind {
	case api.Exact, api.Release, api.Query:
		a.Addr = base + uint32(offs[0])
	case api.Batch:
		for _, off := range offs {
			a.Addrs = append(a.Addrs, base+uint32(off))
		}
	}
	return a
}

// failed is an answer that is an error, and nothing else; granted one of an address.
func failed(err api.Errno) api.Answer { return api.Answer{Err: err} }
func granted(off int) api.Answer      { return api.Answer{Addr: base + uint32(off)} }

// random is a source of numbers by a fixed rule.
type random uint64

func (r *random) below(n int) int {
	*r = *r*6364136223846793005 + 1442695040888963407
	return int(uint64(*r) >> 32 % uint64(n))
}
func (r *random) word() uint64 { return uint64(r.below(1<<32))<<32 + uint64(r.below(1<<32)) }

// alike tells whether all fields of two of one type are the same, nil and empty lists being one.
func alike(a, b any) bool { return equal(reflect.ValueOf(a), reflect.ValueOf(b)) }
func equal(a, b reflect.Value) bool {
	switch a.Kind() {
	case reflect.Slice:
		if a.Len() != b.Len() {
			return false
		}
		for i := range a.Len() {
			if !equal(a.Index(i), b.Index(i)) {
				return false
			}
		}
		return true
	case reflect.Struct:
		for i := range a.NumField() {
			if !equal(a.Field(i), b.Field(i)) {
				return false
			}
		}
		return true
	}
	return a.Interface() == b.Interface()
}

// odd is something of that type that isn't zero: its lists have as many as is told.
func odd(t reflect.Type, n int) reflect.Value {
	v := reflect.New(t).Elem()
	switch t.Kind() {
	case reflect.Slice:
		for range n {
			v.Set(reflect.Append(v, odd(t.Elem(), n)))
		}
	case reflect.Struct:
		for i := range t.NumField() {
			v.Field(i).Set(odd(t.Field(i).Type, n))
		}
	case reflect.Bool:
		v.SetBool(true)
	case reflect.Int:
		v.SetInt(77)
	default:
		v.SetUint(77)
	}
	return v
}

// roomy is a copy that shares nothing; its lists have such room behind them, in which odd things
// stand. A list without any is nil, or empty, as it was.
func roomy[T any](x T, room int) T { return roomed(reflect.ValueOf(x), room).Interface().(T) }
func roomed(v reflect.Value, room int) reflect.Value {
	to := reflect.New(v.Type()).Elem()
	switch {
	case v.Kind() == reflect.Slice && (room > 0 || !v.IsNil()):
		to = reflect.MakeSlice(v.Type(), v.Len(), v.Len()+room)
		for i := range v.Len() {
			to.Index(i).Set(roomed(v.Index(i), room))
		}
		behind := to.Slice(0, v.Len()+room)
		for i := range room {
			behind.Index(v.Len() + i).Set(odd(v.Type().Elem(), 1))
		}
	case v.Kind() == reflect.Struct:
		for i := range v.NumField() {
			to.Field(i).Set(roomed(v.Field(i), room))
		}
	default:
		to.Set(v)
	}
	return to
}

// copied is a copy that shares nothing.
func copied(h api.Hall) api.Hall { return roomy(h, 0) }

// behind is the front behind a step of the task: that must be h, changed as told.
func behind(t *testing.T, h api.Hall, task int, change func(h *api.Hall)) api.Hall {
	t.Helper()
	want := copied(h)
	change(&want)
	if !Enabled(h, task) {
		t.Fatalf("%+v: the task %d isn't enabled", h, task)
	}
	got := Step(h, task)
	if !alike(got, want) {
		t.Fatalf("%+v: behind a step of the task %d:\n%+v, not\n%+v", h, task, got, want)
	}
	return got
}

// stays holds the front against tasks that aren't enabled, and those that never are.
func stays(t *testing.T, h api.Hall, tasks ...int) {
	t.Helper()
	n := len(h.Clients) + len(h.Workers)
	for _, task := range append(tasks, -1, -2, -64, math.MinInt, n, n+1, n+64, math.MaxInt) {
		if Enabled(h, task) {
			t.Errorf("%+v: the task %d is enabled", h, task)
		}
		if got := Step(h, task); !alike(got, h) {
			t.Errorf("%+v: behind a step of the task %d: %+v", h, task, got)
		}
	}
}

// words is the front behind a step of the task, by the chapter's words, and whether that is
// enabled. What steps of operations do, it lets pool tell.
func words(h api.Hall, task int) (api.Hall, bool) {
	h.Clients, h.Workers, h.Mails, h.Log = slices.Clone(h.Clients), slices.Clone(h.Workers), slices.Clone(h.Mails), slices.Clone(h.Log)
	h.Queue.Items = slices.Clone(h.Queue.Items)
	n := len(h.Clients)
	if task < 0 || task >= n+len(h.Workers) {
		return h, false
	}
	if task < n {
		return h, clientsWords(&h, task)
	}
	return h, workersWords(&h, task-n)
}

// clientsWords does a step of the client, if it is enabled.
func clientsWords(h *api.Hall, i int) bool {
	me := &h.Clients[i]
	log := func(kind, at int, x api.Answer) {
		h.Log = append(h.Log, api.Event{Kind: kind, Client: i, Ask: me.Next, At: at, Answer: x})
	}
	if me.Waits {
		if h.Mails[i].Is {
			log(api.Answered, 0, h.Mails[i].Answer)
			h.Mails[i], me.Waits = api.Mail{}, false
			me.Next++
			return true
		}
		return false
	}
	if me.Next == len(me.Asks) {
		return false
	}
	log(api.Asked, 0, api.Answer{})
	err := api.OK
	switch {
	case me.Asks[me.Next].Kind == api.Close:
		h.Queue.Closed = true
	case h.Queue.Closed:
		err = api.ErrClosed
	case len(h.Queue.Items) == h.Queue.Cap:
		err = api.ErrBusy
	default:
		h.Queue.Items = append(h.Queue.Items, i)
		me.Waits = true
		return true
	}
	log(api.Effect, 2*len(h.Log)+1, failed(err))
	log(api.Answered, 0, failed(err))
	me.Next++
	return true
}

// workersWords does a step of the worker, if it is enabled.
func workersWords(h *api.Hall, i int) bool {
	me := &h.Workers[i]
	effect := func(at int) {
		e := api.Event{Kind: api.Effect, Client: me.For, Ask: h.Clients[me.For].Next, At: at, Answer: me.Op.Answer}
		if n := len(me.Op.Answer.Errs); n > 0 {
			e.Item, e.Answer = n-1, failed(me.Op.Answer.Errs[n-1])
		}
		h.Log = append(h.Log, e)
	}
	took := false
	switch {
	case !me.Works && len(h.Queue.Items) > 0:
		c := h.Clients[h.Queue.Items[0]]
		me.Works, me.For, h.Queue.Items = true, h.Queue.Items[0], h.Queue.Items[1:]
		if me.Op, took = pool.Begin(h.Conf, i%h.Conf.Shards, c.Asks[c.Next]); took {
			effect(2*len(h.Log) + 1)
		}
	case !me.Works:
		if !h.Queue.Closed || me.Done {
			return false
		}
		me.Done = true
	case me.Op.Phase == api.PhDone:
		h.Mails[me.For] = api.Mail{Is: true, Answer: me.Op.Answer}
		*me = api.Worker{}
	default:
		was := me.Op.Phase
		h.Cells, me.Op, took = pool.Step(h.Conf, h.Cells, me.Op)
		if was == api.PhFirst && me.Op.Phase == api.PhAgain {
			me.Op.Stamp = len(h.Log)
		}
		switch {
		case took && was == api.PhAgain && me.Op.Answer.Err != api.ErrRetry:
			effect(2 * me.Op.Stamp)
		case took:
			effect(2*len(h.Log) + 1)
		}
	}
	return true
}

// does is the front behind a step of the task, which is as the words say. (Whether Same is right,
// the tests of it tell.)
func does(t *testing.T, h api.Hall, task int) api.Hall {
	t.Helper()
	want, is := words(h, task)
	if Enabled(h, task) != is {
		t.Fatalf("%+v: is the task %d enabled? It is %v", h, task, is)
	}
	got := Step(h, task)
	if !Same(got, want) || len(got.Clients) != len(h.Clients) || len(got.Workers) != len(h.Workers) || len(got.Mails) != len(h.Mails) {
		t.Fatalf("%+v: behind a step of the task %d:\n%+v, not\n%+v", h, task, got, want)
	}
	return got
}

// walk does steps of the tasks, one behind the other.
func walk(t *testing.T, h api.Hall, tasks ...int) api.Hall {
	t.Helper()
	for _, task := range tasks {
		if !Enabled(h, task) {
			t.Fatalf("%+v: the task %d isn't enabled", h, task)
		}
		h = does(t, h, task)
	}
	return h
}

// rested is the front behind as many steps as it takes till no task is enabled, each task doing
// one in its turn.
func rested(t *testing.T, h api.Hall) api.Hall {
	t.Helper()
	for range 100000 {
		moved := false
		for task := range len(h.Clients) + len(h.Workers) {
			moved = moved || Enabled(h, task)
			h = does(t, h, task)
		}
		if !moved {
			return h
		}
	}
	t.Fatalf("%+v never rests", h)
	return h
}

// used are the offsets that aren't reserved whose bits are set.
func used(c api.Conf, l []uint64) []int {
	var offs []int
	for off := range 1 << (32 - c.Block.Prefix) {
		if l[off/32]>>(off%32)%2 == 1 && !slices.Contains(c.Held, off) {
			offs = append(offs, off)
		}
	}
	return offs
}

// Each field, of a front of two leaves, and of the smallest one.
func TestNewByHand(t *testing.T) { // P22.1
	c := conf(26, 3, 2, 4, 5, 0, 33)
	asks := [][]api.Ask{
		{request(api.Grant), request(api.Batch, 5, 6)}, {},
		{{Kind: -1, Addr: 9, Addrs: []uint32{1, 2, 3}}, {}, request(api.Close)},
	}
	want := api.Hall{
		Conf:    api.Conf{Block: api.Block{Base: base, Prefix: 26}, Held: []int{0, 33}, Shards: 3, Workers: 2, Queue: 4, Tries: 5},
		Cells:   []uint64{1, 2, all - 3, all - 1},
		Queue:   api.Queue{Cap: 4},
		Clients: []api.Client{{Asks: asks[0]}, {}, {Asks: asks[2]}},
		Workers: []api.Worker{{}, {}},
		Mails:   []api.Mail{{}, {}, {}},
	}
	if h, err := New(c, asks); err != api.OK || !alike(h, want) {
		t.Errorf("%+v, %d, not %+v", h, err, want)
	}
	want.Conf, want.Cells, want.Clients, want.Mails = conf(32, 1, 1, 1, 1, 0), []uint64{low, all, all}, nil, nil
	want.Queue.Cap, want.Workers = 1, want.Workers[:1]
	if h, err := New(want.Conf, nil); err != api.OK || !alike(h, want) {
		t.Errorf("%+v, %d, not %+v", h, err, want)
	}
}

// confs are configurations that may be: of each size, with each number at its ends.
func confs() []api.Conf {
	var l []api.Conf
	for _, prefix := range []int{32, 31, 30, 27, 26, 24, 21, 20, 16} {
		many := 1 << (32 - prefix)
		l = append(l, conf(prefix, 1, 1, 1, 1), conf(prefix, 64, 64, 64, 8, many-1), conf(prefix, 2, 3, 4, 5, 0))
	}
	full := conf(26, 3, 7, 9, 2)
	for off := range 64 {
		full.Held = append(full.Held, off)
	}
	return append(l, full)
}

// Of all of them, with clients of all numbers of requests.
func TestNewsFields(t *testing.T) { // P22.1
	for _, c := range confs() {
		for n := range api.MaxClients + 1 {
			asks := make([][]api.Ask, n)
			want := api.Hall{Conf: c, Cells: word.Cells(c), Queue: api.Queue{Cap: c.Queue}, Workers: make([]api.Worker, c.Workers), Mails: make([]api.Mail, n)}
			for i := range asks {
				for k := range []int{0, 1, 2, 32, 31, 5, 0, 1}[(i+n)%8] {
					asks[i] = append(asks[i], api.Ask{Kind: k - 1, Addr: uint32(i), Addrs: make([]uint32, []int{0, 1, 64, 65, 128}[(i+k)%5])})
				}
				want.Clients = append(want.Clients, api.Client{Asks: asks[i]})
			}
			if h, err := New(c, asks); err != api.OK || !alike(h, want) {
				t.Fatalf("%+v: %+v, %d, not %+v", c, h, err, want)
			}
		}
	}
}

// A zero front and ErrArg, whether the requests may be or not.
func TestNewOfWrongConfigurations(t *testing.T) { // P22.1
	right := conf(26, 3, 2, 4, 5, 0, 33)
	var wrong []api.Conf
	for _, change := range []func(c *api.Conf){
		func(c *api.Conf) { *c = api.Conf{} },
		func(c *api.Conf) { c.Block.Base++ },
		func(c *api.Conf) { c.Block.Prefix = 15 },
		func(c *api.Conf) { c.Block.Prefix = 33 },
		func(c *api.Conf) { c.Block.Prefix = -26 },
		func(c *api.Conf) { c.Held = []int{33, 0} },
		func(c *api.Conf) { c.Held = []int{0, 33, 33} },
		func(c *api.Conf) { c.Held = []int{-1, 33} },
		func(c *api.Conf) { c.Held = []int{0, 64} },
		func(c *api.Conf) { c.Block.Prefix, c.Held = 24, make([]int, 65) },
		func(c *api.Conf) { c.Shards = 0 },
		func(c *api.Conf) { c.Shards = 65 },
		func(c *api.Conf) { c.Workers = 0 },
		func(c *api.Conf) { c.Workers = 65 },
		func(c *api.Conf) { c.Queue = 0 },
		func(c *api.Conf) { c.Queue = 65 },
		func(c *api.Conf) { c.Tries = 0 },
		func(c *api.Conf) { c.Tries = 9 },
		func(c *api.Conf) { c.Workers = math.MinInt },
		func(c *api.Conf) { c.Queue = math.MaxInt },
	} {
		c := right
		change(&c)
		for i := range c.Held {
			if len(c.Held) == 65 {
				c.Held[i] = i
			}
		}
		wrong = append(wrong, c)
	}
	for _, c := range wrong {
		for _, asks := range [][][]api.Ask{nil, {}, {{request(api.Grant)}}, make([][]api.Ask, 8), make([][]api.Ask, 9)} {
			if h, err := New(c, asks); err != api.ErrArg || !alike(h, api.Hall{}) {
				t.Errorf("%+v, %d clients: %+v, %d", c, len(asks), h, err)
			}
		}
	}
}

// At most 8 clients, of 32 requests, of 128 Addrs: as many may be, and one more may not, whoever
// has them; what a request says else is nothing to it.
func TestNewOfRequests(t *testing.T) { // P22.1
	c := conf(26, 3, 2, 4, 5, 0, 33)
	for n := range 12 {
		want := api.OK
		if n > 8 {
			want = api.ErrArg
		}
		if h, err := New(c, make([][]api.Ask, n)); err != want || err != api.OK && !alike(h, api.Hall{}) {
			t.Errorf("%d clients: %+v, %d", n, h, err)
		}
	}
	for i := range 8 {
		for _, n := range []int{0, 1, 31, 32, 33, 34, 64, 1000} {
			asks := make([][]api.Ask, 8)
			asks[i] = make([]api.Ask, n)
			want := api.OK
			if n > 32 {
				want = api.ErrArg
			}
			if h, err := New(c, asks); err != want || err != api.OK && !alike(h, api.Hall{}) {
				t.Errorf("%d requests of the client %d: %+v, %d", n, i, h, err)
			}
		}
		for k := range 32 {
			for j, n := range []int{0, 1, 64, 65, 127, 128, 129, 130, 1000} {
				asks := make([][]api.Ask, 8)
				asks[i] = make([]api.Ask, 32)
				asks[i][k] = api.Ask{Kind: (i+j+k)%10 - 1, Addrs: make([]uint32, n)}
				want := api.OK
				if n > 128 {
					want = api.ErrArg
				}
				if h, err := New(c, asks); err != want || err != api.OK && !alike(h, api.Hall{}) {
					t.Errorf("%d Addrs of the client %d's request %d: %+v, %d", n, i, k, h, err)
				}
			}
		}
	}
}

// The chapter's example: a queue of one place, two clients that ask at once.
func TestTheChaptersExample(t *testing.T) { // P22.2
	h := opened(t, conf(30, 1, 1, 1, 1, 0, 3), []api.Ask{request(api.Grant)}, []api.Ask{request(api.Grant)})
	h = walk(t, h, 0, 1)
	if x := h.Log[len(h.Log)-1]; x.Kind != api.Answered || x.Client != 1 || !alike(x.Answer, failed(api.ErrBusy)) {
		t.Errorf("%+v", h.Log)
	}
	if !h.Clients[0].Waits || h.Clients[1].Waits || h.Clients[1].Next != 1 {
		t.Errorf("%+v", h.Clients)
	}
}

// Each state of a client: it asks what is right, what isn't, at a queue that is full, and at one
// that is closed; it closes an open queue, a full one, and one that is closed; it waits without a
// mail, and with one; and it has nothing to ask any more.
func TestClientsByHand(t *testing.T) { // P22.2
	h := opened(t, conf(30, 1, 1, 2, 1, 0, 3),
		[]api.Ask{request(api.Grant), request(api.Exact, 0), request(api.Close), request(api.Grant), request(api.Close)},
		[]api.Ask{{Kind: 9}, request(api.Batch, 1, 2), request(api.Batch)},
		nil,
		[]api.Ask{request(api.Query, 1), request(api.Close)})
	stays(t, h, 2, 4) // no request; an empty queue
	h = behind(t, h, 0, func(h *api.Hall) {
		h.Log = []api.Event{{Kind: api.Asked}}
		h.Queue.Items, h.Clients[0].Waits = []int{0}, true
	})
	stays(t, h, 0, 2)
	h = behind(t, h, 1, func(h *api.Hall) { // it isn't right, which a worker will tell
		h.Log = append(h.Log, api.Event{Kind: api.Asked, Client: 1})
		h.Queue.Items, h.Clients[1].Waits = []int{0, 1}, true
	})
	stays(t, h, 0, 1, 2)
	h = behind(t, h, 3, func(h *api.Hall) { // full
		h.Log = append(h.Log, api.Event{Kind: api.Asked, Client: 3},
			api.Event{Kind: api.Effect, Client: 3, At: 7, Answer: failed(api.ErrBusy)},
			api.Event{Kind: api.Answered, Client: 3, Answer: failed(api.ErrBusy)})
		h.Clients[3].Next = 1
	})
	h = walk(t, h, 4, 4, 4, 4, 4, 4) // till the worker has told
	if x := (api.Mail{Is: true, Answer: granted(1)}); !alike(h.Mails[0], x) || len(h.Log) != 6 {
		t.Fatalf("%+v, %+v", h.Mails, h.Log)
	}
	h = behind(t, h, 0, func(h *api.Hall) { // a mail
		h.Log = append(h.Log, api.Event{Kind: api.Answered, Answer: granted(1)})
		h.Mails[0], h.Clients[0].Waits, h.Clients[0].Next = api.Mail{}, false, 1
	})
	h = behind(t, h, 0, func(h *api.Hall) {
		h.Log = append(h.Log, api.Event{Kind: api.Asked, Ask: 1})
		h.Queue.Items, h.Clients[0].Waits = []int{1, 0}, true
	})
	h = behind(t, h, 3, func(h *api.Hall) { // it closes a full queue
		h.Log = append(h.Log, api.Event{Kind: api.Asked, Client: 3, Ask: 1},
			api.Event{Kind: api.Effect, Client: 3, Ask: 1, At: 19},
			api.Event{Kind: api.Answered, Client: 3, Ask: 1})
		h.Queue.Closed, h.Clients[3].Next = true, 2
	})
	stays(t, h, 0, 1, 2, 3)
	h = walk(t, h, 4, 4) // the request 9 is begun, and told
	h = behind(t, h, 1, func(h *api.Hall) {
		h.Log = append(h.Log, api.Event{Kind: api.Answered, Client: 1, Answer: failed(api.ErrArg)})
		h.Mails[1], h.Clients[1].Waits, h.Clients[1].Next = api.Mail{}, false, 1
	})
	h = behind(t, h, 1, func(h *api.Hall) { // closed, with room
		h.Log = append(h.Log, api.Event{Kind: api.Asked, Client: 1, Ask: 1},
			api.Event{Kind: api.Effect, Client: 1, Ask: 1, At: 29, Answer: failed(api.ErrClosed)},
			api.Event{Kind: api.Answered, Client: 1, Ask: 1, Answer: failed(api.ErrClosed)})
		h.Clients[1].Next = 2
	})
	h = walk(t, h, 1, 4, 4, 0) // refused though it isn't right; the reserved address
	if x := h.Log[len(h.Log)-1]; !alike(x, api.Event{Kind: api.Answered, Ask: 1, Answer: failed(api.ErrReserved)}) || !h.Queue.Closed {
		t.Fatalf("%+v", h)
	}
	n := len(h.Log)
	h = behind(t, h, 0, func(h *api.Hall) { // it closes what is closed
		h.Log = append(h.Log, api.Event{Kind: api.Asked, Ask: 2}, api.Event{Kind: api.Effect, Ask: 2, At: 2*n + 3}, api.Event{Kind: api.Answered, Ask: 2})
		h.Clients[0].Next = 3
	})
	h = walk(t, h, 0, 0)
	if x := h.Log[len(h.Log)-4]; x.Answer.Err != api.ErrClosed || h.Clients[0].Next != 5 {
		t.Errorf("%+v", h)
	}
	stays(t, h, 0, 1, 2, 3)
	h = behind(t, h, 4, func(h *api.Hall) { h.Workers[0].Done = true })
	stays(t, h, 0, 1, 2, 3, 4)
}

// A queue that is closed and full tells that it is closed; one that is closed ahead of all is so
// for all.
func TestClosedAndFull(t *testing.T) { // P22.2
	g := request(api.Grant)
	h := opened(t, conf(30, 1, 1, 1, 1), []api.Ask{g, g}, []api.Ask{request(api.Close), g}, []api.Ask{g})
	h = walk(t, h, 0, 1, 1, 2)
	for _, x := range h.Log[len(h.Log)-5:] {
		if x.Kind != api.Asked && x.Answer.Err != api.ErrClosed {
			t.Errorf("%+v", h.Log)
		}
	}
	h = rested(t, h)
	if x := h.Log[len(h.Log)-1]; x.Client != 0 || x.Ask != 1 || x.Answer.Err != api.ErrClosed || h.Clients[0].Next != 2 {
		t.Errorf("%+v", h)
	}
}

// Each state of a worker, by hand: a queue that is empty, that has something, and that ends; what
// begins, of the worker's home; its steps, and its answer; and it is as it was at first behind it.
func TestWorkersByHand(t *testing.T) { // P22.2
	h := opened(t, conf(26, 2, 3, 4, 2, 0, 33),
		[]api.Ask{request(api.Grant), request(api.Query, 34)}, []api.Ask{request(api.Exact, 33)}, []api.Ask{request(api.Exact, 34)})
	stays(t, h, 3, 4, 5)
	h = walk(t, h, 1, 0, 2) // the queue is 1, 0, 2
	h = behind(t, h, 5, func(h *api.Hall) {
		h.Queue.Items = []int{0, 2}
		h.Workers[2] = api.Worker{Works: true, For: 1, Op: api.Op{Ask: request(api.Exact, 33), Answer: failed(api.ErrReserved)}}
		h.Log = append(h.Log, api.Event{Kind: api.Effect, Client: 1, At: 7, Answer: failed(api.ErrReserved)})
	})
	grant := api.Worker{Works: true, Op: api.Op{Ask: request(api.Grant), Phase: api.PhSeek, Shard: 1}}
	h = behind(t, h, 4, func(h *api.Hall) { // of the home 1
		h.Queue.Items, h.Workers[1] = []int{2}, grant
	})
	exact := api.Worker{Works: true, For: 2, Op: api.Op{Ask: request(api.Exact, 34), Phase: api.PhRead, Leaf: 1, Bit: 2}}
	h = behind(t, h, 3, func(h *api.Hall) { h.Queue.Items, h.Workers[0] = nil, exact })
	stays(t, h, 0, 1, 2)
	h = behind(t, h, 5, func(h *api.Hall) {
		h.Workers[2], h.Mails[1] = api.Worker{}, api.Mail{Is: true, Answer: failed(api.ErrReserved)}
	})
	stays(t, h, 0, 2, 5)
	h = behind(t, h, 4, func(h *api.Hall) { h.Workers[1].Op.At, h.Workers[1].Op.Word = 1, all-1 })
	h = behind(t, h, 4, func(h *api.Hall) {
		h.Workers[1].Op = grant.Op
		h.Workers[1].Op.Phase, h.Workers[1].Op.Leaf = api.PhLook, 1
	})
	h = behind(t, h, 3, func(h *api.Hall) { h.Workers[0].Op.Phase, h.Workers[0].Op.Word = api.PhClaim, 2 })
	h = behind(t, h, 3, func(h *api.Hall) { // it takes effect, and is at its end
		h.Cells[1] = once + 6
		h.Workers[0].Op.Phase, h.Workers[0].Op.Word, h.Workers[0].Op.Answer = api.PhDone, 0, granted(34)
		h.Log = append(h.Log, api.Event{Kind: api.Effect, Client: 2, At: 9, Answer: granted(34)})
	})
	stays(t, h, 0, 2, 5)
	h = behind(t, h, 3, func(h *api.Hall) {
		h.Workers[0], h.Mails[2] = api.Worker{}, api.Mail{Is: true, Answer: granted(34)}
	})
	h = behind(t, h, 2, func(h *api.Hall) {
		h.Log = append(h.Log, api.Event{Kind: api.Answered, Client: 2, Answer: granted(34)})
		h.Mails[2], h.Clients[2].Next, h.Clients[2].Waits = api.Mail{}, 1, false
	})
	h = behind(t, h, 4, func(h *api.Hall) { h.Workers[1].Op.Phase, h.Workers[1].Op.Word = api.PhClaim, once+6 })
	h = walk(t, h, 4, 4, 0)
	if x := h.Log[len(h.Log)-1]; !alike(x, api.Event{Kind: api.Answered, Answer: granted(32)}) || !alike(h.Workers[1], api.Worker{}) {
		t.Fatalf("%+v", h)
	}
	stays(t, h, 2, 3, 4, 5) // empty, but open
	h = walk(t, h, 0, 4)
	if x := h.Workers[1].Op; x.Phase != api.PhRead || x.Leaf != 1 || x.Bit != 2 || !alike(x.Ask, request(api.Query, 34)) {
		t.Errorf("%+v: its second request", h)
	}
}

// Workers are done where the queue ends: not while it has something, nor while it is open; and
// then nothing more.
func TestWorkersAreDone(t *testing.T) { // P22.2
	h := opened(t, conf(30, 2, 3, 4, 2), []api.Ask{request(api.Query, 1)}, []api.Ask{request(api.Close), request(api.Query, 1)})
	h = walk(t, h, 0, 1)
	h = walk(t, h, 3) // it takes what was asked ahead of the end
	h = behind(t, h, 2, func(h *api.Hall) { h.Workers[0].Done = true })
	stays(t, h, 0, 2)
	h = walk(t, h, 3, 3)
	if !alike(h.Workers[1], api.Worker{}) {
		t.Errorf("%+v", h)
	}
	h = behind(t, h, 3, func(h *api.Hall) { h.Workers[1].Done = true })
	h = behind(t, h, 4, func(h *api.Hall) { h.Workers[2].Done = true })
	stays(t, h, 2, 3, 4)
	h = walk(t, h, 0, 1)
	stays(t, h, 0, 1, 2, 3, 4)
}

// The home is the rest of the worker's number by the shards, wherever its task stands.
func TestHomes(t *testing.T) { // P22.2
	for _, clients := range []int{1, 3} {
		for _, shards := range []int{1, 2, 3, 64} {
			asks := make([][]api.Ask, clients)
			asks[clients-1] = []api.Ask{request(api.Grant)}
			h := walk(t, opened(t, conf(26, shards, 64, 1, 1), asks...), clients-1)
			for i := range 64 {
				if got := Step(h, clients+i); got.Workers[i].Op.Shard != i%shards || got.Workers[i].For != clients-1 {
					t.Errorf("%d shards, the worker %d: %+v", shards, i, got.Workers[i])
				}
			}
		}
	}
}

// told is a request, of one client and one worker, what each of its effects tells, the whole
// answer, and whether it takes effect as it was when a first collect ended.
type told struct {
	a       api.Ask
	effects []api.Answer
	x       api.Answer
	stamped bool
}

// plain is a request that takes effect once, as it is answered.
func plain(a api.Ask, x api.Answer) told { return told{a: a, effects: []api.Answer{x}, x: x} }

// every is a request of each Kind, and each of its answers, by hand, one behind the other, of a
// block of four addresses, of which the first and the last one are reserved.
func every() []told {
	full := plain(request(api.Grant), failed(api.ErrFull))
	full.stamped = true
	snap := func(offs ...int) told {
		var x api.Answer
		for _, off := range offs {
			x.Addrs = append(x.Addrs, base+uint32(off))
		}
		s := plain(request(api.Snapshot), x)
		s.stamped = true
		return s
	}
	batch := func(offs []int, errs ...api.Errno) told {
		b := told{a: request(api.Batch, offs...), x: api.Answer{Errs: errs}}
		for _, err := range errs {
			b.effects = append(b.effects, failed(err))
		}
		return b
	}
	return []told{
		snap(),
		plain(request(api.Grant), granted(1)),
		plain(request(api.Exact, 1), failed(api.ErrUsed)),
		plain(request(api.Grant), granted(2)),
		full, snap(1, 2),
		plain(request(api.Exact, 3), failed(api.ErrReserved)),
		plain(request(api.Exact, 4), failed(api.ErrOutside)),
		plain(request(api.Query, 1), api.Answer{Used: true}),
		plain(request(api.Release, 1), failed(api.OK)),
		plain(request(api.Release, 1), failed(api.ErrFree)),
		plain(request(api.Query, 1), api.Answer{}),
		plain(request(api.Query, 0), failed(api.ErrReserved)),
		plain(request(api.Release, 5), failed(api.ErrOutside)),
		snap(2),
		batch([]int{1, 2}, api.ErrFree, api.OK),
		plain(request(api.Batch), failed(api.ErrEmpty)),
		plain(request(api.Batch, 1, 1), failed(api.ErrTwice)),
		plain(request(api.Batch, 2, 3), failed(api.ErrReserved)),
		plain(request(api.Exact, 2), granted(2)),
		batch([]int{2}, api.OK),
		batch([]int{2, 1}, api.ErrFree, api.ErrFree),
		plain(api.Ask{Kind: 8, Addr: 3}, failed(api.ErrArg)),
		plain(api.Ask{}, failed(api.ErrArg)),
		plain(request(api.Batch, make([]int, 128)...), failed(api.ErrArg)),
		plain(request(api.Close), api.Answer{}),
		plain(request(api.Close), api.Answer{}),
		plain(request(api.Grant), failed(api.ErrClosed)),
		plain(request(api.Batch, 1, 2), failed(api.ErrClosed)),
		plain(request(api.Query, 0), failed(api.ErrClosed)),
		plain(request(api.Snapshot), failed(api.ErrClosed)),
		plain(request(api.Close), api.Answer{}),
	}
}

// What befalls, every event's every field.
func TestWholeRunOfOneByHand(t *testing.T) { // P22.2, P22.3
	var asks []api.Ask
	var want []api.Event
	for i, x := range every() {
		asks = append(asks, x.a)
		want = append(want, api.Event{Kind: api.Asked, Ask: i})
		stamp := len(want)
		for k, one := range x.effects {
			e := api.Event{Kind: api.Effect, Ask: i, Item: k, At: 2*len(want) + 1, Answer: one}
			if x.stamped {
				e.At = 2 * stamp
			}
			want = append(want, e)
		}
		want = append(want, api.Event{Kind: api.Answered, Ask: i, Answer: x.x})
	}
	h := rested(t, opened(t, conf(30, 1, 1, 1, 1, 0, 3), asks))
	for i, e := range want {
		if i >= len(h.Log) || !alike(h.Log[i], e) {
			t.Fatalf("the event %d: %+v, not %+v", i, h.Log[min(i, len(h.Log)-1)], e)
		}
	}
	if len(h.Log) != len(want) || !alike(h.Workers[0], api.Worker{Done: true}) || !alike(h.Mails, []api.Mail{{}}) || !alike(h.Queue, api.Queue{Cap: 1, Closed: true}) {
		t.Errorf("%+v", h)
	}
	checkLog(t, h)
}

// A snapshot that reads the same twice tells what was when its first collect ended, and when
// that was: ahead of what another one claimed between. One of which that isn't so begins anew,
// and is stamped anew; or, with no try left, is told to retry, now.
func TestWhenSnapshotsTakeEffect(t *testing.T) { // P22.2
	for tries := 1; tries <= 3; tries++ {
		h := opened(t, conf(26, 1, 2, 2, tries), []api.Ask{request(api.Snapshot), request(api.Query, 1)}, []api.Ask{request(api.Exact, 0)})
		h = walk(t, h, 0, 1, 2, 3, 2)
		if o := h.Workers[0].Op; o.Phase != api.PhFirst || o.Stamp != 0 {
			t.Fatalf("%+v", o)
		}
		h = behind(t, h, 2, func(h *api.Hall) {
			o := &h.Workers[0].Op
			o.Phase, o.At, o.Seen, o.Stamp = api.PhAgain, 0, []uint64{0, 0}, 2
		})
		read := walk(t, h, 2, 3, 3) // the leaf 0 is read again ahead of the claim
		behind(t, read, 2, func(h *api.Hall) {
			o := &h.Workers[0].Op
			o.Phase, o.At, o.Seen = api.PhDone, 0, nil
			h.Log = append(h.Log, api.Event{Kind: api.Effect, At: 4})
		})
		if x := read.Log[2]; x.At != 5 || x.Client != 1 {
			t.Errorf("%+v", read.Log)
		}
		late := walk(t, h, 3, 3) // the claim is ahead of it
		if tries == 1 {
			late = behind(t, late, 2, func(h *api.Hall) {
				o := &h.Workers[0].Op
				o.Phase, o.At, o.Seen, o.Tries, o.Answer = api.PhDone, 0, nil, 1, failed(api.ErrRetry)
				h.Log = append(h.Log, api.Event{Kind: api.Effect, At: 7, Answer: failed(api.ErrRetry)})
			})
			late = walk(t, late, 2, 0, 0, 2)
			if o := late.Workers[0].Op; o.Stamp != 0 || o.Tries != 0 {
				t.Errorf("of the next request: %+v", o)
			}
			continue
		}
		late = walk(t, late, 2, 2)
		if o := late.Workers[0].Op; o.Phase != api.PhFirst || o.Stamp != 2 || o.Tries != 1 {
			t.Fatalf("%+v", o)
		}
		late = walk(t, late, 2)
		if o := late.Workers[0].Op; o.Phase != api.PhAgain || o.Stamp != 3 {
			t.Fatalf("%+v", o)
		}
		late = walk(t, late, 3, 1, 2) // two more events, of which it is ahead
		behind(t, late, 2, func(h *api.Hall) {
			o := &h.Workers[0].Op
			o.Phase, o.At, o.Seen, o.Answer.Addrs = api.PhDone, 0, nil, []uint32{base}
			h.Log = append(h.Log, api.Event{Kind: api.Effect, At: 6, Answer: api.Answer{Addrs: []uint32{base}}})
		})
	}
}

// A grant that finds all used twice is so when its first collect ended, though others' events came
// since; one that then finds something takes effect now, whatever stamp it has.
func TestWhenGrantsTakeEffect(t *testing.T) { // P22.2
	h := opened(t, conf(31, 1, 2, 2, 1, 0),
		[]api.Ask{request(api.Exact, 1), request(api.Grant)}, []api.Ask{request(api.Query, 1), request(api.Release, 1)})
	h = walk(t, h, 0, 2, 2, 2, 2, 2, 2, 2, 2, 0) // claimed, and marked
	h = walk(t, h, 0, 2, 2)
	if o := h.Workers[0].Op; o.Phase != api.PhFirst || len(h.Log) != 4 {
		t.Fatalf("%+v", h)
	}
	h = walk(t, h, 2)
	if o := h.Workers[0].Op; o.Phase != api.PhAgain || o.Stamp != 4 {
		t.Fatalf("%+v", h)
	}
	h = walk(t, h, 1, 3, 3)
	if x := h.Log[5]; x.Client != 1 || x.At != 11 || !x.Answer.Used {
		t.Fatalf("%+v", h)
	}
	behind(t, h, 2, func(h *api.Hall) {
		o := &h.Workers[0].Op
		o.Phase, o.Seen, o.Answer = api.PhDone, nil, failed(api.ErrFull)
		h.Log = append(h.Log, api.Event{Kind: api.Effect, Ask: 1, At: 8, Answer: failed(api.ErrFull)})
	})
	h = walk(t, h, 3, 1, 1, 3, 3, 3, 2) // it is given back, which the second collect finds
	if o := h.Workers[0].Op; o.Phase != api.PhFirst || o.Stamp != 4 || len(h.Log) != 9 {
		t.Fatalf("%+v", h)
	}
	h = walk(t, h, 2)
	if o := h.Workers[0].Op; o.Phase != api.PhClaim || o.Stamp != 4 {
		t.Fatalf("%+v", h)
	}
	h = walk(t, h, 2)
	if x := h.Log[9]; !alike(x, api.Event{Kind: api.Effect, Ask: 1, At: 19, Answer: granted(1)}) {
		t.Errorf("%+v", h)
	}
}

// Each address of a batch takes effect on its own, while others go on.
func TestBatchesTakeEffectByAddress(t *testing.T) { // P22.2
	h := opened(t, conf(26, 1, 2, 2, 1, 0), []api.Ask{request(api.Exact, 34), request(api.Batch, 34, 1, 2)}, []api.Ask{request(api.Exact, 2)})
	h = walk(t, h, 0, 2, 2, 2, 2, 0) // ask, take, read, claim, tell, hear
	h = walk(t, h, 0, 1, 2, 3, 2, 2) // the batch gave back the first one
	if x := h.Log[5]; !alike(x, api.Event{Kind: api.Effect, Ask: 1, At: 11}) {
		t.Fatalf("%+v", h)
	}
	h = walk(t, h, 3, 3, 2, 2, 2)
	for i, x := range []api.Event{
		{Kind: api.Effect, Client: 1, At: 13, Answer: granted(2)},
		{Kind: api.Effect, Ask: 1, Item: 1, At: 15, Answer: failed(api.ErrFree)},
		{Kind: api.Effect, Ask: 1, Item: 2, At: 17},
	} {
		if 6+i >= len(h.Log) || !alike(h.Log[6+i], x) {
			t.Fatalf("%+v, not %+v", h.Log, x)
		}
	}
	h = walk(t, h, 2, 0) // told, and heard
	want := api.Event{Kind: api.Answered, Ask: 1, Answer: api.Answer{Errs: []api.Errno{0, api.ErrFree, 0}}}
	if x := h.Log[len(h.Log)-1]; !alike(x, want) {
		t.Errorf("%+v, not %+v", x, want)
	}
	checkLog(t, h)
}

// The longest batch: 64 effects, one behind the other.
func TestTheLongestBatch(t *testing.T) { // P22.2
	var offs []int
	for i := range 64 {
		offs = append(offs, 63-i)
	}
	h := rested(t, opened(t, conf(26, 1, 1, 1, 1), []api.Ask{request(api.Exact, 5), request(api.Batch, offs...)}))
	if len(h.Log) != 3+66 {
		t.Fatalf("%+v", h.Log)
	}
	for i, e := range h.Log[4:68] {
		want := api.Event{Kind: api.Effect, Ask: 1, Item: i, At: 2*(4+i) + 1, Answer: failed(api.ErrFree)}
		if offs[i] == 5 {
			want.Answer.Err = api.OK
		}
		if !alike(e, want) {
			t.Errorf("%+v, not %+v", e, want)
		}
	}
	checkLog(t, h)
}

// The document's ten examples, of the block 10.0.0.0/30.
func TestTheDocumentsExamples(t *testing.T) { // P22.2, P22.3
	at := uint32(0x0a000000)
	one := func(kind int, off uint32) api.Ask { return api.Ask{Kind: kind, Addr: at + off} }
	many := func(offs ...uint32) api.Ask {
		a := api.Ask{Kind: api.Batch}
		for _, off := range offs {
			a.Addrs = append(a.Addrs, at+off)
		}
		return a
	}
	g := api.Ask{Kind: api.Grant}
	for i, x := range []struct {
		asks []api.Ask
		want []api.Answer
	}{
		{[]api.Ask{g, g, g}, []api.Answer{{Addr: at + 1}, {Addr: at + 2}, failed(api.ErrFull)}},
		{[]api.Ask{one(api.Exact, 3), one(api.Exact, 4)}, []api.Answer{failed(api.ErrReserved), failed(api.ErrOutside)}},
		{[]api.Ask{g, one(api.Release, 1), one(api.Release, 1)}, []api.Answer{{Addr: at + 1}, {}, failed(api.ErrFree)}},
		{[]api.Ask{one(api.Exact, 2), many(1, 2)}, []api.Answer{{Addr: at + 2}, {Errs: []api.Errno{api.ErrFree, api.OK}}}},
		{[]api.Ask{many(), many(1, 1)}, []api.Answer{failed(api.ErrEmpty), failed(api.ErrTwice)}},
		{[]api.Ask{one(api.Exact, 2), one(api.Query, 2)}, []api.Answer{{Addr: at + 2}, {Used: true}}},
		{[]api.Ask{{Kind: api.Snapshot}}, []api.Answer{{}}},
		{[]api.Ask{{Kind: api.Close}, g}, []api.Answer{{}, failed(api.ErrClosed)}},
	} {
		c := conf(30, 1, 1, 1, 1, 0, 3)
		c.Block.Base = at
		h := rested(t, opened(t, c, x.asks))
		var got []api.Answer
		for _, e := range h.Log {
			if e.Kind == api.Answered {
				got = append(got, e.Answer)
			}
		}
		if !alike(got, x.want) {
			t.Errorf("%d: %+v, not %+v", i, got, x.want)
		}
	}
}

// under is a client's request under way: when it was asked, and what its effects told.
type under struct {
	is      bool
	ask     int
	asked   int
	effects []api.Answer
}

// checkLog holds what befell against the words: of each client one request behind the other, each
// asked, taking effect between that and its answer, as often as it should, and answered what its
// effects told. In the order of At each effect is right at once, and what they make is what is used.
func checkLog(t *testing.T, h api.Hall) {
	t.Helper()
	clients := make([]under, len(h.Clients))
	for place, e := range h.Log {
		if e.Client < 0 || e.Client >= len(clients) {
			t.Fatalf("%+v: no such client", e)
		}
		u := &clients[e.Client]
		if e.Ask != u.ask || u.is != (e.Kind != api.Asked) {
			t.Fatalf("%+v: the event %d: %+v", h.Log, place, e)
		}
		switch e.Kind {
		case api.Asked:
			u.is, u.asked, u.effects = true, place, nil
			checkPlain(t, e)
			if !alike(e.Answer, api.Answer{}) {
				t.Fatalf("%+v", e)
			}
		case api.Effect:
			if e.Item != len(u.effects) || e.At <= 2*u.asked+1 || e.At > 2*place+1 {
				t.Fatalf("%+v: the event %d: %+v", h.Log, place, e)
			}
			u.effects = append(u.effects, e.Answer)
		case api.Answered:
			checkPlain(t, e)
			checkAnswer(t, h.Conf, h.Clients[e.Client].Asks[e.Ask], u.effects, e.Answer)
			u.is, u.ask = false, u.ask+1
		default:
			t.Fatalf("%+v: no such event", e)
		}
	}
	for i, u := range clients {
		if c := h.Clients[i]; c.Next != u.ask || c.Waits != u.is {
			t.Fatalf("the client %d: %+v, %+v", i, c, u)
		}
	}
	checkOrder(t, h)
}

// checkPlain: only effects have an Item and an At.
func checkPlain(t *testing.T, e api.Event) {
	t.Helper()
	if e.Item != 0 || e.At != 0 {
		t.Fatalf("%+v", e)
	}
}

// byAddress tells whether the request takes effect for each address.
func byAddress(c api.Conf, a api.Ask, x api.Answer) bool {
	return a.Kind == api.Batch && ask.Check(c, a) == api.OK && x.Err == api.OK
}

// checkAnswer holds the whole answer against what the effects told.
func checkAnswer(t *testing.T, c api.Conf, a api.Ask, effects []api.Answer, x api.Answer) {
	t.Helper()
	if !byAddress(c, a, x) {
		if len(effects) != 1 || !alike(effects[0], x) {
			t.Fatalf("%+v: the effects %+v, the answer %+v", a, effects, x)
		}
		return
	}
	var whole api.Answer
	for _, one := range effects {
		if !alike(one, failed(one.Err)) {
			t.Fatalf("%+v: the effect %+v", a, one)
		}
		whole.Errs = append(whole.Errs, one.Err)
	}
	if len(effects) != len(a.Addrs) || !alike(whole, x) {
		t.Fatalf("%+v: the effects %+v, the answer %+v", a, effects, x)
	}
}

// checkOrder goes through the effects by their At.
func checkOrder(t *testing.T, h api.Hall) {
	t.Helper()
	var l []api.Event
	for _, e := range h.Log {
		if e.Kind == api.Effect {
			l = append(l, e)
		}
	}
	slices.SortStableFunc(l, func(a, b api.Event) int { return cmp.Compare(a.At, b.At) })
	var s []int
	for _, e := range l {
		a := h.Clients[e.Client].Asks[e.Ask]
		refused := e.Answer.Err == api.ErrBusy || e.Answer.Err == api.ErrClosed
		if a.Kind == api.Batch && ask.Check(h.Conf, a) == api.OK && !refused {
			a = api.Ask{Kind: api.Release, Addr: a.Addrs[e.Item]}
		}
		then, right := spec.Legal(h.Conf, s, a, e.Answer)
		if !right {
			t.Fatalf("%+v: of %v it isn't right that %+v is answered %+v", h.Log, s, a, e.Answer)
		}
		s = then
	}
	if got := used(h.Conf, h.Cells); !slices.Equal(got, s) {
		t.Fatalf("%+v: %v are used, not %v", h.Log, got, s)
	}
}

// checkRest: all is asked and answered, nothing waits, and nobody works; where the front is closed,
// all workers are done.
func checkRest(t *testing.T, h api.Hall) {
	t.Helper()
	checkLog(t, h)
	for i, c := range h.Clients {
		if c.Next != len(c.Asks) || c.Waits || !alike(h.Mails[i], api.Mail{}) {
			t.Fatalf("the client %d: %+v, %+v", i, c, h.Mails[i])
		}
	}
	for i, w := range h.Workers {
		if !alike(w, api.Worker{Done: h.Queue.Closed}) {
			t.Fatalf("the worker %d: %+v", i, w)
		}
	}
	if len(h.Queue.Items) != 0 {
		t.Fatalf("%+v", h.Queue)
	}
}

// course is a front under way, and of each client the answer that its worker had.
type course struct {
	h   api.Hall
	had map[int]api.Answer
}

// next is the course behind a step of the task. What is asked at a queue that is full, or closed,
// never reaches a worker; of each client at most one request is in the queue, at a worker, or in a
// mail.
func (a course) next(t *testing.T, task int) course {
	t.Helper()
	was := a.h
	a.h = does(t, a.h, task)
	n := len(a.h.Clients)
	if i := task - n; i >= 0 && i < len(was.Workers) && was.Workers[i].Works && was.Workers[i].Op.Phase == api.PhDone {
		a.had[was.Workers[i].For] = was.Workers[i].Op.Answer
	}
	if task >= 0 && task < n && was.Clients[task].Waits && !a.h.Clients[task].Waits {
		if x, has := a.had[task]; !has || !alike(x, a.h.Log[len(a.h.Log)-1].Answer) {
			t.Fatalf("%+v: its worker had %+v", a.h.Log[len(a.h.Log)-1], x)
		}
		delete(a.had, task)
	}
	at := make([]int, n)
	for _, i := range a.h.Queue.Items {
		at[i]++
	}
	for _, w := range a.h.Workers {
		if w.Works {
			at[w.For]++
		}
	}
	for i, m := range a.h.Mails {
		if m.Is {
			at[i]++
		}
		if c := a.h.Clients[i]; at[i] > 1 || (at[i] == 1) != c.Waits {
			t.Fatalf("%+v: of the client %d %d requests are under way", a.h, i, at[i])
		}
	}
	return a
}

// someAsk is a request of any Kind, of few offsets, so that they meet: right, or not.
func (r *random) someAsk(c api.Conf) api.Ask {
	many := 1 << (32 - c.Block.Prefix)
	off := func() int { return (r.below(4) + []int{0, 0, 30, many - 2}[r.below(4)]) % many }
	switch r.below(24) {
	case 0:
		return request([]int{api.Exact, api.Release, api.Query}[r.below(3)], []int{-1, many, 1 << 20}[r.below(3)])
	case 1:
		return api.Ask{Kind: []int{0, 8, -1}[r.below(3)], Addr: base}
	case 2:
		return request(api.Batch, make([]int, []int{0, 2, 65, 128}[r.below(4)])...)
	case 3:
		if r.below(3) == 0 {
			return request(api.Close)
		}
	case 4, 5, 6, 7, 8:
		return request(api.Grant)
	case 9, 10:
		return request(api.Snapshot)
	case 11, 12, 13:
		var offs []int
		for range 1 + r.below(6) {
			offs = append(offs, off())
		}
		slices.Sort(offs)
		if r.below(9) != 0 {
			offs = slices.Compact(offs)
		}
		return request(api.Batch, offs...)
	}
	return request([]int{api.Exact, api.Exact, api.Release, api.Query}[r.below(4)], off())
}

// someFront is a front of any numbers of clients, requests, workers and places.
func (r *random) someFront(t *testing.T) api.Hall {
	prefix := []int{32, 31, 30, 30, 29, 27, 26, 25}[r.below(8)]
	c := conf(prefix, 1+r.below(4), 1+r.below(5), 1+r.below(4), 1+r.below(3))
	if prefix < 31 && r.below(2) == 0 {
		c.Held = []int{0, 3}
	}
	asks := make([][]api.Ask, r.below(api.MaxClients+1))
	for i := range asks {
		for range r.below(9) {
			asks[i] = append(asks[i], r.someAsk(c))
		}
	}
	return opened(t, c, asks...)
}

// task picks one: any, such as there aren't among them; or, by its way, a client rather, or a
// worker, or one of few.
func (r *random) task(h api.Hall, way int) int {
	n, m := len(h.Clients), len(h.Workers)
	switch {
	case way == 1 && n > 0 && r.below(4) != 0:
		return r.below(n)
	case way == 2 && r.below(8) != 0:
		return n + r.below(m)
	case way == 3 && r.below(16) != 0:
		return n + r.below(2)%m - r.below(2)
	}
	return r.below(n+m+4) - 2
}

// Whole runs, of whatever is picked, by a fixed rule, with any words put behind the leaves between:
// each step is as the words say, and so is all that befalls.
func TestRuns(t *testing.T) { // P22.2, P22.3
	ends, stamps := map[[2]int]int{}, 0
	for seed := range 700 {
		r := random(seed)
		a := course{r.someFront(t), map[int]api.Answer{}}
		leaves := (1<<(32-a.h.Conf.Block.Prefix) + 31) / 32
		for range r.below(60 * (1 + len(a.h.Clients))) {
			if seed%3 == 0 && r.below(4) == 0 {
				a.h.Cells = slices.Clone(a.h.Cells)
				a.h.Cells[leaves+r.below(2)] = []uint64{0, all, r.word()}[r.below(3)]
			}
			a = a.next(t, r.task(a.h, seed%4))
		}
		checkLog(t, a.h)
		a.h = rested(t, a.h)
		checkRest(t, a.h)
		for place, e := range a.h.Log {
			if e.Kind == api.Answered {
				ends[[2]int{a.h.Clients[e.Client].Asks[e.Ask].Kind, int(e.Answer.Err)}]++
			}
			if e.Kind == api.Effect && e.At < 2*place-2 {
				stamps++
			}
		}
	}
	for kind, errs := range [][]int{
		{1, 10}, {0, 9, 10, 12}, {0, 3, 5, 10, 12}, {0, 3, 4, 6, 10, 12}, {0, 1, 4, 7, 8, 10, 12}, {0, 3, 4, 10, 12}, {0, 10, 11, 12}, {0}, {1, 10},
	} {
		for _, err := range errs {
			if n := ends[[2]int{kind, err}]; n < 5 {
				t.Errorf("the Kind %d, the error %d: %d times", kind, err, n)
			}
		}
	}
	if stamps < 20 {
		t.Errorf("%d effects were ahead of others' events", stamps)
	}
}

// orders goes from the front through each order of its tasks, as far as it wasn't there yet, and
// has each way's end checked; it answers how many there are.
func orders(t *testing.T, a course, met map[string]bool) int {
	t.Helper()
	key := fmt.Sprint(a.h)
	if met[key] {
		return 0
	}
	met[key] = true
	ends, moved := 0, false
	for task := range len(a.h.Clients) + len(a.h.Workers) {
		if !Enabled(a.h, task) {
			continue
		}
		moved = true
		then := course{a.h, map[int]api.Answer{}}
		for i, x := range a.had {
			then.had[i] = x
		}
		ends += orders(t, then.next(t, task), met)
	}
	if !moved {
		checkRest(t, a.h)
		return 1
	}
	return ends
}

// Small fronts, in each order of their tasks' steps.
func TestEachOrder(t *testing.T) { // P22.2, P22.3
	g, s, c := request(api.Grant), request(api.Snapshot), request(api.Close)
	e, l, q := request(api.Exact, 1), request(api.Release, 1), request(api.Query, 1)
	for i, x := range []struct {
		prefix, workers, places int
		asks                    [][]api.Ask
	}{
		{31, 2, 2, [][]api.Ask{{e}, {e}}},
		{31, 2, 2, [][]api.Ask{{e}, {l}}},
		{31, 2, 1, [][]api.Ask{{e, q}, {l}}},
		{31, 2, 2, [][]api.Ask{{e}, {s}}},
		{31, 2, 2, [][]api.Ask{{g}, {e}}},
		{31, 1, 1, [][]api.Ask{{g, l}, {e, s}}},
		{31, 1, 2, [][]api.Ask{{e, request(api.Batch, 1)}, {q, c, q}}},
		{31, 3, 1, [][]api.Ask{{q}, {c}, {e}}},
		{31, 2, 1, [][]api.Ask{{request(api.Batch, 0, 1)}, {s}}},
		{31, 2, 2, [][]api.Ask{{g}, {g}}},
		{31, 2, 2, [][]api.Ask{{c}, {}, {c, g}}},
	} {
		h := opened(t, conf(x.prefix, 1, x.workers, x.places, 1, 0), x.asks...)
		if n := orders(t, course{h, map[int]api.Answer{}}, map[string]bool{}); n < 2 {
			t.Errorf("%d: %d ends", i, n)
		}
	}
}

// A block of the most addresses, and the most clients, workers and places.
func TestTheLargestFront(t *testing.T) { // P22.2, P22.3
	c := conf(16, 64, 64, 64, 8, 0)
	asks := make([][]api.Ask, 8)
	for i := range asks {
		for k := range 32 {
			asks[i] = append(asks[i], []api.Ask{request(api.Grant), request(api.Exact, 65535-i-k), request(api.Release, i*k+1), request(api.Query, k+1)}[k%4])
		}
	}
	checkRest(t, rested(t, opened(t, c, asks...)))
}

// spot is a field, or a list, somewhere in something: the way there, and it.
type spot struct {
	path string
	v    reflect.Value
}

// spots are all of them, those of what is in lists too.
func spots(path string, v reflect.Value) []spot {
	l := []spot{{path, v}}
	switch v.Kind() {
	case reflect.Slice:
		for i := range v.Len() {
			l = append(l, spots(path+"["+strconv.Itoa(i)+"]", v.Index(i))...)
		}
	case reflect.Struct:
		l = nil
		for i := range v.NumField() {
			l = append(l, spots(path+"."+v.Type().Field(i).Name, v.Field(i))...)
		}
	}
	return l
}

// others are what else may stand there: another number, and none; the other truth; a list with one
// less, with one more, and with none.
func others(v reflect.Value) []reflect.Value {
	to := reflect.New(v.Type()).Elem()
	switch v.Kind() {
	case reflect.Slice:
		more := reflect.Append(v.Slice3(0, v.Len(), v.Len()), odd(v.Type().Elem(), 2))
		return []reflect.Value{v.Slice(0, v.Len()-1), more, to}
	case reflect.Bool:
		to.SetBool(!v.Bool())
	case reflect.Int:
		to.SetInt(v.Int() + 1)
		return []reflect.Value{to, reflect.Zero(v.Type())}
	default:
		to.SetUint(v.Uint() ^ 1<<31)
	}
	return []reflect.Value{to}
}

// Fronts that differ in one field alone, each field of each of their parts, aren't the same; those
// that don't are.
func TestSameFieldByField(t *testing.T) { // P22.2
	a, b := odd(reflect.TypeFor[api.Hall](), 2).Interface().(api.Hall), odd(reflect.TypeFor[api.Hall](), 2)
	same := func() bool {
		x, y := Same(a, b.Interface().(api.Hall)), Same(b.Interface().(api.Hall), a)
		if x != y {
			t.Errorf("one way they are the same, the other way they aren't: %+v", b)
		}
		return x
	}
	all := spots("", b)
	for _, s := range all {
		was := reflect.New(s.v.Type()).Elem()
		was.Set(s.v)
		for _, x := range others(was) {
			s.v.Set(x)
			if same() {
				t.Errorf("%s: %v instead of %v, and they are the same", s.path, x, was)
			}
		}
		s.v.Set(was)
		if !same() {
			t.Fatalf("%s: put back, and they aren't the same", s.path)
		}
	}
	if len(all) < 150 {
		t.Errorf("%d places", len(all))
	}
}

// What blocks differ in: the Base, and the Prefix.
func TestSameOfBlocks(t *testing.T) { // P22.2
	for _, x := range []api.Block{{}, {Base: 1}, {Prefix: 1}, {Base: base, Prefix: 26}} {
		for _, y := range []api.Block{{}, {Base: 1}, {Prefix: 1}, {Base: base, Prefix: 26}} {
			if Same(api.Hall{Conf: api.Conf{Block: x}}, api.Hall{Conf: api.Conf{Block: y}}) != (x.Base == y.Base && x.Prefix == y.Prefix) {
				t.Errorf("%+v, %+v", x, y)
			}
		}
	}
}

// emptied is the front with each list that has nothing in it empty, or nil.
func emptied(h api.Hall, empty bool) api.Hall {
	v := reflect.New(reflect.TypeFor[api.Hall]()).Elem()
	v.Set(reflect.ValueOf(copied(h)))
	for _, s := range spots("", v) {
		if s.v.Kind() == reflect.Slice && s.v.Len() == 0 {
			s.v.Set(reflect.Zero(s.v.Type()))
			if empty {
				s.v.Set(reflect.MakeSlice(s.v.Type(), 0, 0))
			}
		}
	}
	return v.Interface().(api.Hall)
}

// moments are fronts of all that there may be: some of each run, with the tasks.
func moments(t *testing.T, f func(h api.Hall, task int)) {
	t.Helper()
	for seed := range 60 {
		r := random(seed + 5000)
		h := r.someFront(t)
		for range 90 {
			task := r.task(h, seed%4)
			if r.below(2) == 0 {
				f(h, task)
			}
			h = does(t, h, task)
		}
	}
}

// Nil and empty lists are one, handed in and answered, and so are fronts of them.
func TestNilAndEmptyLists(t *testing.T) { // P22.1, P22.2
	moments(t, func(h api.Hall, task int) {
		a, b := emptied(h, false), emptied(h, true)
		if !Same(a, b) || !Same(b, a) || Enabled(a, task) != Enabled(b, task) {
			t.Errorf("%+v, %+v: the task %d", a, b, task)
		}
		if x, y := Step(a, task), Step(b, task); !Same(x, y) || !alike(x, y) {
			t.Errorf("%+v, %+v: the task %d", x, y, task)
		}
	})
	empty := []api.Ask{{Kind: api.Batch, Addrs: []uint32{}}}
	a, _ := New(conf(30, 1, 1, 1, 1), [][]api.Ask{nil, {{Kind: api.Batch}}})
	b, err := New(conf(30, 1, 1, 1, 1, []int{}...), [][]api.Ask{{}, empty})
	if err != api.OK || !Same(a, b) || !alike(a, b) {
		t.Errorf("%+v, %+v", a, b)
	}
	if a, _ = New(conf(30, 1, 1, 1, 1), [][]api.Ask{}); !Same(a, opened(t, conf(30, 1, 1, 1, 1))) {
		t.Errorf("%+v", a)
	}
}

// text is all that is in something, the room behind its lists included.
func text(b *strings.Builder, v reflect.Value) {
	switch v.Kind() {
	case reflect.Slice:
		fmt.Fprint(b, v.Len(), "[")
		v = v.Slice(0, v.Cap())
		for i := range v.Len() {
			text(b, v.Index(i))
		}
		b.WriteString("]")
	case reflect.Struct:
		for i := range v.NumField() {
			text(b, v.Field(i))
		}
	default:
		fmt.Fprint(b, v.Interface(), " ")
	}
}
func whole(x any) string {
	var b strings.Builder
	text(&b, reflect.ValueOf(x))
	return b.String()
}

// What is handed in stays, with the room behind its lists, which is nothing to the answer.
func TestWhatIsHandedInStays(t *testing.T) { // P22.4
	moments(t, func(h api.Hall, task int) {
		a, b := roomy(h, 2), roomy(h, 3)
		was, other := whole(a), whole(b)
		got, is := Step(a, task), Enabled(a, task)
		if !Same(a, b) || is != Enabled(h, task) || !Same(got, Step(h, task)) {
			t.Errorf("%+v: the task %d: the room is something to it", h, task)
		}
		if whole(a) != was || whole(b) != other {
			t.Errorf("%+v: the task %d: it changed to %+v", h, task, a)
		}
		c, asks := roomy(h.Conf, 2), [][]api.Ask(nil)
		for _, one := range h.Clients {
			asks = append(asks, one.Asks)
		}
		asks = roomy(asks, 2)
		was, other = whole(c), whole(asks)
		if _, err := New(c, asks); err != api.OK || whole(c) != was || whole(asks) != other {
			t.Errorf("%+v, %+v: they changed, or %d", c, asks, err)
		}
	})
}

// memory is where a list is, the room behind it included.
type memory struct {
	spot
	from, to uintptr
}

// memories are where all lists are that have room for something.
func memories(x any) []memory {
	var l []memory
	for _, s := range spots("", reflect.ValueOf(x)) {
		if s.v.Kind() == reflect.Slice && s.v.Cap() > 0 {
			l = append(l, memory{s, s.v.Pointer(), s.v.Pointer() + uintptr(s.v.Cap())*s.v.Type().Elem().Size()})
		}
	}
	return l
}

func (m memory) meets(n memory) bool { return m.from < n.to && n.from < m.to }

// apart holds it that no two lists of one answer share memory.
func apart(t *testing.T, what, x any) {
	t.Helper()
	l := memories(x)
	for i, m := range l {
		for _, n := range l[:i] {
			if m.meets(n) {
				t.Errorf("%+v: %s and %s share memory", what, n.path, m.path)
			}
		}
	}
}

// shared holds it that two share no list but such as stand at one place, and are the same; and it
// answers these.
func shared(t *testing.T, what, x, y any) map[string]bool {
	t.Helper()
	met, l := map[string]bool{}, memories(y)
	for _, m := range memories(x) {
		for _, n := range l {
			if !m.meets(n) {
				continue
			}
			if m.path != n.path || !equal(m.v, n.v) {
				t.Errorf("%+v: %s and %s share memory", what, m.path, n.path)
			}
			met[m.path] = true
		}
	}
	return met
}

// What is answered is new memory, but what stays as it was.
func TestWhatIsAnsweredIsNewMemory(t *testing.T) { // P22.4
	changed := map[string]int{}
	moments(t, func(h api.Hall, task int) {
		h = roomy(h, 1)
		a, b := Step(h, task), Step(h, task)
		apart(t, h, a)
		stayed := shared(t, h, a, h)
		for path := range shared(t, h, a, b) {
			if !stayed[path] {
				t.Errorf("%+v: the task %d: two answers share %s", h, task, path)
			}
		}
		for _, m := range memories(a) {
			if !stayed[m.path] {
				changed[strings.TrimRight(m.path, "[]0123456789")]++
			}
		}
	})
	for _, path := range []string{".Cells", ".Queue.Items", ".Clients", ".Workers", ".Mails", ".Log"} {
		if changed[path] < 10 {
			t.Errorf("%s was made %d times", path, changed[path])
		}
	}
}

// New keeps nothing of what it is handed, though that has one list at many places.
func TestNewsMemory(t *testing.T) { // P22.4
	addrs := roomy([]uint32{base + 1, base + 2}, 2)
	asks := roomy([]api.Ask{{Kind: api.Batch}, {Kind: api.Query, Addr: base + 1}, {Kind: api.Batch}}, 1)
	for i := range asks {
		asks[i].Addrs = addrs
	}
	clients := [][]api.Ask{asks, asks, asks[:2]}
	c := roomy(conf(26, 1, 3, 2, 1, 0, 33), 2)
	a, _ := New(c, clients)
	b, _ := New(c, clients)
	apart(t, "New", a)
	for _, x := range []any{b, c, clients, addrs, asks} {
		if l := shared(t, "New", a, x); len(l) > 0 {
			t.Errorf("%v is shared", l)
		}
	}
	addrs[0], asks[1].Kind, c.Held[1] = 0, 0, 0
	if !alike(a, b) || a.Clients[0].Asks[0].Addrs[0] != base+1 || a.Conf.Held[1] != 33 || a.Clients[2].Asks[1].Kind != api.Query {
		t.Errorf("%+v", a)
	}
}

// The same is answered each time.
func TestAnswersHangOnArgumentsAlone(t *testing.T) { // P22.1, P22.2
	moments(t, func(h api.Hall, task int) {
		a, is := Step(h, task), Enabled(h, task)
		for range 2 {
			if !alike(Step(copied(h), task), a) || Enabled(copied(h), task) != is {
				t.Errorf("%+v: the task %d", h, task)
			}
		}
	})
}

// someNumber is one of interest.
func (r *random) someNumber() int {
	return []int{math.MinInt, -65536, -1, 0, 0, 1, 1, 2, 3, 7, 31, 64, 65536, math.MaxInt}[r.below(14)]
}

// strange is a front of no kind in particular.
func (r *random) strange() api.Hall {
	lists := [][]uint32{nil, {}, {math.MaxUint32}, {0, 1 << 31, base}, slices.Repeat([]uint32{base}, 80)}
	few := [][]uint64{nil, {5}, {5, all, 5}, slices.Repeat([]uint64{low}, 40)}
	one := func() api.Ask {
		return api.Ask{Kind: r.below(10) - 1, Addr: base + uint32(r.below(5)), Addrs: lists[r.below(5)]}
	}
	numbers := func() []int {
		var l []int
		for range r.below(4) {
			l = append(l, r.someNumber())
		}
		return l
	}
	h := api.Hall{
		Conf: api.Conf{
			Block: api.Block{Base: base, Prefix: []int{math.MinInt, -1, 0, 15, 16, 26, 27, 30, 32, 33, math.MaxInt}[r.below(11)]},
			Held:  numbers(), Shards: r.someNumber(), Workers: r.someNumber(), Queue: r.someNumber(), Tries: r.someNumber(),
		},
		Cells: few[r.below(4)],
		Queue: api.Queue{Cap: r.someNumber(), Items: numbers(), Closed: r.below(2) == 0},
		Log:   make([]api.Event, r.below(3)),
	}
	for range r.below(4) {
		h.Clients = append(h.Clients, api.Client{Asks: []api.Ask{one(), one(), one()}[r.below(4):], Next: r.someNumber(), Waits: r.below(2) == 0})
	}
	for range r.below(4) {
		h.Mails = append(h.Mails, api.Mail{Is: r.below(3) != 0, Answer: api.Answer{Addrs: lists[r.below(5)]}})
	}
	for range r.below(4) {
		n := r.someNumber()
		o := api.Op{
			Ask: one(), Phase: r.below(12) - 1, Shard: n, Sought: r.someNumber(), Leaf: r.someNumber(), Bit: r.someNumber(), Word: 5, Full: r.below(2) == 0,
			Seen: few[r.below(4)], At: r.someNumber(), Tries: n, Item: n, Stamp: r.someNumber(), Answer: api.Answer{Addrs: lists[r.below(5)]},
		}
		h.Workers = append(h.Workers, api.Worker{Works: r.below(3) != 0, Done: r.below(2) == 0, For: r.someNumber(), Op: o})
	}
	return h
}

// The chapter promises nothing of these but that the calls end, don't panic, and leave what they
// are handed as it is.
func TestNothingPanics(t *testing.T) { // P1
	r, ran := random(3), 0
	for range 30000 {
		h := r.strange()
		was := h
		for _, task := range []int{r.below(9) - 1, r.someNumber()} {
			if Enabled(h, task) {
				ran++
			}
			h = Step(h, task)
			Same(h, was)
			Same(was, h)
		}
		New(h.Conf, [][]api.Ask{{request(api.Grant)}})
	}
	if ran < 5000 {
		t.Errorf("%d steps", ran)
	}
}

// A zero front has no tasks.
func TestAZeroFront(t *testing.T) { // P22.2
	stays(t, api.Hall{}, 0, 1)
}

package op

import (
	"reflect"
	"slices"
	"testing"

	"lodger/api"
)

// roomy is l with such a one behind its length, so that a write there shows.
func roomy[T any](room T, l ...T) []T { return append(slices.Clone(l), room, room)[:len(l)] }

// whole is an operation none of whose fields is zero, and whose lists have room behind them.
func whole() api.Op {
	return api.Op{
		Ask:    api.Ask{Kind: api.Batch, Addr: 3, Addrs: roomy(77, uint32(5), 6)},
		Answer: api.Answer{Err: api.ErrRetry, Addr: 7, Used: true, Addrs: roomy(77, uint32(4), 5), Errs: roomy(api.ErrBusy, api.ErrFree, api.OK)},
		Phase:  api.PhMark, Shard: 1, Sought: 2, Leaf: 9, Bit: 17, Word: 99, Full: true,
		Seen: roomy(77, uint64(21), 22, 23), At: 1, Tries: 3, Item: 6, Stamp: 8,
	}
}

// rooms are the operation's lists with the room behind them.
func rooms(o api.Op) []any {
	return []any{o.Ask.Addrs[:4], o.Answer.Addrs[:4], o.Answer.Errs[:4], o.Seen[:5]}
}

// fill writes x into a list, and into the room behind it.
func fill[T any](l []T, x T) {
	for i := range l[:cap(l)] {
		l[:cap(l)][i] = x
	}
}

func TestOwnIsTheSameOperation(t *testing.T) {
	for _, o := range []api.Op{{}, whole(), {Answer: api.Answer{Addrs: []uint32{1}}}, {Seen: []uint64{1}}} {
		if got := Own(o); !reflect.DeepEqual(got, o) {
			t.Errorf("%+v, not %+v", got, o)
		}
	}
}

func TestOwnHasListsOfItsOwn(t *testing.T) {
	o, was := whole(), whole()
	one, other := Own(o), Own(o)
	fill(one.Ask.Addrs, 1234)
	fill(one.Answer.Addrs, 1234)
	fill(one.Answer.Errs, 1234)
	fill(one.Seen, 1234)
	if !reflect.DeepEqual(o, was) || !reflect.DeepEqual(rooms(o), rooms(was)) {
		t.Errorf("a write into the answer shows in what was handed in: %+v", o)
	}
	if !reflect.DeepEqual(other, was) {
		t.Errorf("a write into an answer shows in another one: %+v", other)
	}
}

// Lists that shared memory when they were handed in share none any more.
func TestOwnPartsListsThatWereOne(t *testing.T) {
	one := []uint32{5, 6}
	got := Own(api.Op{Ask: api.Ask{Addrs: one}, Answer: api.Answer{Addrs: one}})
	fill(got.Answer.Addrs, 1234)
	if !slices.Equal(got.Ask.Addrs, []uint32{5, 6}) {
		t.Errorf("%v", got.Ask.Addrs)
	}
}

// Elsewhere is held against chapters' words: in the next shard, while there is one, all but
// these fields stays.
func TestElsewhere(t *testing.T) {
	for _, shards := range []int{1, 2, 3, 64} {
		for sought := range 130 {
			o := whole()
			o.Sought = sought
			want := o
			want.Sought, want.Word, want.At, want.Phase = sought+1, 0, 0, api.PhSeek
			if sought >= shards-1 {
				want.Phase, want.Seen = api.PhFirst, nil
			}
			if got := Elsewhere(api.Conf{Shards: shards}, o); !reflect.DeepEqual(got, want) {
				t.Fatalf("%d shards, %d sought: %+v", shards, sought, got)
			}
		}
	}
}

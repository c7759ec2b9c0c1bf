// Package op stands beside the layers: what they do alike to operations.
package op

import (
	"slices"

	"lodger/api"
)

// Own answers the operation with lists of its own. Some chapters let what the request holds
// be shared, others don't: it is its own too.
func Own(o api.Op) api.Op {
	o.Ask.Addrs = slices.Clone(o.Ask.Addrs)
	o.Answer.Addrs = slices.Clone(o.Answer.Addrs)
	o.Answer.Errs = slices.Clone(o.Answer.Errs)
	o.Seen = slices.Clone(o.Seen)
	return o
}

// Elsewhere answers the operation that found nothing in its shard: in the next one or, with
// all of them sought, at the beginning of a sweep. Its lists are as they are.
func Elsewhere(c api.Conf, o api.Op) api.Op {
	o.Sought, o.Word, o.At = o.Sought+1, 0, 0
	if o.Sought < c.Shards {
		o.Phase = api.PhSeek
		return o
	}
	o.Phase, o.Seen = api.PhFirst, nil
	return o
}

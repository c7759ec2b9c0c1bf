// Package op stands beside the layers: what they do alike to operations.
package op

import (
	"slices"

	"lodger/api"
)

// Own answers the operation with lists of its own; what the request holds is nobody's to
// write into, and is shared.
func Own(o api.Op) api.Op {
	o.Answer.Addrs = slices.Clone(o.Answer.Addrs)
	o.Answer.Errs = slices.Clone(o.Answer.Errs)
	o.Seen = slices.Clone(o.Seen)
	return o
}

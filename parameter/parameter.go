// Package parameter says which parameters there are, and orders them. It belongs to no layer: all layers may use it.
package parameter

import (
	"cmp"

	"luminaire/api"
)

// Check returns OK for parameters, and otherwise ErrRange.
func Check(p api.Param) api.Errno {
	if p.Channel < 1 || p.Channel > api.MaxChannel || p.Attr < 0 || p.Attr >= api.Attrs {
		return api.ErrRange
	}
	return api.OK
}

// Compare compares parameters, or other pairs of ints, by their channels, and then by their attributes.
func Compare(a, b api.Param) int {
	return cmp.Or(cmp.Compare(a.Channel, b.Channel), cmp.Compare(a.Attr, b.Attr))
}

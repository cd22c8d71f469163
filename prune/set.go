package prune

import (
	"bytes"
	"iter"
	"maps"
	"slices"

	"bailee/api"
)

// set is some ids.
type set map[api.Id]struct{}

// add puts ids into it.
func (s set) add(l ...api.Id) {
	for _, id := range l {
		s[id] = struct{}{}
	}
}

// rising tells its ids in order: a map has none.
func (s set) rising() iter.Seq[api.Id] {
	return slices.Values(slices.SortedFunc(maps.Keys(s), compare))
}

// compare is below 0 where an id is ahead of another one, above 0 where it is behind it.
func compare(a, b api.Id) int { return bytes.Compare(a[:], b[:]) }

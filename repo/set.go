package repo

import "bailee/api"

// set is some ids.
type set map[api.Id]struct{}

// setOf has these.
func setOf(l []api.Id) set {
	s := set{}
	for _, id := range l {
		s.add(id)
	}
	return s
}

// has tells whether an id is in it.
func (s set) has(id api.Id) bool {
	_, is := s[id]
	return is
}

// add puts an id into it, and tells whether it is new there.
func (s set) add(id api.Id) bool {
	if s.has(id) {
		return false
	}
	s[id] = struct{}{}
	return true
}

package repo

import (
	"bytes"
	"maps"

	"bailee/api"
	"bailee/dedup"
	"bailee/packs"
)

// shelf is packs that are there, and the blobs of those that were opened: each is opened once in a call.
type shelf struct {
	there map[api.Id][]byte
	blobs map[api.Id][][]byte
}

// shelfOf has all packs of a repo that are there.
func shelfOf(r *Repo) shelf { return shelf{r.there, map[api.Id][][]byte{}} }

// blob is the one at a place; nil: there is none.
func (s shelf) blob(p dedup.Place) []byte {
	l, is := s.blobs[p.Pack]
	if !is {
		// A pack that isn't there has no bytes, which are refused, too.
		l, _ = packs.Get(s.there[p.Pack])
		s.blobs[p.Pack] = l
	}
	if p.N >= len(l) {
		return nil
	}
	return l[p.N]
}

// sealed is an object, and its blob.
type sealed struct {
	id   api.Id
	blob []byte
}

// pack is a new one, and its objects, in order.
type pack struct {
	id      api.Id
	bytes   []byte
	objects []api.Id
}

// fill tells which packs blobs come into; they aren't there as yet.
func (r *Repo) fill(l []sealed) ([]pack, api.Errno) {
	var sizes []int
	for _, x := range l {
		sizes = append(sizes, len(x.blob))
	}
	filled, err := packs.Fill(sizes, r.config.Pack)
	if err != api.OK {
		return nil, api.ErrBig
	}
	var fresh []pack
	for _, numbers := range filled {
		p, err := together(l, numbers)
		if err != api.OK {
			return nil, err
		}
		fresh = append(fresh, p)
	}
	if r.clash(fresh) {
		return nil, api.ErrTwice
	}
	return fresh, api.OK
}

// together is a pack of some of the blobs, by their numbers.
func together(l []sealed, numbers []int) (pack, api.Errno) {
	var p pack
	var blobs [][]byte
	for _, n := range numbers {
		p.objects = append(p.objects, l[n].id)
		blobs = append(blobs, l[n].blob)
	}
	b, err := packs.Put(blobs)
	if err != api.OK {
		return pack{}, api.ErrBig
	}
	p.id, p.bytes = packs.Id(b), b
	return p, api.OK
}

// clash tells whether other bytes are known by a new pack's id.
func (r *Repo) clash(fresh []pack) bool {
	// Of two new ones the first counts as there for the second.
	there := maps.Clone(r.there)
	for _, p := range fresh {
		if b, is := there[p.id]; is && !bytes.Equal(b, p.bytes) {
			return true
		}
		there[p.id] = p.bytes
	}
	return false
}

// take lets new packs be there, with their objects; their ids.
func (r *Repo) take(fresh []pack) []api.Id {
	var ids []api.Id
	for _, p := range fresh {
		r.there[p.id] = p.bytes
		for n, id := range p.objects {
			r.places.Add(id, dedup.Place{Pack: p.id, N: n})
		}
		ids = append(ids, p.id)
	}
	return ids
}

// Rewrite takes packs away, and puts those of their objects that are needed into new ones.
func (r *Repo) Rewrite(packs []api.Id, needed []api.Id) ([]api.Id, api.Errno) {
	if !r.made() {
		return nil, api.ErrArg
	}
	stay, err := r.pick(packs, needed)
	if err != api.OK {
		return nil, err
	}
	fresh, err := r.fill(stay)
	if err != api.OK {
		return nil, err
	}
	for _, id := range packs {
		r.places.Drop(id)
		delete(r.there, id)
	}
	// Behind the others' end: a new pack may have the bytes, and so the id, of one that was taken away.
	return r.take(fresh), api.OK
}

// pick are the blobs of those needed objects, each once, that are in some packs.
func (r *Repo) pick(packs, needed []api.Id) ([]sealed, api.Errno) {
	among, picked := setOf(packs), set{}
	s := shelfOf(r)
	var l []sealed
	for _, id := range needed {
		p, is := r.places.Find(id)
		if !is || !among.has(p.Pack) || !picked.add(id) {
			continue
		}
		blob := s.blob(p)
		if blob == nil {
			return nil, api.ErrBroken
		}
		l = append(l, sealed{id, blob})
	}
	return l, api.OK
}

package repo

import (
	"bytes"
	"slices"
	"strings"

	"bailee/api"
	"bailee/cutter"
	"bailee/dedup"
	"bailee/files"
	"bailee/objects"
	"bailee/seal"
)

// backup is one that is under way: it only reads the repo, which changes when nothing can fail any more.
type backup struct {
	*Repo
	shelf shelf
	fresh []object          // that have no place as yet, in order
	plain map[api.Id][]byte // their bytes
}

// object is what an object is known by, and its kind.
type object struct {
	id   api.Id
	kind byte
}

// Backup makes a snapshot of a tree; the packs that are new.
func (r *Repo) Backup(l []files.File, label string) (api.Id, []api.Id, api.Errno) {
	if !r.made() {
		return api.Id{}, nil, api.ErrArg
	}
	if err := files.Check(l); err != api.OK {
		return api.Id{}, nil, err
	}
	b := &backup{Repo: r, shelf: shelfOf(r), plain: map[api.Id][]byte{}}
	snap, err := b.snap(l, label)
	if err != api.OK {
		return api.Id{}, nil, err
	}
	blobs, err := b.seal()
	if err != api.OK {
		return api.Id{}, nil, err
	}
	fresh, err := b.fill(blobs)
	if err != api.OK {
		return api.Id{}, nil, err
	}
	r.next += uint64(len(blobs))
	r.done++
	// One that was got may be made once more.
	r.snaps = append(without(r.snaps, snap), snap)
	return snap, r.take(fresh), api.OK
}

// snap keeps a tree, and what it is at this moment.
func (b *backup) snap(l []files.File, label string) (api.Id, api.Errno) {
	top, err := b.tree(l)
	if err != api.OK {
		return api.Id{}, err
	}
	return b.keep(objects.Object{Kind: objects.Snap, Size: b.done + 1, Ids: []api.Id{top}, Label: label})
}

// tree keeps all directories and files of a tree; the top's id.
func (b *backup) tree(l []files.File) (api.Id, api.Errno) {
	texts := map[string][]byte{}
	for _, f := range l {
		texts[f.Path] = f.Bytes
	}
	var dir func(path string) (api.Id, api.Errno)
	dir = func(path string) (api.Id, api.Errno) {
		entries := stand(l, path)
		for i, e := range entries {
			below := join(path, e.Name)
			var err api.Errno
			if e.Dir {
				entries[i].Id, err = dir(below)
			} else {
				entries[i].Id, err = b.file(texts[below])
			}
			if err != api.OK {
				return api.Id{}, err
			}
		}
		return b.keep(objects.Object{Kind: objects.Dir, Entries: entries})
	}
	return dir("")
}

// stand are the names in a directory, rising, without their ids.
func stand(l []files.File, dir string) []objects.Entry {
	names, dirs := files.Under(l, dir)
	var entries []objects.Entry
	for i, name := range names {
		entries = append(entries, objects.Entry{Name: name, Dir: dirs[i]})
	}
	// They are told as their paths rise, which isn't as names do: a!, and then a, of a!, a/b.
	slices.SortFunc(entries, func(x, y objects.Entry) int { return strings.Compare(x.Name, y.Name) })
	return entries
}

// file keeps a file: its pieces, and the list of these.
func (b *backup) file(text []byte) (api.Id, api.Errno) {
	pieces, err := cutter.Pieces(text, b.config.Cut)
	if err != api.OK {
		return api.Id{}, err
	}
	list := objects.Object{Kind: objects.List, Size: uint64(len(text))}
	for _, piece := range pieces {
		id, err := b.keep(objects.Object{Kind: objects.Piece, Bytes: piece})
		if err != api.OK {
			return api.Id{}, err
		}
		list.Ids = append(list.Ids, id)
	}
	return b.keep(list)
}

// keep lets an object be fresh, unless it has a place or is so already; its id.
func (b *backup) keep(x objects.Object) (api.Id, api.Errno) {
	plain, err := objects.Put(x)
	// Asked ahead of sealing: also what isn't sealed, as it has a place, must be no more than may be.
	if err != api.OK || len(plain) > api.MaxBlob {
		return api.Id{}, api.ErrBig
	}
	id := seal.Name(b.key, plain)
	was, known := b.plain[id]
	p, placed := b.places.Find(id)
	if placed {
		was, known = b.open(p)
	}
	switch {
	case known && !bytes.Equal(was, plain):
		return api.Id{}, api.ErrTwice
	case !known && !placed:
		b.fresh = append(b.fresh, object{id, x.Kind})
		b.plain[id] = plain
	}
	return id, api.OK
}

// open is what was sealed at a place; false: it can't be told.
func (b *backup) open(p dedup.Place) ([]byte, bool) {
	plain, _, _, err := seal.Open(b.key, b.shelf.blob(p))
	return plain, err == api.OK
}

// seal are the blobs of what is fresh, each under a number of its own.
func (b *backup) seal() ([]sealed, api.Errno) {
	var l []sealed
	for i, x := range b.fresh {
		blob, err := seal.Seal(b.key, x.kind, b.next+uint64(i), b.plain[x.id])
		if err != api.OK {
			return nil, api.ErrBig
		}
		l = append(l, sealed{x.id, blob})
	}
	return l, api.OK
}

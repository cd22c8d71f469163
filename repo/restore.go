package repo

import (
	"slices"
	"strings"

	"bailee/api"
	"bailee/files"
	"bailee/objects"
	"bailee/seal"
)

// slash stands between the names of a path.
const slash = "/"

// What a tree has at most.
const (
	mostFiles = 1 << 16
	mostBytes = 1 << 24
)

// Restore is a snapshot's tree, and its label.
func (r *Repo) Restore(snap api.Id) ([]files.File, string, api.Errno) {
	f, err := r.find(snap, true)
	if err != api.OK {
		return nil, "", err
	}
	x := f.of[snap]
	l, is := f.tree(x.Ids[0])
	if !is {
		return nil, "", api.ErrBroken
	}
	return l, x.Label, api.OK
}

// Objects are all objects that a snapshot needs, it itself first.
func (r *Repo) Objects(snap api.Id) ([]api.Id, api.Errno) {
	f, err := r.find(snap, false)
	if err != api.OK {
		return nil, err
	}
	return f.told, api.OK
}

// found is what was read of a snapshot.
type found struct {
	of   map[api.Id]objects.Object
	told []api.Id // also of pieces that weren't read, in the order in which each came up first
}

// find reads a snapshot, top down; an object is read once, however many name it.
func (r *Repo) find(snap api.Id, pieces bool) (found, api.Errno) {
	switch {
	case !r.made():
		return found{}, api.ErrArg
	case !slices.Contains(r.snaps, snap):
		return found{}, api.ErrNone
	}
	f, told, s := found{of: map[api.Id]objects.Object{}}, set{}, shelfOf(r)
	sound := true
	var down func(id api.Id, kind byte) api.Errno
	down = func(id api.Id, kind byte) api.Errno {
		if told.add(id) {
			f.told = append(f.told, id)
		}
		if kind == objects.Piece && !pieces {
			return api.OK
		}
		x, is := f.of[id]
		if !is {
			var err api.Errno
			if x, err = r.object(s, id); err != api.OK {
				return err
			}
		}
		// Of another kind: told behind all that can't be read, and nothing that it names is asked for here.
		if x.Kind != kind {
			sound = false
			return api.OK
		}
		if is {
			return api.OK
		}
		f.of[id] = x
		for i, id := range objects.Below(x) {
			if err := down(id, must(x, i)); err != api.OK {
				return err
			}
		}
		return api.OK
	}
	if err := down(snap, objects.Snap); err != api.OK {
		return found{}, err
	}
	if !sound {
		return found{}, api.ErrBroken
	}
	return f, api.OK
}

// must is the kind that the i-th object that one names must be of.
func must(x objects.Object, i int) byte {
	switch {
	case x.Kind == objects.List:
		return objects.Piece
	case x.Kind == objects.Dir && !x.Entries[i].Dir:
		return objects.List
	}
	return objects.Dir
}

// object reads one.
func (r *Repo) object(s shelf, id api.Id) (objects.Object, api.Errno) {
	p, is := r.places.Find(id)
	if !is {
		return objects.Object{}, api.ErrNone
	}
	plain, kind, _, err := seal.Open(r.key, s.blob(p))
	if err != api.OK || seal.Name(r.key, plain) != id {
		return objects.Object{}, api.ErrBroken
	}
	x, err := objects.Get(plain)
	if err != api.OK || x.Kind != kind {
		return objects.Object{}, api.ErrBroken
	}
	return x, api.OK
}

// tree are the files of a directory, in order; false: they are no tree.
func (f found) tree(top api.Id) ([]files.File, bool) {
	var l []files.File
	all := 0
	bare := set{}
	var dir func(id api.Id, path string) bool
	dir = func(id api.Id, path string) bool {
		// Few objects may be very many directories: those that no file comes of are gone through once.
		if bare.has(id) {
			return true
		}
		ahead := len(l)
		for _, e := range f.of[id].Entries {
			below := join(path, e.Name)
			if e.Dir {
				if !dir(e.Id, below) {
					return false
				}
				continue
			}
			text, whole := f.text(e.Id)
			all += len(text)
			l = append(l, files.File{Path: below, Bytes: text})
			// Asked here, too: it might take very long till Check could ask it of all.
			if !whole || !files.Path(below) || len(l) > mostFiles || all > mostBytes {
				return false
			}
		}
		if len(l) == ahead {
			bare.add(id)
		}
		return true
	}
	if !dir(top, "") {
		return nil, false
	}
	// Names rise, which isn't as paths do: a/b, and then a!.
	slices.SortFunc(l, func(x, y files.File) int { return strings.Compare(x.Path, y.Path) })
	return l, files.Check(l) == api.OK
}

// text are a file's bytes; false: its pieces haven't its size.
func (f found) text(list api.Id) ([]byte, bool) {
	x := f.of[list]
	var b []byte
	for _, id := range x.Ids {
		b = append(b, f.of[id].Bytes...)
	}
	return b, uint64(len(b)) == x.Size
}

// join is the path of a name in a directory.
func join(dir, name string) string {
	switch {
	case dir == "":
		return name
	case len(dir) > api.MaxName:
		// Already too long for a file; however deep a tree is, it gets no longer.
		return dir
	}
	return dir + slash + name
}

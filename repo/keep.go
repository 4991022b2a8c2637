package repo

import (
	"slices"

	"aquatint/api"
	"aquatint/fsys"
	"aquatint/pack"
	"aquatint/store"
	"aquatint/vault"
)

const (
	packName     = "pack"
	collectDepth = 10
)

// reach gives what is reached from all refs: what is told, and what is not.
func (r *Repo) reach() ([]string, []string, api.Errno) {
	var keys []string
	for _, ref := range r.refs {
		keys = append(keys, ref.Key)
	}
	return r.vault.Reach(keys)
}

// live gives the keys of the live ones, if none is missing.
func (r *Repo) live() ([]string, api.Errno) {
	told, missing, e := r.reach()
	if e != api.OK {
		return nil, e
	}
	if len(missing) > 0 {
		return nil, api.ErrNone
	}
	return told, api.OK
}

// rewrite makes changes, and opens the vault anew: the pack may be another one.
func (r *Repo) rewrite(l []fsys.Change) api.Errno {
	if e := r.files.Do(l); e != api.OK || len(l) == 0 {
		return e
	}
	v, e := vault.Open(r.files)
	if e != api.OK {
		return e
	}
	r.vault = v
	return api.OK
}

// Repack leaves nothing but a pack of the live ones.
func (r *Repo) Repack(depth int) api.Errno {
	if depth < 1 || depth > api.MaxDepth {
		return api.ErrRange
	}
	keys, e := r.live()
	if e != api.OK {
		return e
	}
	l, e := r.vault.Repack(keys, depth)
	if e != api.OK {
		return e
	}
	return r.rewrite(l)
}

// Collect takes all that is not live away, and tells how many objects there are fewer.
func (r *Repo) Collect() (int, api.Errno) {
	keys, e := r.live()
	if e != api.OK {
		return 0, e
	}
	l, e := r.lessPacked(keys)
	if e != api.OK {
		return 0, e
	}
	for _, key := range r.vault.Loose() {
		if !among(keys, key) {
			l = append(l, fsys.Change{Kind: fsys.Delete, Name: store.Place(key)})
		}
	}
	before := len(r.Objects())
	if e := r.rewrite(l); e != api.OK {
		return 0, e
	}
	return before - len(r.Objects()), api.OK
}

// among tells whether a key is one of a list that rises.
func among(keys []string, key string) bool {
	_, ok := slices.BinarySearch(keys, key)
	return ok
}

// lessPacked gives the change that leaves the live ones in the pack, if it has others.
func (r *Repo) lessPacked(live []string) ([]fsys.Change, api.Errno) {
	packed := r.vault.Packed()
	var objs [][]byte
	for _, key := range packed {
		if !among(live, key) {
			continue
		}
		b, e := r.vault.Get(key)
		if e != api.OK {
			return nil, e
		}
		objs = append(objs, b)
	}
	switch {
	case len(objs) == len(packed):
		return nil, api.OK
	case len(objs) == 0:
		return []fsys.Change{{Kind: fsys.Delete, Name: packName}}, api.OK
	}
	b, e := pack.Write(objs, collectDepth)
	if e != api.OK {
		return nil, e
	}
	return []fsys.Change{{Kind: fsys.Put, Name: packName, Data: b}}, api.OK
}

// Fsck tells the keys that are reached from the refs and are not told.
func (r *Repo) Fsck() ([]string, api.Errno) {
	_, missing, e := r.reach()
	if e != api.OK {
		return nil, e
	}
	if r.vault.Verify() != api.OK {
		return missing, api.ErrSum
	}
	return missing, api.OK
}

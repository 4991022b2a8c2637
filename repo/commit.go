package repo

import (
	"bytes"

	"aquatint/api"
	"aquatint/join"
	"aquatint/obj"
	"aquatint/pix"
	"aquatint/png"
	"aquatint/refs"
	"aquatint/sha"
	"aquatint/store"
	"aquatint/tile"
	"aquatint/word"
)

// Import commits the picture of a PNG.
func (r *Repo) Import(branch, author, text string, file []byte) (string, api.Errno) {
	p, e := png.Decode(file)
	if e != api.OK {
		return "", e
	}
	return r.Commit(branch, author, text, p)
}

// Commit puts a picture onto a branch.
func (r *Repo) Commit(branch, author, text string, pic api.Raster) (string, api.Errno) {
	if !word.Name(branch) || !word.Name(author) {
		return "", api.ErrName
	}
	if !word.Text(text) || !pix.May(pic) {
		return "", api.ErrForm
	}
	if !r.room(refs.Ref{Name: branch}) {
		return "", api.ErrLimit
	}
	s := store.NewStage()
	t, tiles, e := cut(pic)
	if e != api.OK {
		return "", e
	}
	for _, b := range tiles {
		if _, e := r.stage(s, b); e != api.OK {
			return "", e
		}
	}
	c := obj.Commit{Stamp: 1, Author: author, Text: text}
	c.Tree, e = r.stage(s, t.Bytes())
	if e != api.OK {
		return "", e
	}
	if key, ok := refs.Find(r.refs, false, branch); ok {
		parent, e := r.commit(key)
		if e != api.OK {
			return "", e
		}
		c.Parents, c.Stamp = []string{key}, parent.Stamp+1
	}
	return r.record(s, branch, c)
}

// cut gives the tree of a picture, and its tiles as objects.
func cut(pic api.Raster) (obj.Tree, [][]byte, api.Errno) {
	l, e := tile.Cut(pic)
	if e != api.OK {
		return obj.Tree{}, nil, e
	}
	t := obj.Tree{Shape: pic.Shape}
	var tiles [][]byte
	for _, x := range l {
		b := obj.Tile{Raster: x}.Bytes()
		tiles = append(tiles, b)
		t.Keys = append(t.Keys, sha.Key(b))
	}
	return t, tiles, api.OK
}

// stage stages an object, if it does not lie anywhere yet.
func (r *Repo) stage(s *store.Stage, b []byte) (string, api.Errno) {
	key := sha.Key(b)
	if r.files.Size(store.Place(key)) >= 0 || !r.vault.Has(key) {
		return s.Put(r.files, b)
	}
	// No file has it, so it lies in the pack.
	old, e := r.vault.Get(key)
	if e != api.OK {
		return "", e
	}
	if !bytes.Equal(old, b) {
		return "", api.ErrTwin
	}
	return key, api.OK
}

// record stages a commit, and sets a branch to it, with all that is staged.
func (r *Repo) record(s *store.Stage, branch string, c obj.Commit) (string, api.Errno) {
	b, e := obj.Encode(obj.KCommit, obj.Tile{}, obj.Tree{}, c)
	if e != api.OK {
		return "", e
	}
	key, e := r.stage(s, b)
	if e != api.OK {
		return "", e
	}
	if e := r.save(s.Changes(), refs.Set(r.refs, refs.Ref{Name: branch, Key: key})); e != api.OK {
		return "", e
	}
	return key, api.OK
}

// Merge puts what one branch has changed onto another one. Tiles in conflict are taken from by.
func (r *Repo) Merge(into, from, author, text string, by api.Raster) (Merged, api.Errno) {
	ours, there := refs.Find(r.refs, false, into)
	theirs, alsoThere := refs.Find(r.refs, false, from)
	switch {
	case !there || !alsoThere:
		return Merged{}, api.ErrNone
	case !word.Name(author):
		return Merged{}, api.ErrName
	case !word.Text(text):
		return Merged{}, api.ErrForm
	}
	h, e := r.walk(ours, theirs)
	if e != api.OK {
		return Merged{}, e
	}
	if h.graph.Is(theirs, ours) {
		return Merged{Key: ours}, api.OK
	}
	if h.graph.Is(ours, theirs) {
		if e := r.save(nil, refs.Set(r.refs, refs.Ref{Name: into, Key: theirs})); e != api.OK {
			return Merged{}, e
		}
		return Merged{Key: theirs}, api.OK
	}
	base, e := h.graph.Base(ours, theirs)
	if e != api.OK {
		return Merged{}, e
	}
	s := store.NewStage()
	t, mask, e := r.joined(s, base, ours, theirs, by)
	if e == api.ErrMask {
		return Merged{Mask: mask}, e
	}
	if e != api.OK {
		return Merged{}, e
	}
	stamp := max(h.commits[ours].Stamp, h.commits[theirs].Stamp) + 1
	c := obj.Commit{Parents: []string{ours, theirs}, Stamp: stamp, Author: author, Text: text}
	c.Tree, e = r.stage(s, t.Bytes())
	if e != api.OK {
		return Merged{}, e
	}
	key, e := r.record(s, into, c)
	if e != api.OK {
		return Merged{}, e
	}
	return Merged{key, mask}, api.OK
}

// joined gives the tree of three commits, and the mask. The tiles of by that are taken are staged.
func (r *Repo) joined(s *store.Stage, base, ours, theirs string, by api.Raster) (obj.Tree, []bool, api.Errno) {
	var trees [3]obj.Tree
	for i, key := range [3]string{base, ours, theirs} {
		t, e := r.tree(key)
		if e != api.OK {
			return obj.Tree{}, nil, e
		}
		trees[i] = t
	}
	t, mask, e := join.Merge(trees[0], trees[1], trees[2])
	if e != api.OK {
		return obj.Tree{}, nil, e
	}
	if join.Clean(mask) {
		return t, mask, api.OK
	}
	if len(by.Pix) == 0 {
		return obj.Tree{}, mask, api.ErrMask
	}
	other, tiles, e := cut(by)
	if e != api.OK {
		return obj.Tree{}, nil, e
	}
	t, e = join.Resolve(t, mask, other)
	if e != api.OK {
		return obj.Tree{}, nil, e
	}
	for i, taken := range mask {
		if !taken {
			continue
		}
		if _, e := r.stage(s, tiles[i]); e != api.OK {
			return obj.Tree{}, nil, e
		}
	}
	return t, mask, api.OK
}

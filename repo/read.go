package repo

import (
	"aquatint/api"
	"aquatint/dag"
	"aquatint/join"
	"aquatint/obj"
	"aquatint/png"
	"aquatint/refs"
	"aquatint/tile"
)

// commit gives the commit of a key.
func (r *Repo) commit(key string) (obj.Commit, api.Errno) {
	b, e := r.vault.Get(key)
	if e != api.OK {
		return obj.Commit{}, e
	}
	c, ok := obj.AsCommit(b)
	if !ok {
		return obj.Commit{}, api.ErrForm
	}
	return c, api.OK
}

// tree gives the tree of the commit of a key.
func (r *Repo) tree(key string) (obj.Tree, api.Errno) {
	c, e := r.commit(key)
	if e != api.OK {
		return obj.Tree{}, e
	}
	b, e := r.vault.Get(c.Tree)
	if e != api.OK {
		return obj.Tree{}, e
	}
	t, ok := obj.AsTree(b)
	if !ok {
		return obj.Tree{}, api.ErrForm
	}
	return t, api.OK
}

// history is a graph of commits, with their objects.
type history struct {
	graph   *dag.Graph
	commits map[string]obj.Commit
}

// walk gives the history that is reached from these keys.
// It goes on behind a commit that is not told: that there are too many goes ahead of that error.
func (r *Repo) walk(keys ...string) (history, api.Errno) {
	h := history{commits: map[string]obj.Commit{}}
	met := map[string]int{}
	var todo []string
	add := func(l []string) {
		for _, key := range l {
			if _, ok := met[key]; !ok {
				met[key] = len(todo)
				todo = append(todo, key)
			}
		}
	}
	var nodes []dag.Node
	wrong := api.OK
	add(keys)
	for i := 0; i < len(todo) && len(todo) <= api.MaxWalk; i++ {
		c, e := r.commit(todo[i])
		if e != api.OK {
			if wrong == api.OK {
				wrong = e
			}
			continue
		}
		h.commits[todo[i]] = c
		nodes = append(nodes, dag.Node{Key: todo[i], Parents: c.Parents, Stamp: c.Stamp})
		add(c.Parents)
	}
	if len(todo) > api.MaxWalk {
		return history{}, api.ErrLimit
	}
	if wrong != api.OK {
		return history{}, wrong
	}
	g, e := dag.New(nodes)
	if e != api.OK {
		return history{}, e
	}
	h.graph = g
	return h, api.OK
}

// Log gives the commits of a branch, the newest first.
func (r *Repo) Log(branch string) ([]Entry, api.Errno) {
	key, ok := refs.Find(r.refs, false, branch)
	if !ok {
		return nil, api.ErrNone
	}
	h, e := r.walk(key)
	if e != api.OK {
		return nil, e
	}
	var out []Entry
	for _, k := range h.graph.Log(key) {
		out = append(out, Entry{k, h.commits[k]})
	}
	return out, api.OK
}

// Diff tells which tiles of two commits differ.
func (r *Repo) Diff(a, b string) ([]int, api.Errno) {
	s, e := r.tree(a)
	if e != api.OK {
		return nil, e
	}
	t, e := r.tree(b)
	if e != api.OK {
		return nil, e
	}
	return join.Changed(s, t)
}

// Picture gives the picture of a commit.
func (r *Repo) Picture(key string) (api.Raster, api.Errno) {
	t, e := r.tree(key)
	if e != api.OK {
		return api.Raster{}, e
	}
	var tiles []api.Raster
	for _, k := range t.Keys {
		b, e := r.vault.Get(k)
		if e != api.OK {
			return api.Raster{}, e
		}
		x, ok := obj.AsTile(b)
		if !ok {
			return api.Raster{}, api.ErrForm
		}
		tiles = append(tiles, x)
	}
	return tile.Join(t.Shape, tiles)
}

// Checkout gives the picture of a commit as a PNG.
func (r *Repo) Checkout(key string) ([]byte, api.Errno) {
	p, e := r.Picture(key)
	if e != api.OK {
		return nil, e
	}
	return png.Encode(p)
}

package obj

import (
	"bytes"

	"aquatint/api"
	"aquatint/num"
	"aquatint/pix"
)

// parse gives the object whose bytes b are. Beside false it is nil.
func parse(b []byte) (Object, bool) {
	if len(b) == 0 {
		return nil, false
	}
	var o Object
	c := &cursor{rest: b[1:]}
	switch b[0] {
	case KTile:
		o = c.tile()
	case KTree:
		o = c.tree()
	case KCommit:
		o = c.commit()
	default:
		return nil, false
	}
	// What is no object has no bytes; what is one has just these.
	if c.short || !bytes.Equal(o.Bytes(), b) {
		return nil, false
	}
	return o, true
}

// cursor takes the bytes of an object from the front.
type cursor struct {
	rest  []byte
	short bool
}

// take gives the next n bytes.
func (c *cursor) take(n int) []byte {
	if n > len(c.rest) {
		c.short = true
		return make([]byte, n)
	}
	out := c.rest[:n]
	c.rest = c.rest[n:]
	return out
}

// number gives the next n bytes as a number.
func (c *cursor) number(n int) int {
	x, _ := num.ReadBig(c.take(n), 0, n)
	return x
}

// key gives the next key.
func (c *cursor) key() string {
	return num.Hex(c.take(keyLen))
}

// text gives the next text, its length ahead.
func (c *cursor) text() string {
	return string(c.take(c.number(2)))
}

// tile reads a tile behind its kind.
func (c *cursor) tile() Tile {
	r, e := pix.Decode(c.rest)
	c.short = e != api.OK
	return Tile{r}
}

// tree reads a tree behind its kind.
func (c *cursor) tree() Tree {
	s := api.Shape{W: c.number(2), H: c.number(2), Chan: c.number(1), Depth: c.number(1)}
	r := Tree{Shape: s}
	for len(c.rest) > 0 && !c.short {
		r.Keys = append(r.Keys, c.key())
	}
	return r
}

// commit reads a commit behind its kind.
func (c *cursor) commit() Commit {
	out := Commit{Tree: c.key()}
	for range min(c.number(1), maxParents) {
		out.Parents = append(out.Parents, c.key())
	}
	out.Stamp = c.number(6)
	out.Author = c.text()
	out.Text = c.text()
	return out
}

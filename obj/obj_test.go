package obj_test

import (
	"bytes"
	"math"
	"math/rand"
	"slices"
	"strings"
	"testing"

	"aquatint/api"
	"aquatint/obj"
	"aquatint/pix"
)

// key is 32 bytes x as a key.
func key(x byte) string {
	return strings.Repeat(string("0123456789abcdef"[x>>4])+string("0123456789abcdef"[x&15]), 32)
}

// raw is 32 bytes x.
func raw(x byte) []byte { return bytes.Repeat([]byte{x}, 32) }

// grey is a picture of one channel of 8 bits.
func grey(w, h int) api.Raster {
	return api.Raster{Shape: api.Shape{W: w, H: h, Chan: 1, Depth: 8}, Pix: make([]byte, w*h)}
}

// good are objects that may be, with their bytes and what they name.
func good() []struct {
	o    obj.Object
	b    []byte
	refs []string
} {
	small := grey(1, 1)
	small.Pix[0] = 7
	wide := obj.Tree{Shape: api.Shape{W: 256, H: 9, Chan: 2, Depth: 16}, Keys: slices.Repeat([]string{key(5)}, 64)}
	tall := obj.Tree{Shape: api.Shape{W: 3, H: 256, Chan: 1, Depth: 8}, Keys: slices.Repeat([]string{key(6)}, 32)}
	return []struct {
		o    obj.Object
		b    []byte
		refs []string
	}{
		{obj.Tile{Raster: small}, []byte{1, 'R', 0, 1, 0, 1, 1, 8, 7}, nil},
		{obj.Tree{Shape: small.Shape, Keys: []string{key(0xAB)}}, slices.Concat([]byte{2, 0, 1, 0, 1, 1, 8}, raw(0xAB)), []string{key(0xAB)}},
		{wide, slices.Concat([]byte{2, 1, 0, 0, 9, 2, 16}, bytes.Repeat([]byte{5}, 64*32)), wide.Keys},
		{tall, slices.Concat([]byte{2, 0, 3, 1, 0, 1, 8}, bytes.Repeat([]byte{6}, 32*32)), tall.Keys},
		{obj.Commit{Tree: key(1), Stamp: 1, Author: "u"}, slices.Concat([]byte{3}, raw(1), []byte{0, 0, 0, 0, 0, 0, 1, 0, 1, 'u', 0, 0}), []string{key(1)}},
		{obj.Commit{Tree: key(1), Parents: []string{key(3), key(2)}, Stamp: 1 << 40, Author: "ä", Text: "a\nb"},
			slices.Concat([]byte{3}, raw(1), []byte{2}, raw(3), raw(2), []byte{1, 0, 0, 0, 0, 0, 0, 2, 0xC3, 0xA4, 0, 3, 'a', 10, 'b'}), []string{key(1), key(3), key(2)}},
		{obj.Commit{Tree: key(1), Parents: []string{key(1)}, Stamp: 258, Author: "u", Text: strings.Repeat("中", 200)},
			slices.Concat([]byte{3}, raw(1), []byte{1}, raw(1), []byte{0, 0, 0, 0, 1, 2, 0, 1, 'u', 2, 0x58}, []byte(strings.Repeat("中", 200))), []string{key(1), key(1)}},
	}
}

// encode calls Encode with an object in its place, and others that may not be in theirs.
func encode(o obj.Object) ([]byte, api.Errno) {
	switch x := o.(type) {
	case obj.Tile:
		return obj.Encode(obj.KTile, x, obj.Tree{}, obj.Commit{})
	case obj.Tree:
		return obj.Encode(obj.KTree, obj.Tile{}, x, obj.Commit{})
	}
	return obj.Encode(obj.KCommit, obj.Tile{}, obj.Tree{}, o.(obj.Commit))
}

// same tells whether both are the same object.
func same(a, b obj.Object) bool { return a.Kind() == b.Kind() && bytes.Equal(a.Bytes(), b.Bytes()) }

// as gives the object of bytes by that one of the three that tells one.
func as(b []byte) (obj.Object, int) {
	var out obj.Object
	n := 0
	if r, ok := obj.AsTile(b); ok {
		out = obj.Tile{Raster: r}
		n++
	} else if r.Pix != nil || r.Shape != (api.Shape{}) {
		n = 9
	}
	if r, ok := obj.AsTree(b); ok {
		out = r
		n++
	} else if r.Keys != nil || r.Shape != (api.Shape{}) {
		n = 9
	}
	if c, ok := obj.AsCommit(b); ok {
		out = c
		n++
	} else if c.Tree != "" || c.Parents != nil || c.Stamp != 0 || c.Author != "" || c.Text != "" {
		n = 9
	}
	return out, n
}

// P17.1, P17.2, P17.3, P17.5: objects as bytes, and back.
func TestGood(t *testing.T) {
	if obj.KTile != 1 || obj.KTree != 2 || obj.KCommit != 3 {
		t.Error("kinds")
	}
	for i, c := range good() {
		b, e := encode(c.o)
		if e != api.OK || !bytes.Equal(b, c.b) || !bytes.Equal(c.o.Bytes(), c.b) {
			t.Errorf("case %d: % x, %d", i, b, e)
		}
		kind, e := obj.Kind(b)
		if e != api.OK || kind != int(b[0]) || kind != c.o.Kind() {
			t.Errorf("case %d: kind %d, %d", i, kind, e)
		}
		for k := -1; k < 6; k++ {
			if obj.May(k, b) != (k == kind) {
				t.Errorf("case %d: May %d", i, k)
			}
		}
		refs, e := obj.Refs(b)
		if e != api.OK || !slices.Equal(refs, c.refs) || !slices.Equal(c.o.Refs(), c.refs) {
			t.Errorf("case %d: refs %v, %d", i, refs, e)
		}
		if o, n := as(b); n != 1 || !same(o, c.o) {
			t.Errorf("case %d: %d as", i, n)
		}
	}
	x, _ := obj.AsCommit(good()[5].b)
	if x.Tree != key(1) || !slices.Equal(x.Parents, []string{key(3), key(2)}) || x.Stamp != 1<<40 || x.Author != "ä" || x.Text != "a\nb" {
		t.Errorf("%v", x)
	}
	r, _ := obj.AsTree(good()[2].b)
	if r.Shape != (api.Shape{W: 256, H: 9, Chan: 2, Depth: 16}) || len(r.Keys) != 64 || r.Keys[63] != key(5) {
		t.Errorf("%v", r)
	}
}

// P17.1, P17.3: objects that may not be.
func TestBad(t *testing.T) {
	cut := grey(2, 2)
	cut.Pix = cut.Pix[:3]
	tree := obj.Tree{Shape: grey(9, 1).Shape, Keys: []string{key(1), key(2)}}
	may := obj.Commit{Tree: key(1), Parents: []string{key(2)}, Stamp: 5, Author: "u", Text: "t"}
	with := func(f func(c *obj.Commit)) obj.Commit {
		c := may
		f(&c)
		return c
	}
	if len(tree.Bytes()) == 0 || len(may.Bytes()) == 0 || len((obj.Tile{Raster: grey(8, 8)}).Bytes()) == 0 {
		t.Fatal("good ones")
	}
	for i, o := range []obj.Object{
		obj.Tile{}, obj.Tile{Raster: cut}, obj.Tile{Raster: grey(9, 1)}, obj.Tile{Raster: grey(1, 9)},
		obj.Tree{}, obj.Tree{Shape: tree.Shape, Keys: tree.Keys[:1]}, obj.Tree{Shape: tree.Shape, Keys: append(slices.Clone(tree.Keys), key(3))}, obj.Tree{Shape: tree.Shape, Keys: []string{key(1), key(2)[1:]}}, obj.Tree{Shape: tree.Shape, Keys: []string{strings.ToUpper(key(0xAB)), key(2)}},
		obj.Tree{Shape: api.Shape{W: 257, H: 1, Chan: 1, Depth: 8}, Keys: slices.Repeat([]string{key(1)}, 33)}, obj.Tree{Shape: api.Shape{W: 0, H: 1, Chan: 1, Depth: 8}},
		obj.Commit{}, with(func(c *obj.Commit) { c.Tree = "" }), with(func(c *obj.Commit) { c.Tree += "0" }), with(func(c *obj.Commit) { c.Parents = []string{key(1), key(2), key(3)} }),
		with(func(c *obj.Commit) { c.Parents = []string{key(1), key(1)} }), with(func(c *obj.Commit) { c.Parents = []string{"x"} }), with(func(c *obj.Commit) { c.Parents = []string{key(1), ""} }),
		with(func(c *obj.Commit) { c.Stamp = 0 }), with(func(c *obj.Commit) { c.Stamp = -1 }), with(func(c *obj.Commit) { c.Stamp = 1<<40 + 1 }), with(func(c *obj.Commit) { c.Stamp = math.MinInt }),
		with(func(c *obj.Commit) { c.Author = "" }), with(func(c *obj.Commit) { c.Author = "a b" }), with(func(c *obj.Commit) { c.Author = strings.Repeat("a", 41) }),
		with(func(c *obj.Commit) { c.Text = "\x00" }), with(func(c *obj.Commit) { c.Text = "\xff" }), with(func(c *obj.Commit) { c.Text = strings.Repeat("a", 201) }),
	} {
		if b, e := encode(o); b != nil || e != api.ErrForm {
			t.Errorf("case %d: %d", i, e)
		}
		if len(o.Bytes()) != 0 || len(o.Refs()) != 0 || o.Kind() == 0 {
			t.Errorf("case %d: bytes of none", i)
		}
	}
	for _, k := range []int{0, 4, -1, math.MaxInt, math.MinInt} {
		if b, e := obj.Encode(k, obj.Tile{}, obj.Tree{}, obj.Commit{}); b != nil || e != api.ErrRange {
			t.Errorf("kind %d: %d", k, e)
		}
	}
}

// refuse holds that b are no object's bytes.
func refuse(t *testing.T, name string, b []byte) {
	t.Helper()
	k, e := obj.Kind(b)
	refs, f := obj.Refs(b)
	o, n := as(b)
	if k != 0 || e != api.ErrForm || refs != nil || f != api.ErrForm || o != nil || n != 0 || obj.May(1, b) || obj.May(2, b) || obj.May(3, b) || obj.May(0, b) {
		t.Errorf("%s: kind %d, %d", name, k, e)
	}
}

// P17.1, P17.2: bytes that are no object's.
func TestBytesWrong(t *testing.T) {
	for _, c := range good() {
		for n := range c.b {
			refuse(t, "cut", c.b[:n])
		}
		refuse(t, "a byte more", append(slices.Clone(c.b), 0))
		for _, k := range []byte{0, 4, 255} {
			b := slices.Clone(c.b)
			b[0] = k
			refuse(t, "another kind", b)
		}
	}
	set := func(which, at int, x byte) []byte {
		b := slices.Clone(good()[which].b)
		b[at] = x
		return b
	}
	refuse(t, "tile sign", set(0, 1, 'S'))
	refuse(t, "tile of 9", append([]byte{1, 'R', 0, 9, 0, 1, 1, 8}, make([]byte, 9)...))
	refuse(t, "tree of no width", set(1, 2, 0))
	refuse(t, "tree of too few keys", set(1, 2, 9))
	refuse(t, "commit of three parents", slices.Concat([]byte{3}, raw(1), []byte{3}, raw(2), raw(3), raw(4), []byte{0, 0, 0, 0, 0, 1, 0, 1, 'u', 0, 0}))
	refuse(t, "parents alike", slices.Concat([]byte{3}, raw(1), []byte{2}, raw(2), raw(2), []byte{0, 0, 0, 0, 0, 1, 0, 1, 'u', 0, 0}))
	refuse(t, "stamp 0", set(4, 39, 0))
	refuse(t, "stamp too great", set(5, 98+5, 1))
	refuse(t, "stamp far too great", set(4, 34, 255))
	refuse(t, "author", set(4, 42, ' '))
	refuse(t, "text", set(5, len(good()[5].b)-1, 0))
	refuse(t, "nothing", nil)
}

// P17.2: MustTile panics of others than tiles.
func TestMustTile(t *testing.T) {
	panics := func(b []byte) (yes bool) {
		defer func() { yes = recover() != nil }()
		obj.MustTile(b)
		return
	}
	for i, c := range good() {
		if panics(c.b) != (c.o.Kind() != obj.KTile) {
			t.Errorf("case %d", i)
		}
	}
	if !panics(nil) || !panics([]byte{1}) || !panics([]byte("hello")) {
		t.Error("bytes that are none")
	}
	if r := obj.MustTile(good()[0].b); r.Pix[0] != 7 || r.Shape != grey(1, 1).Shape {
		t.Error("the tile")
	}
}

// P17.5: tiles by chance; bytes by chance are none, or are the object's bytes.
func TestRound(t *testing.T) {
	r := rand.New(rand.NewSource(27))
	for range 300 {
		s := api.Shape{W: 1 + r.Intn(8), H: 1 + r.Intn(8), Chan: 1 + r.Intn(4), Depth: 8 * (1 + r.Intn(2))}
		p := api.Raster{Shape: s, Pix: make([]byte, pix.Size(s))}
		r.Read(p.Pix)
		b, e := encode(obj.Tile{Raster: p})
		if q, ok := obj.AsTile(b); e != api.OK || !ok || !pix.Same(p, q) {
			t.Fatal(s, e)
		}
	}
	all := good()
	for range 20000 {
		b := slices.Clone(all[r.Intn(len(all))].b)
		for range 1 + r.Intn(2) {
			b[r.Intn(len(b))] = byte(r.Intn(256))
		}
		if o, n := as(b); n > 1 || n == 1 && !bytes.Equal(o.Bytes(), b) {
			t.Fatalf("% x", b)
		}
	}
}

// P17.4: nothing is kept or shared.
func TestMemory(t *testing.T) {
	b := slices.Clone(good()[0].b)
	p, _ := obj.AsTile(b)
	b[8] = 9
	if p.Pix[0] != 7 {
		t.Error("a tile keeps its bytes")
	}
	tree := obj.Tree{Shape: grey(9, 1).Shape, Keys: []string{key(1), key(2)}}
	tree.Refs()[0] = "x"
	if tree.Keys[0] != key(1) {
		t.Error("Refs shares the keys")
	}
	parents := append(make([]string, 0, 4), key(2))
	c := obj.Commit{Tree: key(1), Parents: parents, Stamp: 1, Author: "u"}
	l := c.Refs()
	_ = append(l, "x")
	l[1] = "y"
	if parents[0] != key(2) || parents[:2][1] != "" {
		t.Error("Refs shares the parents")
	}
}

package tile_test

import (
	"bytes"
	"math"
	"math/rand"
	"testing"

	"aquatint/api"
	"aquatint/pix"
	"aquatint/tile"
)

// chance is a picture of a shape, its bytes by chance.
func chance(r *rand.Rand, s api.Shape) api.Raster {
	b := make([]byte, pix.Size(s))
	r.Read(b)
	return api.Raster{Shape: s, Pix: b}
}

// grey is a shape of one channel of 8 bits.
func grey(w, h int) api.Shape { return api.Shape{W: w, H: h, Chan: 1, Depth: 8} }

// P10.1: how many tiles there are.
func TestGrid(t *testing.T) {
	cases := []struct {
		s    api.Shape
		x, y int
	}{
		{grey(1, 1), 1, 1}, {grey(8, 8), 1, 1}, {grey(9, 8), 2, 1}, {grey(8, 9), 1, 2}, {grey(16, 17), 2, 3}, {grey(128, 128), 16, 16}, {grey(256, 64), 32, 8},
		{grey(0, 1), 0, 0}, {grey(1, -1), 0, 0}, {grey(257, 1), 0, 0}, {grey(256, 65), 0, 0}, {api.Shape{W: 8, H: 8, Chan: 1, Depth: 4}, 0, 0}, {grey(math.MaxInt, math.MinInt), 0, 0},
	}
	for _, c := range cases {
		if x, y := tile.Grid(c.s); x != c.x || y != c.y {
			t.Errorf("Grid(%v) = %d, %d", c.s, x, y)
		}
	}
}

// P10.1: each tile's shape, and those that are none.
func TestShape(t *testing.T) {
	cases := []struct {
		s    api.Shape
		i    int
		want api.Shape
		e    api.Errno
	}{
		{grey(9, 8), 0, grey(8, 8), api.OK}, {grey(9, 8), 1, grey(1, 8), api.OK}, {grey(9, 8), 2, api.Shape{}, api.ErrRange}, {grey(9, 8), -1, api.Shape{}, api.ErrRange},
		{grey(10, 19), 0, grey(8, 8), api.OK}, {grey(10, 19), 1, grey(2, 8), api.OK}, {grey(10, 19), 2, grey(8, 8), api.OK}, {grey(10, 19), 4, grey(8, 3), api.OK}, {grey(10, 19), 5, grey(2, 3), api.OK},
		{grey(10, 19), 6, api.Shape{}, api.ErrRange}, {grey(10, 19), math.MaxInt, api.Shape{}, api.ErrRange}, {grey(10, 19), math.MinInt, api.Shape{}, api.ErrRange},
		{grey(0, 0), 0, api.Shape{}, api.ErrForm}, {grey(0, 0), -1, api.Shape{}, api.ErrForm},
		{api.Shape{W: 3, H: 11, Chan: 3, Depth: 16}, 1, api.Shape{W: 3, H: 3, Chan: 3, Depth: 16}, api.OK},
	}
	for _, c := range cases {
		if s, e := tile.Shape(c.s, c.i); s != c.want || e != c.e {
			t.Errorf("Shape(%v, %d) = %v, %d", c.s, c.i, s, e)
		}
	}
}

// P10.2, P10.4: each pixel lies in its tile; both ways round.
func TestCutJoin(t *testing.T) {
	r := rand.New(rand.NewSource(16))
	for range 150 {
		s := api.Shape{W: 1 + r.Intn(30), H: 1 + r.Intn(30), Chan: 1 + r.Intn(4), Depth: 8 * (1 + r.Intn(2))}
		p := chance(r, s)
		before := bytes.Clone(p.Pix)
		l, e := tile.Cut(p)
		across, down := tile.Grid(s)
		if e != api.OK || len(l) != across*down {
			t.Fatalf("%v: %d tiles, %d", s, len(l), e)
		}
		for range 20 {
			x, y, c := r.Intn(s.W), r.Intn(s.H), r.Intn(s.Chan)
			a, _ := pix.At(p, x, y, c)
			b, e := pix.At(l[y/8*across+x/8], x%8, y%8, c)
			if a != b || e != api.OK {
				t.Fatalf("%v: pixel %d, %d", s, x, y)
			}
		}
		for i := range l {
			if w, _ := tile.Shape(s, i); l[i].Shape != w || !pix.May(l[i]) {
				t.Fatalf("%v: tile %d is %v", s, i, l[i].Shape)
			}
		}
		q, e := tile.Join(s, l)
		if e != api.OK || !pix.Same(p, q) || !bytes.Equal(p.Pix, before) {
			t.Fatalf("%v: Join of Cut: %d", s, e)
		}
		for i := range l {
			l[i] = chance(r, l[i].Shape)
		}
		q, _ = tile.Join(s, l)
		m, _ := tile.Cut(q)
		for i := range l {
			if !pix.Same(l[i], m[i]) {
				t.Fatalf("%v: Cut of Join", s)
			}
		}
	}
}

// P10.2: pictures and tiles that may not be.
func TestWrong(t *testing.T) {
	if l, e := tile.Cut(api.Raster{Shape: grey(2, 2), Pix: make([]byte, 3)}); l != nil || e != api.ErrForm {
		t.Error("Cut of none")
	}
	l, _ := tile.Cut(api.Raster{Shape: grey(9, 8), Pix: make([]byte, 72)})
	one := api.Raster{Shape: grey(1, 8), Pix: make([]byte, 8)}
	cases := []struct {
		s api.Shape
		l []api.Raster
		e api.Errno
	}{
		{grey(0, 8), l, api.ErrForm}, {grey(9, 8), l[:1], api.ErrRange}, {grey(9, 8), nil, api.ErrRange}, {grey(9, 8), []api.Raster{l[0], l[1], one}, api.ErrRange},
		{grey(9, 8), []api.Raster{l[1], l[0]}, api.ErrShape}, {grey(9, 8), []api.Raster{l[0], l[0]}, api.ErrShape}, {grey(10, 8), l, api.ErrShape},
		{grey(9, 8), []api.Raster{l[0], {Shape: grey(1, 8), Pix: make([]byte, 7)}}, api.ErrShape},
		{grey(9, 8), []api.Raster{l[0], {Shape: grey(1, 8), Pix: make([]byte, 9)}}, api.ErrShape},
		{api.Shape{W: 9, H: 8, Chan: 1, Depth: 16}, l, api.ErrShape}, {api.Shape{W: 9, H: 8, Chan: 2, Depth: 8}, l, api.ErrShape},
	}
	for i, c := range cases {
		if r, e := tile.Join(c.s, c.l); r.Pix != nil || r.Shape != (api.Shape{}) || e != c.e {
			t.Errorf("case %d: %d", i, e)
		}
	}
}

// P10.3: tiles share nothing with the picture, nor with one another.
func TestMemory(t *testing.T) {
	p := api.Raster{Shape: grey(16, 8), Pix: make([]byte, 128)}
	l, _ := tile.Cut(p)
	q, _ := tile.Join(p.Shape, l)
	_ = append(l[0].Pix, 9, 9, 9)
	for i := range l[0].Pix {
		l[0].Pix[i] = 7
	}
	for i := range p.Pix {
		if p.Pix[i] != 0 || q.Pix[i] != 0 || l[1].Pix[i/2] != 0 {
			t.Fatal("shared")
		}
	}
}

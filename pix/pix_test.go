package pix_test

import (
	"bytes"
	"math"
	"math/rand"
	"testing"

	"aquatint/api"
	"aquatint/pix"
)

// chance is a picture of a shape, its bytes by chance.
func chance(r *rand.Rand, s api.Shape) api.Raster {
	b := make([]byte, s.W*s.H*s.Chan*s.Depth/8)
	r.Read(b)
	return api.Raster{Shape: s, Pix: b}
}

// P9.1: shapes, rows, sizes.
func TestShapes(t *testing.T) {
	cases := []struct {
		s         api.Shape
		may       bool
		row, size int
	}{
		{api.Shape{W: 1, H: 1, Chan: 1, Depth: 8}, true, 1, 1},
		{api.Shape{W: 3, H: 2, Chan: 4, Depth: 16}, true, 24, 48},
		{api.Shape{W: 128, H: 128, Chan: 1, Depth: 8}, true, 128, 16384},
		{api.Shape{W: 128, H: 129, Chan: 1, Depth: 8}, false, 128, 16512},
		{api.Shape{W: 256, H: 64, Chan: 1, Depth: 8}, true, 256, 16384},
		{api.Shape{W: 64, H: 256, Chan: 1, Depth: 8}, true, 64, 16384},
		{api.Shape{W: 64, H: 32, Chan: 4, Depth: 16}, true, 512, 16384},
		{api.Shape{W: 256, H: 256, Chan: 4, Depth: 16}, false, 2048, 524288},
		{api.Shape{W: 256, H: 65, Chan: 1, Depth: 8}, false, 256, 16640},
		{api.Shape{}, false, 0, 0},
	}
	for _, bad := range []int{0, -1, 257, math.MaxInt, math.MinInt} {
		cases = append(cases, struct {
			s         api.Shape
			may       bool
			row, size int
		}{s: api.Shape{W: bad, H: 1, Chan: 1, Depth: 8}}, struct {
			s         api.Shape
			may       bool
			row, size int
		}{s: api.Shape{W: 1, H: bad, Chan: 1, Depth: 8}})
	}
	for _, bad := range []int{0, -1, 5, math.MaxInt, math.MinInt} {
		cases = append(cases, struct {
			s         api.Shape
			may       bool
			row, size int
		}{s: api.Shape{W: 1, H: 1, Chan: bad, Depth: 8}})
	}
	for _, bad := range []int{0, 1, 7, 9, 15, 17, 32, -8, math.MaxInt, math.MinInt} {
		cases = append(cases, struct {
			s         api.Shape
			may       bool
			row, size int
		}{s: api.Shape{W: 1, H: 1, Chan: 1, Depth: bad}})
	}
	for _, c := range cases {
		if pix.MayShape(c.s) != c.may || pix.Row(c.s) != c.row || pix.Size(c.s) != c.size {
			t.Errorf("%v: %v, %d, %d", c.s, pix.MayShape(c.s), pix.Row(c.s), pix.Size(c.s))
		}
		if pix.May(api.Raster{Shape: c.s, Pix: make([]byte, c.size)}) != c.may {
			t.Errorf("May of %v", c.s)
		}
		if pix.May(api.Raster{Shape: c.s, Pix: make([]byte, c.size+1)}) || c.size > 0 && pix.May(api.Raster{Shape: c.s, Pix: make([]byte, c.size-1)}) {
			t.Errorf("May of %v with other bytes", c.s)
		}
	}
}

// P9.2, P9.5: each channel of each pixel is told and set, and nothing else changes.
func TestAtSet(t *testing.T) {
	r := rand.New(rand.NewSource(14))
	for _, s := range []api.Shape{{W: 3, H: 2, Chan: 1, Depth: 8}, {W: 2, H: 3, Chan: 3, Depth: 8}, {W: 3, H: 3, Chan: 2, Depth: 16}, {W: 2, H: 2, Chan: 4, Depth: 16}} {
		p := chance(r, s)
		before := bytes.Clone(p.Pix)
		i := 0
		for y := range s.H {
			for x := range s.W {
				for c := range s.Chan {
					want := int(p.Pix[i])
					if s.Depth == 16 {
						want = want<<8 | int(p.Pix[i+1])
					}
					if v, e := pix.At(p, x, y, c); v != want || e != api.OK {
						t.Fatalf("%v: At(%d, %d, %d) = %d, %d", s, x, y, c, v, e)
					}
					v := (want + 77) % (1 << s.Depth)
					q, e := pix.Set(p, x, y, c, v)
					got, _ := pix.At(q, x, y, c)
					if e != api.OK || got != v || q.Shape != s || len(q.Pix) != len(p.Pix) {
						t.Fatalf("%v: Set(%d, %d, %d)", s, x, y, c)
					}
					for j := range q.Pix {
						if (j < i || j >= i+s.Depth/8) && q.Pix[j] != p.Pix[j] {
							t.Fatalf("%v: Set(%d, %d, %d) changes byte %d", s, x, y, c, j)
						}
					}
					i += s.Depth / 8
				}
			}
		}
		if !bytes.Equal(before, p.Pix) {
			t.Error("P9.4: changed")
		}
	}
}

// P9.2: places and numbers that are none.
func TestAtSetWrong(t *testing.T) {
	p := api.Raster{Shape: api.Shape{W: 2, H: 3, Chan: 2, Depth: 8}, Pix: make([]byte, 12)}
	for _, c := range [][3]int{{-1, 0, 0}, {2, 0, 0}, {0, -1, 0}, {0, 3, 0}, {0, 0, -1}, {0, 0, 2}, {math.MaxInt, 0, 0}, {0, math.MinInt, 0}, {0, 0, math.MaxInt}} {
		if v, e := pix.At(p, c[0], c[1], c[2]); v != 0 || e != api.ErrRange {
			t.Errorf("At(%d) = %d, %d", c, v, e)
		}
		if q, e := pix.Set(p, c[0], c[1], c[2], 0); q.Pix != nil || q.Shape != (api.Shape{}) || e != api.ErrRange {
			t.Errorf("Set(%d): %d", c, e)
		}
	}
	for _, v := range []int{-1, 256, math.MaxInt, math.MinInt} {
		if q, e := pix.Set(p, 0, 0, 0, v); q.Pix != nil || q.Shape != (api.Shape{}) || e != api.ErrRange {
			t.Errorf("Set to %d: %d", v, e)
		}
	}
	p.Pix = p.Pix[:11]
	if _, e := pix.At(p, 9, 9, 9); e != api.ErrForm {
		t.Errorf("At of none: %d", e)
	}
	if _, e := pix.Set(p, 9, 9, 9, -1); e != api.ErrForm {
		t.Errorf("Set of none: %d", e)
	}
	deep := api.Raster{Shape: api.Shape{W: 1, H: 1, Chan: 1, Depth: 16}, Pix: []byte{1, 2}}
	if q, e := pix.Set(deep, 0, 0, 0, 65535); e != api.OK || !bytes.Equal(q.Pix, []byte{255, 255}) {
		t.Error("65535")
	}
	if _, e := pix.Set(deep, 0, 0, 0, 65536); e != api.ErrRange {
		t.Error("65536")
	}
}

// P9.2: Same, of pictures that may be and of others.
func TestSame(t *testing.T) {
	a := api.Raster{Shape: api.Shape{W: 2, H: 1, Chan: 1, Depth: 8}, Pix: []byte{1, 2}}
	b := api.Raster{Shape: api.Shape{W: 1, H: 2, Chan: 1, Depth: 8}, Pix: []byte{1, 2}}
	c := api.Raster{Shape: a.Shape, Pix: []byte{1, 3}}
	d := api.Raster{Shape: a.Shape, Pix: []byte{1}}
	if !pix.Same(a, a) || pix.Same(a, b) || pix.Same(a, c) || pix.Same(a, d) || !pix.Same(d, d) || !pix.Same(api.Raster{}, api.Raster{Pix: []byte{}}) {
		t.Error("Same")
	}
}

// P9.3, P9.5: pictures as bytes and back.
func TestBytes(t *testing.T) {
	small := api.Raster{Shape: api.Shape{W: 1, H: 1, Chan: 1, Depth: 8}, Pix: []byte{7}}
	if b, e := pix.Encode(small); e != api.OK || !bytes.Equal(b, []byte{0x52, 0, 1, 0, 1, 1, 8, 7}) {
		t.Errorf("% x, %d", b, e)
	}
	r := rand.New(rand.NewSource(15))
	for range 200 {
		s := api.Shape{W: 1 + r.Intn(20), H: 1 + r.Intn(20), Chan: 1 + r.Intn(4), Depth: 8 * (1 + r.Intn(2))}
		p := chance(r, s)
		b, e := pix.Encode(p)
		if e != api.OK || len(b) != 7+pix.Size(s) {
			t.Fatal(e)
		}
		if q, e := pix.Decode(b); e != api.OK || !pix.Same(p, q) {
			t.Fatalf("%v: %d", s, e)
		}
	}
	wide := api.Raster{Shape: api.Shape{W: 256, H: 3, Chan: 1, Depth: 16}, Pix: make([]byte, 1536)}
	b, _ := pix.Encode(wide)
	if !bytes.Equal(b[:7], []byte{0x52, 1, 0, 0, 3, 1, 16}) {
		t.Errorf("% x", b[:7])
	}
	tall := api.Raster{Shape: api.Shape{W: 2, H: 256, Chan: 1, Depth: 8}, Pix: make([]byte, 512)}
	b, _ = pix.Encode(tall)
	if q, e := pix.Decode(b); e != api.OK || !pix.Same(tall, q) {
		t.Error("256 high")
	}
	small.Pix = nil
	if b, e := pix.Encode(small); b != nil || e != api.ErrForm {
		t.Errorf("without pixels: %d", e)
	}
}

// P9.3: bytes that are no picture.
func TestDecodeWrong(t *testing.T) {
	cases := []struct {
		b []byte
		e api.Errno
	}{
		{nil, api.ErrShort}, {[]byte("X"), api.ErrShort}, {[]byte{0x52, 0, 1, 0, 1, 1}, api.ErrShort},
		{[]byte{0x53, 0, 1, 0, 1, 1, 8}, api.ErrForm}, {[]byte{0x53, 0, 1, 0, 1, 1, 8, 7}, api.ErrForm},
		{[]byte{0x52, 0, 1, 0, 1, 1, 8}, api.ErrShort}, {[]byte{0x52, 0, 1, 0, 1, 1, 8, 7, 7}, api.ErrLong}, {[]byte{0x52, 0, 1, 0, 1, 1, 16, 7}, api.ErrShort},
		{[]byte{0x52, 0, 0, 0, 1, 1, 8}, api.ErrForm}, {[]byte{0x52, 0, 1, 0, 0, 1, 8}, api.ErrForm}, {[]byte{0x52, 0, 1, 0, 1, 0, 8}, api.ErrForm},
		{[]byte{0x52, 0, 1, 0, 1, 5, 8}, api.ErrForm}, {[]byte{0x52, 0, 1, 0, 1, 1, 9}, api.ErrForm}, {[]byte{0x52, 1, 1, 0, 1, 1, 8}, api.ErrForm},
		{[]byte{0x52, 1, 0, 1, 0, 1, 8}, api.ErrForm}, {[]byte{0x52, 1, 0, 0, 64, 1, 8}, api.ErrShort},
	}
	for _, c := range cases {
		if r, e := pix.Decode(c.b); r.Pix != nil || r.Shape != (api.Shape{}) || e != c.e {
			t.Errorf("Decode(% x): %d", c.b, e)
		}
	}
}

// P9.4: nothing is kept or shared.
func TestMemory(t *testing.T) {
	p := api.Raster{Shape: api.Shape{W: 2, H: 1, Chan: 1, Depth: 8}, Pix: []byte{1, 2}}
	q, _ := pix.Set(p, 0, 0, 0, 5)
	b, _ := pix.Encode(p)
	d, _ := pix.Decode(b)
	q.Pix[1], b[7] = 9, 9
	if !bytes.Equal(p.Pix, []byte{1, 2}) || !bytes.Equal(d.Pix, []byte{1, 2}) {
		t.Error("shared")
	}
}

package diff_test

import (
	"bytes"
	"math"
	"math/rand"
	"testing"

	"aquatint/api"
	"aquatint/diff"
	"aquatint/pix"
	"aquatint/zlib"
)

// of is a grey picture of one row.
func of(b ...byte) api.Raster {
	return api.Raster{Shape: api.Shape{W: len(b), H: 1, Chan: 1, Depth: 8}, Pix: b}
}

// chance is a picture of a shape, its bytes by chance.
func chance(r *rand.Rand, s api.Shape, below int) api.Raster {
	b := make([]byte, pix.Size(s))
	for i := range b {
		b[i] = byte(r.Intn(below))
	}
	return api.Raster{Shape: s, Pix: b}
}

// P11.1: the bytes of both kinds.
func TestMake(t *testing.T) {
	if diff.Xor != 1 || diff.Sub != 2 {
		t.Error("kinds")
	}
	base, r := of(5, 0, 255, 7), of(3, 255, 0, 7)
	if d, e := diff.Make(diff.Xor, base, r); e != api.OK || !bytes.Equal(d, []byte{6, 255, 255, 0}) {
		t.Errorf("% x, %d", d, e)
	}
	if d, e := diff.Make(diff.Sub, base, r); e != api.OK || !bytes.Equal(d, []byte{0xFE, 255, 1, 0}) {
		t.Errorf("% x, %d", d, e)
	}
	if q, e := diff.Apply(diff.Xor, base, []byte{6, 255, 255, 0}); e != api.OK || !pix.Same(q, r) {
		t.Error("Apply of Xor")
	}
	if q, e := diff.Apply(diff.Sub, base, []byte{0xFE, 255, 1, 0}); e != api.OK || !pix.Same(q, r) {
		t.Error("Apply of Sub")
	}
}

// P11.1: kinds, pictures and bytes that may not be.
func TestWrong(t *testing.T) {
	good, none, other := of(1, 2), api.Raster{Shape: of(1, 2).Shape, Pix: []byte{1}}, of(1, 2, 3)
	deep := api.Raster{Shape: api.Shape{W: 1, H: 1, Chan: 1, Depth: 16}, Pix: []byte{1, 2}}
	for _, kind := range []int{0, 3, -1, math.MaxInt, math.MinInt} {
		if d, e := diff.Make(kind, none, none); d != nil || e != api.ErrRange {
			t.Errorf("Make of kind %d: %d", kind, e)
		}
		if q, e := diff.Apply(kind, none, nil); q.Pix != nil || e != api.ErrRange {
			t.Errorf("Apply of kind %d: %d", kind, e)
		}
	}
	for _, c := range []struct {
		base, r api.Raster
		e       api.Errno
	}{{none, good, api.ErrForm}, {good, none, api.ErrForm}, {none, other, api.ErrForm}, {good, other, api.ErrShape}, {good, deep, api.ErrShape}, {api.Raster{}, api.Raster{}, api.ErrForm}} {
		if d, e := diff.Make(diff.Xor, c.base, c.r); d != nil || e != c.e {
			t.Errorf("Make: %d, want %d", e, c.e)
		}
		if k, d, e := diff.Best(c.base, c.r); k != 0 || d != nil || e != c.e {
			t.Errorf("Best: %d, want %d", e, c.e)
		}
		if n, e := diff.Changed(c.base, c.r); n != 0 || e != c.e {
			t.Errorf("Changed: %d, want %d", e, c.e)
		}
	}
	for _, c := range []struct {
		base api.Raster
		d    []byte
		e    api.Errno
	}{{none, []byte{1, 2}, api.ErrForm}, {none, nil, api.ErrForm}, {good, nil, api.ErrShort}, {good, []byte{1}, api.ErrShort}, {good, []byte{1, 2, 3}, api.ErrLong}} {
		for _, kind := range []int{diff.Xor, diff.Sub} {
			if q, e := diff.Apply(kind, c.base, c.d); q.Pix != nil || q.Shape != (api.Shape{}) || e != c.e {
				t.Errorf("Apply of %d bytes: %d", len(c.d), e)
			}
		}
	}
}

// P11.2: the shorter one, Xor where both are as long.
func TestBest(t *testing.T) {
	r := rand.New(rand.NewSource(17))
	var met [3]int
	for i := range 600 {
		s := api.Shape{W: 1 + r.Intn(8), H: 1 + r.Intn(8), Chan: 1 + r.Intn(4), Depth: 8 * (1 + r.Intn(2))}
		base := chance(r, s, 1+i%256)
		q := chance(r, s, 1+i%7)
		if i%2 == 0 {
			for j := range q.Pix {
				q.Pix[j] = base.Pix[j] + byte(i%5)
			}
		}
		x, _ := diff.Make(diff.Xor, base, q)
		b, _ := diff.Make(diff.Sub, base, q)
		px, _ := zlib.Pack(x)
		pb, _ := zlib.Pack(b)
		kind, want := diff.Xor, px
		if len(pb) < len(px) {
			kind, want = diff.Sub, pb
		}
		met[kind]++
		if k, d, e := diff.Best(base, q); k != kind || !bytes.Equal(d, want) || e != api.OK {
			t.Fatalf("%v: %d, %d", s, k, e)
		}
	}
	if met[diff.Xor] == 0 || met[diff.Sub] == 0 {
		t.Errorf("a kind is never met: %d", met)
	}
}

// P11.2: pixels that differ, in any of their bytes.
func TestChanged(t *testing.T) {
	s := api.Shape{W: 2, H: 2, Chan: 2, Depth: 16}
	base := api.Raster{Shape: s, Pix: make([]byte, 16)}
	cases := map[int][]int{0: nil, 1: {3}, 2: {0, 15}, 3: {4, 8, 12}, 4: {0, 5, 10, 15}}
	for want, places := range cases {
		q := api.Raster{Shape: s, Pix: make([]byte, 16)}
		for _, i := range places {
			q.Pix[i] = 1
		}
		if n, e := diff.Changed(base, q); n != want || e != api.OK {
			t.Errorf("%d: %d, %d", want, n, e)
		}
	}
	all := api.Raster{Shape: s, Pix: bytes.Repeat([]byte{1}, 16)}
	if n, _ := diff.Changed(base, all); n != 4 {
		t.Error("all bytes", n)
	}
}

// P11.3, P11.4: Apply of Make is the picture; nothing is changed or shared.
func TestRound(t *testing.T) {
	r := rand.New(rand.NewSource(18))
	for range 200 {
		s := api.Shape{W: 1 + r.Intn(12), H: 1 + r.Intn(12), Chan: 1 + r.Intn(4), Depth: 8 * (1 + r.Intn(2))}
		base, q := chance(r, s, 256), chance(r, s, 256)
		b, p := bytes.Clone(base.Pix), bytes.Clone(q.Pix)
		for _, kind := range []int{diff.Xor, diff.Sub} {
			d, _ := diff.Make(kind, base, q)
			x, e := diff.Apply(kind, base, d)
			if e != api.OK || !pix.Same(x, q) {
				t.Fatalf("%v: %d", s, e)
			}
			x.Pix[0]++
			d[0]++
		}
		if !bytes.Equal(b, base.Pix) || !bytes.Equal(p, q.Pix) {
			t.Fatal("changed")
		}
	}
}

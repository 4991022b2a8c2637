package filt_test

import (
	"bytes"
	"math"
	"math/big"
	"math/rand"
	"testing"

	"aquatint/api"
	"aquatint/filt"
)

// P12.1: the five filters, by known rows.
func TestDo(t *testing.T) {
	if filt.None != 0 || filt.Sub != 1 || filt.Up != 2 || filt.Average != 3 || filt.Paethic != 4 {
		t.Error("kinds")
	}
	prev, row := []byte{10, 20, 30, 250}, []byte{12, 25, 29, 5}
	cases := []struct {
		kind, bpp  int
		prev, want []byte
	}{
		{filt.None, 1, prev, []byte{12, 25, 29, 5}},
		{filt.Sub, 1, prev, []byte{12, 13, 4, 232}},
		{filt.Sub, 2, prev, []byte{12, 25, 17, 236}},
		{filt.Sub, 8, prev, []byte{12, 25, 29, 5}},
		{filt.Up, 1, prev, []byte{2, 5, 255, 11}},
		{filt.Up, 1, nil, []byte{12, 25, 29, 5}},
		{filt.Average, 1, prev, []byte{7, 9, 2, 122}},
		{filt.Average, 2, prev, []byte{7, 15, 8, 124}},
		{filt.Average, 1, nil, []byte{12, 19, 17, 247}},
		{filt.Paethic, 1, prev, []byte{2, 5, 255, 11}},
		{filt.Paethic, 2, prev, []byte{2, 5, 255, 11}},
		{filt.Paethic, 1, nil, []byte{12, 13, 4, 232}},
	}
	for _, c := range cases {
		d, e := filt.Do(c.kind, c.bpp, c.prev, row)
		if e != api.OK || !bytes.Equal(d, c.want) {
			t.Errorf("Do(%d, %d) = %d, %d; want %d", c.kind, c.bpp, d, e, c.want)
		}
		u, e := filt.Undo(c.kind, c.bpp, c.prev, d)
		if e != api.OK || !bytes.Equal(u, row) {
			t.Errorf("Undo(%d, %d) = %d, %d", c.kind, c.bpp, u, e)
		}
	}
	if d, _ := filt.Do(filt.Sub, 1, nil, []byte{1, 2, 4}); !bytes.Equal(d, []byte{1, 1, 2}) {
		t.Error("the chapter's example")
	}
}

// byWords filters one byte by the clauses of ISO/IEC 15948.
func byWords(kind, bpp int, prev, row []byte, i int) byte {
	var a, b, c int
	if i >= bpp {
		a = int(row[i-bpp])
	}
	if len(prev) > 0 {
		b = int(prev[i])
	}
	if i >= bpp && len(prev) > 0 {
		c = int(prev[i-bpp])
	}
	p := []int{0, a, b, (a + b) >> 1, near(a, b, c)}[kind]
	return byte(int(row[i]) - p)
}

// near is the Paeth predictor of ISO/IEC 15948, in numbers without bounds.
func near(a, b, c int) int {
	p := new(big.Int).Add(big.NewInt(int64(a)), big.NewInt(int64(b)))
	p.Sub(p, big.NewInt(int64(c)))
	far := func(x int) *big.Int {
		d := new(big.Int).Sub(p, big.NewInt(int64(x)))
		return d.Abs(d)
	}
	pa, pb, pc := far(a), far(b), far(c)
	if pa.Cmp(pb) <= 0 && pa.Cmp(pc) <= 0 {
		return a
	}
	if pb.Cmp(pc) <= 0 {
		return b
	}
	return c
}

// P12.1: Paeth, of small numbers and of the greatest ones.
func TestPaeth(t *testing.T) {
	for a := range 20 {
		for b := range 20 {
			for c := range 20 {
				if p := filt.Paeth(a, b, c); p != near(a, b, c) {
					t.Fatalf("Paeth(%d, %d, %d) = %d", a, b, c, p)
				}
			}
		}
	}
	edges := []int{math.MinInt, math.MinInt + 1, -2, -1, 0, 1, 2, 255, math.MaxInt - 1, math.MaxInt, math.MaxInt / 2, math.MinInt / 2}
	for _, a := range edges {
		for _, b := range edges {
			for _, c := range edges {
				if p := filt.Paeth(a, b, c); p != near(a, b, c) {
					t.Errorf("Paeth(%d, %d, %d) = %d", a, b, c, p)
				}
			}
		}
	}
}

// P12.1, P12.4: rows by chance, held against the clauses, and back.
func TestRound(t *testing.T) {
	r := rand.New(rand.NewSource(19))
	for range 2000 {
		row := make([]byte, r.Intn(40))
		r.Read(row)
		var prev []byte
		if r.Intn(3) > 0 {
			prev = make([]byte, len(row))
			r.Read(prev)
		}
		kind, bpp := r.Intn(5), 1+r.Intn(8)
		d, e := filt.Do(kind, bpp, prev, row)
		if e != api.OK || len(d) != len(row) {
			t.Fatal(e)
		}
		for i := range row {
			if d[i] != byWords(kind, bpp, prev, row, i) {
				t.Fatalf("Do(%d, %d), byte %d", kind, bpp, i)
			}
		}
		if u, e := filt.Undo(kind, bpp, prev, d); e != api.OK || !bytes.Equal(u, row) {
			t.Fatalf("Undo(%d, %d)", kind, bpp)
		}
	}
}

// P12.1: kinds, pixels and rows that may not be.
func TestWrong(t *testing.T) {
	row := []byte{1, 2, 3}
	cases := []struct {
		kind, bpp int
		prev      []byte
		e         api.Errno
	}{
		{-1, 1, nil, api.ErrRange}, {5, 1, nil, api.ErrRange}, {math.MaxInt, 1, nil, api.ErrRange}, {math.MinInt, 1, nil, api.ErrRange},
		{0, 0, nil, api.ErrRange}, {0, 9, nil, api.ErrRange}, {0, -1, nil, api.ErrRange}, {0, math.MaxInt, nil, api.ErrRange}, {0, math.MinInt, nil, api.ErrRange},
		{0, 1, []byte{1, 2}, api.ErrForm}, {4, 8, []byte{1, 2, 3, 4}, api.ErrForm}, {5, 1, []byte{1}, api.ErrRange},
	}
	for _, c := range cases {
		if d, e := filt.Do(c.kind, c.bpp, c.prev, row); d != nil || e != c.e {
			t.Errorf("Do(%d, %d): %d", c.kind, c.bpp, e)
		}
		if d, e := filt.Undo(c.kind, c.bpp, c.prev, row); d != nil || e != c.e {
			t.Errorf("Undo(%d, %d): %d", c.kind, c.bpp, e)
		}
		if c.kind == 0 {
			if k, d, e := filt.Best(c.bpp, c.prev, row); k != 0 || d != nil || e != c.e {
				t.Errorf("Best(%d): %d", c.bpp, e)
			}
		}
	}
	if _, e := filt.Do(0, 1, []byte{1}, nil); e != api.ErrForm {
		t.Error("a row above nothing")
	}
	if d, e := filt.Do(4, 8, nil, nil); len(d) != 0 || e != api.OK {
		t.Error("rows of nothing")
	}
}

// P12.2: weights.
func TestWeight(t *testing.T) {
	for want, b := range map[int][]byte{0: nil, 1: {255}, 127: {127}, 128: {128}, 129: {129, 1, 255}, 6: {1, 2, 3}, 5: {0, 251}} {
		want := want
		if len(b) == 3 && b[0] == 129 {
			want = 129 // 127, 1 and 1
		}
		if n := filt.Weight(b); n != want {
			t.Errorf("Weight(%d) = %d", b, n)
		}
	}
}

// P12.2: the least weight, the least kind of equal ones.
func TestBest(t *testing.T) {
	r := rand.New(rand.NewSource(20))
	var met [5]int
	for i := range 3000 {
		row, prev := make([]byte, r.Intn(12)), []byte(nil)
		for j := range row {
			row[j] = byte(r.Intn(1+i%30) + j*(i%4))
		}
		if r.Intn(3) > 0 {
			prev = make([]byte, len(row))
			for j := range prev {
				prev[j] = byte(r.Intn(1 + i%30))
			}
		}
		bpp := 1 + r.Intn(4)
		kind, least := -1, 0
		for k := range 5 {
			d, _ := filt.Do(k, bpp, prev, row)
			if w := filt.Weight(d); kind < 0 || w < least {
				kind, least = k, w
			}
		}
		met[kind]++
		want, _ := filt.Do(kind, bpp, prev, row)
		if k, d, e := filt.Best(bpp, prev, row); k != kind || !bytes.Equal(d, want) || e != api.OK {
			t.Fatalf("Best: %d, want %d", k, kind)
		}
	}
	for k, n := range met {
		if n == 0 {
			t.Errorf("kind %d is never met", k)
		}
	}
}

// P12.3: nothing is changed or shared.
func TestMemory(t *testing.T) {
	prev, row := []byte{1, 2, 3}, []byte{4, 5, 6}
	for kind := range 5 {
		d, _ := filt.Do(kind, 1, prev, row)
		u, _ := filt.Undo(kind, 1, prev, row)
		_, b, _ := filt.Best(1, prev, row)
		d[0], u[0], b[0] = 99, 99, 99
	}
	if !bytes.Equal(prev, []byte{1, 2, 3}) || !bytes.Equal(row, []byte{4, 5, 6}) {
		t.Error("changed")
	}
}

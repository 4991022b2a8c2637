package huff_test

import (
	"math"
	"math/rand"
	"slices"
	"sort"
	"testing"

	"aquatint/api"
	"aquatint/bits"
	"aquatint/huff"
)

// P5.1: lengths that are known.
func TestLengths(t *testing.T) {
	cases := []struct {
		weights []int
		most    int
		want    []int
	}{
		{[]int{1, 1, 2, 4}, 15, []int{3, 3, 2, 1}},
		{[]int{1, 1, 2, 4}, 2, []int{2, 2, 2, 2}},
		{[]int{1, 1, 2, 4}, 3, []int{3, 3, 2, 1}},
		{[]int{0}, 1, []int{0}}, {[]int{0, 0, 0}, 15, []int{0, 0, 0}},
		{[]int{5}, 1, []int{1}}, {[]int{0, 7, 0}, 15, []int{0, 1, 0}},
		{[]int{3, 3}, 1, []int{1, 1}}, {[]int{1 << 30, 0, 1}, 15, []int{1, 0, 1}},
		{[]int{1, 1, 1}, 2, []int{2, 2, 1}}, {[]int{1, 1, 1, 1}, 15, []int{2, 2, 2, 2}},
		{[]int{4, 2, 1, 1}, 15, []int{1, 2, 3, 3}},
		{[]int{1, 1, 2, 3, 5, 8, 13}, 4, []int{4, 4, 3, 3, 3, 2, 2}},
	}
	for _, c := range cases {
		if l, e := huff.Lengths(c.weights, c.most); e != api.OK || !slices.Equal(l, c.want) {
			t.Errorf("Lengths(%d, %d) = %d, %d", c.weights, c.most, l, e)
		}
	}
}

// bundle is an item, or a package of two.
type bundle struct {
	weight      int
	place       int
	left, right *bundle
}

// into counts the items of a bundle.
func (b *bundle) into(lens []int) {
	if b.left == nil {
		lens[b.place]++
		return
	}
	b.left.into(lens)
	b.right.into(lens)
}

// byPackages follows the chapter's words with packages that hold what they are made of.
func byPackages(weights []int, most int) []int {
	var items []*bundle
	for i, w := range weights {
		if w > 0 {
			items = append(items, &bundle{weight: w, place: i})
		}
	}
	sort.SliceStable(items, func(i, j int) bool { return items[i].weight < items[j].weight })
	lens := make([]int, len(weights))
	if len(items) == 1 {
		lens[items[0].place] = 1
	}
	if len(items) < 2 {
		return lens
	}
	list := slices.Clone(items)
	for range most - 1 {
		next := slices.Clone(items)
		for i := 0; i+1 < len(list); i += 2 {
			next = append(next, &bundle{weight: list[i].weight + list[i+1].weight, left: list[i], right: list[i+1]})
		}
		sort.SliceStable(next, func(i, j int) bool { return next[i].weight < next[j].weight })
		list = next
	}
	for _, b := range list[:2*len(items)-2] {
		b.into(lens)
	}
	return lens
}

// P5.1, P5.5: many weights, held against the chapter's words; Kraft is whole, and none is above most.
func TestLengthsMany(t *testing.T) {
	r := rand.New(rand.NewSource(6))
	for range 1500 {
		most := 1 + r.Intn(15)
		n := 1 + r.Intn(min(1<<most, 300))
		weights := make([]int, n)
		above := 0
		for i := range weights {
			switch r.Intn(4) {
			case 0:
				weights[i] = r.Intn(3)
			case 1:
				weights[i] = r.Intn(1<<30 + 1)
			case 2:
				weights[i] = 1 << r.Intn(31)
			default:
				weights[i] = r.Intn(40)
			}
			if weights[i] > 0 {
				above++
			}
		}
		l, e := huff.Lengths(weights, most)
		if e != api.OK || !slices.Equal(l, byPackages(weights, most)) {
			t.Fatalf("Lengths(%d, %d) = %d, %d", weights, most, l, e)
		}
		if k, _ := huff.Kraft(l); above >= 2 && (k != 1<<15 || slices.Max(l) > most) {
			t.Fatalf("Kraft %d of %d", k, l)
		}
	}
}

// P5.1: weights that may not be.
func TestLengthsWrong(t *testing.T) {
	ones := func(n int) []int { return slices.Repeat([]int{1}, n) }
	cases := []struct {
		weights []int
		most    int
	}{
		{nil, 15}, {[]int{}, 1}, {ones(301), 15}, {make([]int, 301), 15}, {[]int{-1, 1}, 15}, {[]int{1<<30 + 1}, 15}, {[]int{math.MaxInt}, 15}, {[]int{math.MinInt}, 15},
		{ones(2), 0}, {ones(2), 16}, {ones(2), -1}, {ones(2), math.MaxInt}, {ones(2), math.MinInt}, {ones(3), 1}, {ones(5), 2}, {ones(257), 8},
	}
	for _, c := range cases {
		if l, e := huff.Lengths(c.weights, c.most); l != nil || e != api.ErrRange {
			t.Errorf("Lengths(%d, %d) = %d, %d", c.weights, c.most, l, e)
		}
	}
	if _, e := huff.Lengths(ones(256), 8); e != api.OK {
		t.Error("256 of 8 bits")
	}
	if _, e := huff.Lengths(append(ones(2), 0, 0), 1); e != api.OK {
		t.Error("zeros count for nothing")
	}
	if _, e := huff.Lengths(ones(300), 9); e != api.OK {
		t.Error("300 weights")
	}
}

// P5.2: Kraft's sum, and its errors.
func TestKraft(t *testing.T) {
	cases := []struct {
		lens []int
		want int
		e    api.Errno
	}{
		{nil, 0, api.OK}, {[]int{0, 0}, 0, api.OK}, {[]int{1}, 1 << 14, api.OK}, {[]int{15, 0, 14}, 3, api.OK}, {[]int{1, 1, 1}, 3 << 14, api.OK},
		{[]int{16}, 0, api.ErrRange}, {[]int{1, -1}, 0, api.ErrRange}, {make([]int, 301), 0, api.ErrRange}, {make([]int, 300), 0, api.OK}, {[]int{math.MinInt}, 0, api.ErrRange},
	}
	for _, c := range cases {
		if k, e := huff.Kraft(c.lens); k != c.want || e != c.e {
			t.Errorf("Kraft(%d) = %d, %d", c.lens, k, e)
		}
	}
}

// P5.2: codes, with the example of RFC 1951.
func TestCodes(t *testing.T) {
	c, e := huff.Codes([]int{3, 3, 3, 3, 3, 2, 4, 4})
	want := []huff.Code{{2, 3}, {3, 3}, {4, 3}, {5, 3}, {6, 3}, {0, 2}, {14, 4}, {15, 4}}
	if e != api.OK || !slices.Equal(c, want) {
		t.Errorf("%v, %d", c, e)
	}
	c, e = huff.Codes([]int{2, 1, 0, 2})
	if e != api.OK || !slices.Equal(c, []huff.Code{{2, 2}, {0, 1}, {}, {3, 2}}) {
		t.Errorf("%v, %d", c, e)
	}
	if c, e := huff.Codes([]int{15, 1, 15}); e != api.OK || !slices.Equal(c, []huff.Code{{1 << 14, 15}, {0, 1}, {1<<14 + 1, 15}}) {
		t.Errorf("%v, %d", c, e)
	}
	if c, e := huff.Codes([]int{0, 0, 1, 0, 1, 0}); e != api.OK || !slices.Equal(c, []huff.Code{{}, {}, {0, 1}, {}, {1, 1}, {}}) {
		t.Errorf("%v, %d", c, e)
	}
	for _, w := range []struct {
		lens []int
		e    api.Errno
	}{{[]int{1, 1, 15}, api.ErrForm}, {[]int{1, 2, 2, 2}, api.ErrForm}, {[]int{16}, api.ErrRange}, {[]int{1, 1, 1, 16}, api.ErrRange}, {make([]int, 301), api.ErrRange}} {
		if c, e := huff.Codes(w.lens); c != nil || e != w.e {
			t.Errorf("Codes(%d) = %v, %d", w.lens, c, e)
		}
	}
	if c, e := huff.Codes(nil); len(c) != 0 || e != api.OK {
		t.Error("codes of nothing")
	}
}

// P5.3: decoders, and what they can't read.
func TestDecoder(t *testing.T) {
	for _, w := range []struct {
		lens []int
		e    api.Errno
	}{{nil, api.ErrForm}, {[]int{0, 0}, api.ErrForm}, {[]int{1, 1, 1}, api.ErrForm}, {[]int{-1}, api.ErrRange}, {make([]int, 301), api.ErrRange}} {
		if d, e := huff.New(w.lens); d != nil || e != w.e {
			t.Errorf("New(%d): %d", w.lens, e)
		}
	}
	d, e := huff.New([]int{0, 2, 0, 1})
	if e != api.OK {
		t.Fatal(e)
	}
	if n, e := d.Next(bits.NewReader([]byte{0})); n != 3 || e != api.OK {
		t.Errorf("0: %d, %d", n, e)
	}
	if n, e := d.Next(bits.NewReader([]byte{1})); n != 1 || e != api.OK {
		t.Errorf("10: %d, %d", n, e)
	}
	if n, e := d.Next(bits.NewReader([]byte{255, 255})); n != 0 || e != api.ErrForm {
		t.Errorf("15 bits that are none: %d, %d", n, e)
	}
	if n, e := d.Next(bits.NewReader([]byte{255})); n != 0 || e != api.ErrShort {
		t.Errorf("8 bits that are none: %d, %d", n, e)
	}
	if n, e := d.Next(bits.NewReader(nil)); n != 0 || e != api.ErrShort {
		t.Errorf("no bits: %d, %d", n, e)
	}
	deep, _ := huff.New([]int{1, 2, 3, 4, 5, 6, 7, 8, 9, 10, 11, 12, 13, 14, 15, 15})
	if n, e := deep.Next(bits.NewReader([]byte{255, 127})); n != 15 || e != api.OK {
		t.Errorf("15 bits: %d, %d", n, e)
	}
}

// P5.5: what is written by Codes is read by Next; codes that are not all used, too.
func TestRound(t *testing.T) {
	r := rand.New(rand.NewSource(7))
	for range 400 {
		weights := make([]int, 1+r.Intn(300))
		for i := range weights {
			weights[i] = r.Intn(3) * r.Intn(1000)
		}
		weights[0] = 1
		lens, _ := huff.Lengths(weights, 9+r.Intn(7))
		lens[r.Intn(len(lens))] = 0
		codes, _ := huff.Codes(lens)
		d, e := huff.New(lens)
		if e != api.OK {
			continue
		}
		w := bits.NewWriter()
		var want []int
		for range 200 {
			i := r.Intn(len(lens))
			if lens[i] > 0 {
				w.Code(codes[i].Bits, codes[i].Len)
				want = append(want, i)
			}
		}
		in := bits.NewReader(w.Bytes())
		for _, i := range want {
			if n, e := d.Next(in); n != i || e != api.OK {
				t.Fatalf("%d, want %d: %d", n, i, e)
			}
		}
	}
}

// P5.4: nothing that is handed in is changed or kept.
func TestMemory(t *testing.T) {
	weights := []int{4, 1, 1}
	lens, _ := huff.Lengths(weights, 15)
	if !slices.Equal(weights, []int{4, 1, 1}) {
		t.Error("weights are changed")
	}
	d, _ := huff.New(lens)
	c, _ := huff.Codes(lens)
	if !slices.Equal(lens, []int{1, 2, 2}) {
		t.Error("lengths are changed")
	}
	lens[0], lens[1] = 9, 9
	c[0] = huff.Code{}
	if n, e := d.Next(bits.NewReader([]byte{1})); n != 1 || e != api.OK {
		t.Error("a decoder keeps its lengths")
	}
}

package lz_test

import (
	"bytes"
	"math"
	"math/rand"
	"slices"
	"testing"

	"aquatint/api"
	"aquatint/lz"
)

// byWords follows the chapter's words, place by place.
func byWords(b []byte) []lz.Token {
	var out []lz.Token
	for at := 0; at < len(b); {
		best, tries := lz.Token{Byte: int(b[at])}, 0
		for place := at - 1; place >= 0 && at-place <= 32768 && tries < 64 && at+3 <= len(b); place-- {
			if !bytes.Equal(b[place:place+3], b[at:at+3]) {
				continue
			}
			tries++
			n := 3
			for n < 258 && at+n < len(b) && b[place+n] == b[at+n] {
				n++
			}
			if n > best.Len {
				best = lz.Token{Len: n, Dist: at - place}
			}
		}
		out = append(out, best)
		at += max(1, best.Len)
	}
	return out
}

// check holds Find against the chapter's words, and Expand against b.
func check(t *testing.T, b []byte) {
	t.Helper()
	l, e := lz.Find(b)
	if e != api.OK || !slices.Equal(l, byWords(b)) {
		t.Fatalf("Find of %d bytes: %d, %d tokens", len(b), e, len(l))
	}
	if x, e := lz.Expand(l); e != api.OK || !bytes.Equal(x, b) {
		t.Fatalf("Expand of %d bytes: %d", len(b), e)
	}
}

// P6.1: lists that are known.
func TestFind(t *testing.T) {
	cases := []struct {
		s    string
		want []lz.Token
	}{
		{"", nil}, {"a", []lz.Token{{0, 0, 'a'}}}, {"aaa", []lz.Token{{0, 0, 'a'}, {0, 0, 'a'}, {0, 0, 'a'}}},
		{"aaaa", []lz.Token{{0, 0, 'a'}, {3, 1, 0}}},
		{"abcabcd", []lz.Token{{0, 0, 'a'}, {0, 0, 'b'}, {0, 0, 'c'}, {3, 3, 0}, {0, 0, 'd'}}},
		{"abcab", []lz.Token{{0, 0, 'a'}, {0, 0, 'b'}, {0, 0, 'c'}, {0, 0, 'a'}, {0, 0, 'b'}}},
		{"abcdabceabcd", []lz.Token{{0, 0, 'a'}, {0, 0, 'b'}, {0, 0, 'c'}, {0, 0, 'd'}, {3, 4, 0}, {0, 0, 'e'}, {4, 8, 0}}},
	}
	for _, c := range cases {
		if l, e := lz.Find([]byte(c.s)); e != api.OK || !slices.Equal(l, c.want) {
			t.Errorf("Find(%q) = %v, %d", c.s, l, e)
		}
	}
}

// P6.1, P6.4: many lists, of few bytes and of many.
func TestFindMany(t *testing.T) {
	r := rand.New(rand.NewSource(8))
	for i := range 300 {
		b := make([]byte, r.Intn(600))
		for j := range b {
			b[j] = byte(r.Intn(1 + i%5))
		}
		check(t, b)
	}
	check(t, make([]byte, 3000))
	b := make([]byte, 2000)
	r.Read(b)
	check(t, append(b, b...))
}

// P6.1: the longest piece, the farthest place, and the 64 places.
func TestFindEdges(t *testing.T) {
	l, _ := lz.Find(make([]byte, 1+258+258+2))
	if want := []lz.Token{{}, {258, 1, 0}, {258, 1, 0}, {}, {}}; !slices.Equal(l, want) {
		t.Errorf("%v", l)
	}
	for _, far := range []int{32768, 32769} {
		b := []byte("xyz")
		for len(b) < far {
			b = append(b, byte(len(b)%7), byte(len(b)>>8), byte(len(b)>>8&3)+100)
		}
		b = append(b[:far], "xyz"...)
		l, _ := lz.Find(b)
		if last := l[len(l)-1]; (last == lz.Token{Len: 3, Dist: 32768}) != (far == 32768) || far == 32769 && last != (lz.Token{Byte: 'z'}) {
			t.Errorf("%d back: %v", far, last)
		}
	}
	for _, between := range []int{63, 64} {
		b := []byte("abcdef")
		for i := range between {
			b = append(b, "abc"...)
			b = append(b, byte(i+128))
		}
		l, _ := lz.Find(append(b, "abcdef"...))
		found := slices.ContainsFunc(l, func(x lz.Token) bool { return x.Len == 6 })
		if found != (between == 63) {
			t.Errorf("%d places between", between)
		}
	}
}

// P6.1, P6.2: the limit.
func TestLimit(t *testing.T) {
	b := make([]byte, 40000)
	rand.New(rand.NewSource(9)).Read(b)
	l, e := lz.Find(b)
	if e != api.OK {
		t.Error("40000 bytes")
	}
	if x, e := lz.Expand(l); e != api.OK || !bytes.Equal(x, b) {
		t.Error("40000 bytes back")
	}
	if x, e := lz.Expand(append(slices.Clone(l), lz.Token{})); x != nil || e != api.ErrLarge {
		t.Error("a byte more")
	}
	if x, e := lz.Expand(append(slices.Clone(l[:len(l)-2]), lz.Token{Len: 3, Dist: 1})); x != nil || e != api.ErrLarge {
		t.Error("a copy that goes beyond")
	}
	if l, e := lz.Find(make([]byte, 40001)); l != nil || e != api.ErrLarge {
		t.Error("40001 bytes")
	}
}

// P6.2: tokens that are none, or go back too far: the first from the front.
func TestExpand(t *testing.T) {
	a, none, back := lz.Token{Byte: 'a'}, lz.Token{Len: 2, Dist: 1}, lz.Token{Len: 3, Dist: 2}
	cases := []struct {
		l    []lz.Token
		want string
		e    api.Errno
	}{
		{nil, "", api.OK}, {[]lz.Token{a, {3, 1, 0}}, "aaaa", api.OK}, {[]lz.Token{a, {0, 0, 'b'}, {5, 2, 0}}, "abababa", api.OK}, {[]lz.Token{{0, 0, 255}}, "\xff", api.OK},
		{[]lz.Token{a, none}, "", api.ErrForm}, {[]lz.Token{a, back}, "", api.ErrRange}, {[]lz.Token{{3, 1, 0}}, "", api.ErrRange},
		{[]lz.Token{none, back}, "", api.ErrForm}, {[]lz.Token{back, none}, "", api.ErrRange},
	}
	for _, x := range []lz.Token{{0, 0, 256}, {0, 0, -1}, {0, 1, 0}, {0, -1, 0}, {1, 1, 0}, {2, 1, 0}, {259, 1, 0}, {-1, 0, 0}, {3, 0, 0}, {3, -1, 0}, {3, 32769, 0}, {3, 1, 1},
		{math.MaxInt, 1, 0}, {math.MinInt, 1, 0}, {3, math.MaxInt, 0}, {3, math.MinInt, 0}, {0, 0, math.MaxInt}} {
		cases = append(cases, struct {
			l    []lz.Token
			want string
			e    api.Errno
		}{[]lz.Token{a, x}, "", api.ErrForm})
	}
	for _, c := range cases {
		if b, e := lz.Expand(c.l); string(b) != c.want || e != c.e {
			t.Errorf("Expand(%v) = %q, %d", c.l, b, e)
		}
	}
	far := slices.Repeat([]lz.Token{a}, 32768)
	if b, e := lz.Expand(append(far, lz.Token{Len: 258, Dist: 32768})); len(b) != 32768+258 || e != api.OK {
		t.Error("the farthest copy")
	}
}

// P6.3: nothing is changed or shared.
func TestMemory(t *testing.T) {
	b := []byte("abcabcabc")
	l, _ := lz.Find(b)
	if string(b) != "abcabcabc" {
		t.Error("changed")
	}
	l[0].Byte = 'z'
	if m, _ := lz.Find(b); m[0].Byte != 'a' {
		t.Error("shared")
	}
	x, _ := lz.Expand(l)
	x[0] = 'q'
	if y, _ := lz.Expand(l); string(y) != "zbczbczbc" {
		t.Errorf("shared: %s", y)
	}
}

package join_test

import (
	"math/rand"
	"slices"
	"strings"
	"testing"

	"aquatint/api"
	"aquatint/join"
	"aquatint/obj"
)

// tree is one of a row of tiles, a digit each.
func tree(digits string) obj.Tree {
	t := obj.Tree{Shape: api.Shape{W: 8 * len(digits), H: 1, Chan: 1, Depth: 8}}
	for _, c := range digits {
		t.Keys = append(t.Keys, strings.Repeat(string(c), 64))
	}
	return t
}

// digits are those of a tree.
func digits(t obj.Tree) string {
	out := ""
	for _, k := range t.Keys {
		out += k[:1]
	}
	return out
}

// mask is one by signs 0 and 1.
func mask(s string) []bool {
	var out []bool
	for _, c := range s {
		out = append(out, c == '1')
	}
	return out
}

// P23.1: tile by tile.
func TestMerge(t *testing.T) {
	cases := []struct{ base, a, b, want, mask string }{
		{"0", "0", "0", "0", "0"}, {"0", "1", "0", "1", "0"}, {"0", "0", "2", "2", "0"}, {"0", "1", "1", "1", "0"}, {"0", "1", "2", "1", "1"},
		{"00000", "01011", "00212", "01211", "00001"}, {"0123", "abcd", "4567", "abcd", "1111"}, {"0123", "0123", "4567", "4567", "0000"},
	}
	for _, c := range cases {
		a, b, base := tree(c.a), tree(c.b), tree(c.base)
		x, m, e := join.Merge(base, a, b)
		if e != api.OK || digits(x) != c.want || x.Shape != a.Shape || !slices.Equal(m, mask(c.mask)) {
			t.Errorf("%v: %s, %v, %d", c, digits(x), m, e)
		}
		if digits(a) != c.a || digits(b) != c.b || digits(base) != c.base {
			t.Error("changed")
		}
	}
}

// P23.1, P23.2: trees that may not be, or are unlike.
func TestWrong(t *testing.T) {
	good, long := tree("01"), tree("012")
	deep := tree("01")
	deep.Shape.Depth = 16
	for i, bad := range []obj.Tree{{}, {Shape: good.Shape}, {Shape: good.Shape, Keys: long.Keys}, {Shape: good.Shape, Keys: []string{"x", "y"}}, {Keys: good.Keys}} {
		for _, l := range [][3]obj.Tree{{bad, good, good}, {good, bad, good}, {good, good, bad}, {bad, long, good}} {
			if x, m, e := join.Merge(l[0], l[1], l[2]); x.Keys != nil || x.Shape != (api.Shape{}) || m != nil || e != api.ErrForm {
				t.Errorf("Merge, case %d: %d", i, e)
			}
		}
		for _, l := range [][2]obj.Tree{{bad, good}, {good, bad}, {bad, long}} {
			if x, e := join.Resolve(l[0], mask("0"), l[1]); x.Keys != nil || x.Shape != (api.Shape{}) || e != api.ErrForm {
				t.Errorf("Resolve, case %d: %d", i, e)
			}
			if x, e := join.Changed(l[0], l[1]); x != nil || e != api.ErrForm {
				t.Errorf("Changed, case %d: %d", i, e)
			}
		}
	}
	for i, other := range []obj.Tree{long, deep} {
		for _, l := range [][3]obj.Tree{{other, good, good}, {good, other, good}, {good, good, other}} {
			if x, m, e := join.Merge(l[0], l[1], l[2]); x.Keys != nil || m != nil || e != api.ErrShape {
				t.Errorf("Merge, case %d: %d", i, e)
			}
		}
		if x, e := join.Resolve(good, mask("00"), other); x.Keys != nil || e != api.ErrShape {
			t.Errorf("Resolve, case %d: %d", i, e)
		}
		if x, e := join.Changed(good, other); x != nil || e != api.ErrShape {
			t.Errorf("Changed, case %d: %d", i, e)
		}
	}
	for _, m := range []string{"", "1", "000"} {
		if x, e := join.Resolve(good, mask(m), good); x.Keys != nil || e != api.ErrShape {
			t.Errorf("a mask of %d: %d", len(m), e)
		}
	}
}

// P23.2: Resolve, Clean, Changed.
func TestResolve(t *testing.T) {
	a, b := tree("0123"), tree("4563")
	for m, want := range map[string]string{"0000": "0123", "1111": "4563", "0100": "0523", "1001": "4123"} {
		if x, e := join.Resolve(a, mask(m), b); e != api.OK || digits(x) != want || x.Shape != a.Shape {
			t.Errorf("%s: %s, %d", m, digits(x), e)
		}
		if join.Clean(mask(m)) != (m == "0000") {
			t.Errorf("Clean of %s", m)
		}
	}
	if !join.Clean(nil) || join.Clean([]bool{true}) {
		t.Error("Clean")
	}
	if l, e := join.Changed(a, b); e != api.OK || !slices.Equal(l, []int{0, 1, 2}) {
		t.Error(l, e)
	}
	if l, e := join.Changed(a, a); e != api.OK || len(l) != 0 {
		t.Error(l, e)
	}
}

// P23.4: what follows.
func TestFollows(t *testing.T) {
	r := rand.New(rand.NewSource(32))
	for range 500 {
		var s [3]string
		n := 1 + r.Intn(12)
		for i := range s {
			for range n {
				s[i] += string("0123"[r.Intn(1+r.Intn(4))])
			}
		}
		base, a, b := tree(s[0]), tree(s[1]), tree(s[2])
		x, m, _ := join.Merge(base, a, b)
		y, o, _ := join.Merge(base, b, a)
		if !slices.Equal(m, o) || join.Clean(m) && digits(x) != digits(y) {
			t.Fatal(s)
		}
		x, m, _ = join.Merge(base, a, base)
		y, o, _ = join.Merge(base, base, b)
		if digits(x) != s[1] || digits(y) != s[2] || !join.Clean(m) || !join.Clean(o) {
			t.Fatal(s)
		}
	}
}

// P23.3: nothing is kept or shared.
func TestMemory(t *testing.T) {
	a := tree("012")
	x, _, _ := join.Merge(a, a, a)
	y, _ := join.Resolve(a, mask("010"), a)
	x.Keys[0], y.Keys[0] = "x", "y"
	if digits(a) != "012" {
		t.Error("shared")
	}
}

package dag_test

import (
	"math"
	"math/rand"
	"slices"
	"strconv"
	"testing"

	"aquatint/api"
	"aquatint/dag"
)

// node is one of a graph.
func node(key string, stamp int, parents ...string) dag.Node {
	return dag.Node{Key: key, Parents: parents, Stamp: stamp}
}

// graph makes one that must be OK.
func graph(t *testing.T, l ...dag.Node) *dag.Graph {
	t.Helper()
	g, e := dag.New(l)
	if e != api.OK {
		t.Fatal(e)
	}
	return g
}

// P22.1: graphs that may be, and that may not: the first error for all.
func TestNew(t *testing.T) {
	row := func(n int) []dag.Node {
		l := []dag.Node{node("0", 1)}
		for i := 1; i < n; i++ {
			l = append(l, node(strconv.Itoa(i), i+1, strconv.Itoa(i-1)))
		}
		return l
	}
	cases := []struct {
		l []dag.Node
		e api.Errno
	}{
		{nil, api.OK}, {row(500), api.OK}, {row(501), api.ErrLimit}, {slices.Repeat([]dag.Node{node("a", 1, "z")}, 501), api.ErrLimit},
		{[]dag.Node{node("a", 1), node("a", 1)}, api.ErrExists}, {[]dag.Node{node("a", 1, "z"), node("b", 1, "a"), node("b", 9)}, api.ErrExists},
		{[]dag.Node{node("a", 1, "z")}, api.ErrNone}, {[]dag.Node{node("a", 1), node("b", 1, "a"), node("c", 5, "z")}, api.ErrNone}, {[]dag.Node{node("a", 1), node("b", 2, "a", "z")}, api.ErrNone},
		{[]dag.Node{node("a", 1), node("b", 1, "a")}, api.ErrRange}, {[]dag.Node{node("a", 2), node("b", 1, "a")}, api.ErrRange}, {[]dag.Node{node("a", 1, "a")}, api.ErrRange}, {[]dag.Node{node("a", 1), node("b", 7), node("c", 5, "a", "b")}, api.ErrRange},
		{[]dag.Node{node("a", 1, "b"), node("b", 2, "a")}, api.ErrRange}, {[]dag.Node{node("b", 2, "a"), node("a", 1)}, api.OK}, {[]dag.Node{node("a", math.MinInt), node("b", math.MaxInt, "a")}, api.OK}, {[]dag.Node{node("", 1), node("b", 2, "", "")}, api.OK},
		{[]dag.Node{node("a", 1), node("b", 2, "a", "a", "a"), node("c", 3, "a", "b", "a")}, api.OK},
	}
	for i, c := range cases {
		g, e := dag.New(c.l)
		if e != c.e || (g == nil) != (e != api.OK) {
			t.Errorf("case %d: %d, want %d", i, e, c.e)
		}
		if e == api.OK && g.Len() != len(c.l) {
			t.Errorf("case %d: Len", i)
		}
	}
}

// P22.2: a small history.
func TestSmall(t *testing.T) {
	g := graph(t, node("a", 1), node("b", 2, "a"), node("c", 2, "a"), node("d", 3, "b", "c"), node("e", 3, "c", "b"), node("x", 9))
	for k, want := range map[string][]string{"a": {"a"}, "b": {"a", "b"}, "d": {"a", "b", "c", "d"}, "x": {"x"}, "q": nil, "": nil} {
		if l := g.Ancestors(k); !slices.Equal(l, want) {
			t.Errorf("Ancestors(%s) = %s", k, l)
		}
		for _, a := range []string{"a", "b", "c", "d", "e", "x", "q", ""} {
			if g.Is(a, k) != slices.Contains(want, a) {
				t.Errorf("Is(%s, %s)", a, k)
			}
		}
	}
	if l := g.Log("d"); !slices.Equal(l, []string{"d", "b", "c", "a"}) {
		t.Error(l)
	}
	if l := g.Log("q"); l != nil {
		t.Error(l)
	}
	cases := []struct {
		a, b, want string
		e          api.Errno
	}{
		{"b", "c", "a", api.OK}, {"a", "c", "a", api.OK}, {"a", "a", "a", api.OK}, {"d", "e", "c", api.OK}, {"d", "b", "b", api.OK}, {"d", "c", "c", api.OK},
		{"x", "a", "", api.ErrBase}, {"x", "x", "x", api.OK}, {"q", "a", "", api.ErrNone}, {"a", "q", "", api.ErrNone}, {"q", "q", "", api.ErrNone}, {"q", "x", "", api.ErrNone},
	}
	for _, c := range cases {
		for range 2 {
			if k, e := g.Base(c.a, c.b); k != c.want || e != c.e {
				t.Errorf("Base(%s, %s) = %s, %d", c.a, c.b, k, e)
			}
			c.a, c.b = c.b, c.a
		}
	}
	if !g.Has("a") || g.Has("q") || g.Len() != 6 {
		t.Error("Has, Len")
	}
	h := graph(t, node("", -5), node("a", -3, ""), node("b", -3, ""))
	if k, e := h.Base("a", "b"); k != "" || e != api.OK {
		t.Error("the empty key", e)
	}
}

// reach tells by Parents alone whether a is an ancestor of b.
func reach(l map[string]dag.Node, a, b string) bool {
	if a == b {
		return true
	}
	for _, p := range l[b].Parents {
		if reach(l, a, p) {
			return true
		}
	}
	return false
}

// nearest is Base by the chapter's words.
func nearest(l map[string]dag.Node, a, b string) (string, bool) {
	best, found := "", false
	for k := range l {
		if !reach(l, k, a) || !reach(l, k, b) {
			continue
		}
		nearer := false
		for o := range l {
			nearer = nearer || o != k && reach(l, o, a) && reach(l, o, b) && reach(l, k, o)
		}
		if !nearer && (!found || l[k].Stamp > l[best].Stamp || l[k].Stamp == l[best].Stamp && k > best) {
			best, found = k, true
		}
	}
	return best, found
}

// P22.2, P22.4: histories by chance, in whatever order.
func TestChance(t *testing.T) {
	r := rand.New(rand.NewSource(31))
	for range 120 {
		byKey := map[string]dag.Node{}
		var l []dag.Node
		for i := range 1 + r.Intn(12) {
			n := dag.Node{Key: string(rune('a'+r.Intn(26))) + strconv.Itoa(i), Stamp: r.Intn(3)}
			for range r.Intn(3) {
				if len(l) > 0 {
					p := l[r.Intn(len(l))]
					n.Parents = append(n.Parents, p.Key)
					n.Stamp = max(n.Stamp, p.Stamp+1+r.Intn(2))
				}
			}
			l = append(l, n)
			byKey[n.Key] = n
		}
		r.Shuffle(len(l), func(i, j int) { l[i], l[j] = l[j], l[i] })
		g := graph(t, l...)
		for a := range byKey {
			var want []string
			for b := range byKey {
				if reach(byKey, b, a) {
					want = append(want, b)
				}
				base, ok := nearest(byKey, a, b)
				k, e := g.Base(a, b)
				if k != base || ok != (e == api.OK) || !ok && e != api.ErrBase {
					t.Fatalf("%v: Base(%s, %s) = %s, %d, want %s", l, a, b, k, e, base)
				}
				if g.Is(a, b) != reach(byKey, a, b) {
					t.Fatal("Is")
				}
			}
			slices.Sort(want)
			if !slices.Equal(g.Ancestors(a), want) {
				t.Fatal("Ancestors")
			}
			slices.SortStableFunc(want, func(x, y string) int { return byKey[y].Stamp - byKey[x].Stamp })
			if !slices.Equal(g.Log(a), want) {
				t.Fatal("Log")
			}
		}
	}
}

// P22.3: nothing is kept or shared.
func TestMemory(t *testing.T) {
	l := []dag.Node{node("a", 1), node("b", 2, "a")}
	g := graph(t, l...)
	l[1].Parents[0], l[0].Key = "x", "y"
	g.Ancestors("b")[0], g.Log("b")[0] = "z", "z"
	if !slices.Equal(g.Ancestors("b"), []string{"a", "b"}) || !slices.Equal(g.Log("b"), []string{"b", "a"}) {
		t.Error("shared")
	}
}

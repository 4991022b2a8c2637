package world_test

import (
	"bytes"
	"math"
	"math/rand"
	"reflect"
	"slices"
	"testing"

	"aquatint/api"
	"aquatint/pix"
	"aquatint/png"
	"aquatint/refs"
	"aquatint/world"
)

// row is a picture of tiles side by side, a sign each.
func row(signs string) api.Raster {
	p := api.Raster{Shape: api.Shape{W: 8 * len(signs), H: 1, Chan: 1, Depth: 8}}
	for i := range len(signs) {
		p.Pix = append(p.Pix, bytes.Repeat([]byte{signs[i]}, 8)...)
	}
	return p
}

// fresh is a new world.
func fresh(t *testing.T) *world.World {
	t.Helper()
	w, e := world.New(400, 24, 20)
	if e != api.OK {
		t.Fatal(e)
	}
	return w
}

// commit is an act.
func commit(branch, signs string) world.Act {
	return world.Act{Kind: world.Commit, Name: branch, Other: "ann", Text: "t", Pic: row(signs)}
}

// do does an act that can be done, and gives what was told.
func do(t *testing.T, w *world.World, a world.Act) world.Told {
	t.Helper()
	n := len(w.Told())
	if !w.Do(a) || len(w.Told()) != n+1 {
		t.Fatalf("kind %d is refused", a.Kind)
	}
	return w.Told()[n]
}

// is holds what was told.
func is(t *testing.T, got, want world.Told) {
	t.Helper()
	for _, x := range []*world.Told{&got, &want} {
		if len(x.Keys) == 0 {
			x.Keys = nil
		}
		if len(x.Places) == 0 {
			x.Places = nil
		}
		if len(x.Mask) == 0 {
			x.Mask = nil
		}
	}
	if !reflect.DeepEqual(got, want) {
		t.Errorf("told %v, want %v", got, want)
	}
}

// P25.1: worlds that can be made, and that can't.
func TestNew(t *testing.T) {
	for i, k := range []int{world.Commit, world.Branch, world.Tag, world.Delete, world.Merge, world.Log, world.Diff, world.Checkout, world.Repack, world.Collect, world.Fsck, world.Fall, world.Plan, world.Open} {
		if k != i+1 {
			t.Error("kinds")
		}
	}
	for _, c := range [][3]int{{3, 1, 1}, {4097, 5, 5}, {100, 0, 5}, {100, 5, 0}, {10, 5, 5}, {math.MaxInt, math.MinInt, 0}} {
		if w, e := world.New(c[0], c[1], c[2]); w != nil || e != api.ErrRange {
			t.Errorf("%d: %d", c, e)
		}
	}
	w := fresh(t)
	if w.Repo() == nil || w.Disk() != w.Repo().FS().Disk() || w.Disk().Sectors() != 400 || len(w.Told()) != 0 || len(w.Keys()) != 0 {
		t.Error("a new one")
	}
}

// P25.1, P25.2: what each act tells.
func TestActs(t *testing.T) {
	w := fresh(t)
	a := do(t, w, commit("main", "000"))
	is(t, a, world.Told{Act: 0, Key: a.Key})
	l, _ := w.Repo().Log("main")
	if len(l) != 1 || l[0].Key != a.Key || l[0].Commit.Author != "ann" || l[0].Commit.Text != "t" {
		t.Error(l)
	}
	is(t, do(t, w, world.Act{Kind: world.Branch, Name: "side", Key: 0}), world.Told{Act: 1})
	is(t, do(t, w, world.Act{Kind: world.Branch, Name: "side", Key: 1}), world.Told{Act: 2, Err: api.ErrName})
	is(t, do(t, w, world.Act{Kind: world.Branch, Name: "side", Key: -1}), world.Told{Act: 3, Err: api.ErrName})
	is(t, do(t, w, world.Act{Kind: world.Tag, Name: "v", Key: 0}), world.Told{Act: 4})
	is(t, do(t, w, world.Act{Kind: world.Tag, Name: "v", Key: 0}), world.Told{Act: 5, Err: api.ErrExists})
	b := do(t, w, commit("main", "100"))
	c := do(t, w, commit("side", "020"))
	m := do(t, w, world.Act{Kind: world.Merge, Name: "main", Other: "side", Text: "x"})
	is(t, m, world.Told{Act: 8, Key: m.Key, Mask: make([]bool, 3)})
	if w.Do(world.Act{Kind: 0}) || w.Do(world.Act{Kind: 15}) || w.Do(world.Act{Kind: world.Open}) || w.Do(world.Act{Kind: -1}) || w.Do(world.Act{Kind: math.MaxInt}) || w.Do(world.Act{Kind: math.MinInt}) {
		t.Error("an act that is none")
	}
	if !slices.Equal(w.Keys(), []string{a.Key, b.Key, c.Key, m.Key}) {
		t.Error("Keys")
	}
	l, _ = w.Repo().Log("main")
	if x := l[0].Commit; x.Author != "m" || x.Text != "x" || !slices.Equal(x.Parents, []string{b.Key, c.Key}) {
		t.Error(x)
	}
	var keys []string
	for _, x := range l {
		keys = append(keys, x.Key)
	}
	is(t, do(t, w, world.Act{Kind: world.Log, Name: "main"}), world.Told{Act: 15, Keys: keys})
	is(t, do(t, w, world.Act{Kind: world.Log, Name: "none"}), world.Told{Act: 16, Err: api.ErrNone})
	is(t, do(t, w, world.Act{Kind: world.Diff, N: 1, M: 2}), world.Told{Act: 17, Places: []int{0, 1}})
	is(t, do(t, w, world.Act{Kind: world.Diff, N: 1, M: 9}), world.Told{Act: 18, Err: api.ErrName})
	p, _ := png.Encode(row("120"))
	is(t, do(t, w, world.Act{Kind: world.Checkout, Key: 3}), world.Told{Act: 19, Count: len(p)})
	is(t, do(t, w, world.Act{Kind: world.Checkout, Key: 4}), world.Told{Act: 20, Err: api.ErrName})
	is(t, do(t, w, world.Act{Kind: world.Repack, N: 0}), world.Told{Act: 21, Err: api.ErrRange})
	is(t, do(t, w, world.Act{Kind: world.Repack, N: 7}), world.Told{Act: 22})
	is(t, do(t, w, commit("main", "420")), world.Told{Act: 23, Key: w.Keys()[4]})
	is(t, do(t, w, commit("side", "520")), world.Told{Act: 24, Key: w.Keys()[5]})
	is(t, do(t, w, world.Act{Kind: world.Merge, Name: "main", Other: "side"}), world.Told{Act: 25, Err: api.ErrMask, Mask: []bool{true, false, false}})
	x := do(t, w, world.Act{Kind: world.Merge, Name: "side", Other: "main", Pic: row("xyz")})
	is(t, x, world.Told{Act: 26, Key: x.Key, Mask: []bool{true, false, false}})
	is(t, do(t, w, world.Act{Kind: world.Merge, Name: "side", Other: "main"}), world.Told{Act: 27, Key: x.Key})
	if n := len(w.Keys()); n != 7 || w.Keys()[6] != x.Key {
		t.Error("a key is kept once", n)
	}
	is(t, do(t, w, world.Act{Kind: world.Delete, Name: "v", N: 0}), world.Told{Act: 28, Err: api.ErrNone})
	is(t, do(t, w, world.Act{Kind: world.Delete, Name: "v", N: 2}), world.Told{Act: 29, Err: api.ErrNone})
	is(t, do(t, w, world.Act{Kind: world.Delete, Name: "v", N: 1}), world.Told{Act: 30})
	is(t, do(t, w, world.Act{Kind: world.Delete, Name: "side"}), world.Told{Act: 31})
	before := len(w.Repo().Objects())
	n := do(t, w, world.Act{Kind: world.Collect})
	is(t, n, world.Told{Act: 32, Count: before - len(w.Repo().Objects())})
	if n.Count == 0 {
		t.Error("nothing was collected")
	}
	is(t, do(t, w, world.Act{Kind: world.Fsck}), world.Told{Act: 33})
	if r := w.Repo().Refs(); !slices.Equal(r, []refs.Ref{{Name: "main", Key: w.Keys()[4]}}) {
		t.Error(r)
	}
	is(t, do(t, w, world.Act{Kind: world.Commit, Name: "", Pic: row("1")}), world.Told{Act: 34, Err: api.ErrName})
}

// P25.1: keys that a Log tells are kept, in order.
func TestKeys(t *testing.T) {
	w := fresh(t)
	a, _ := w.Repo().Commit("main", "u", "", row("1"))
	b, _ := w.Repo().Commit("main", "u", "", row("2"))
	is(t, do(t, w, world.Act{Kind: world.Log, Name: "main"}), world.Told{Keys: []string{b, a}})
	if !slices.Equal(w.Keys(), []string{b, a}) {
		t.Error(w.Keys())
	}
	is(t, do(t, w, world.Act{Kind: world.Diff, N: 0, M: 1}), world.Told{Act: 1, Places: []int{0}})
}

// P25.2: falls, plans, openings.
func TestFalls(t *testing.T) {
	w := fresh(t)
	do(t, w, commit("main", "12"))
	is(t, do(t, w, world.Act{Kind: world.Fall, Mask: []byte{255}}), world.Told{Act: 1})
	if w.Repo() != nil || w.Disk().Up() {
		t.Error("it is open")
	}
	for k := range 14 {
		if w.Do(world.Act{Kind: k}) || w.Do(commit("main", "1")) {
			t.Errorf("kind %d while it is not open", k)
		}
	}
	is(t, do(t, w, world.Act{Kind: world.Open}), world.Told{Act: 30})
	if w.Repo() == nil || w.Do(world.Act{Kind: world.Open}) {
		t.Error("Open")
	}
	is(t, do(t, w, world.Act{Kind: world.Checkout, Key: 0}), world.Told{Act: 32, Count: w.Told()[len(w.Told())-1].Count})
	if p, e := w.Repo().Picture(w.Keys()[0]); e != api.OK || !pix.Same(p, row("12")) {
		t.Error("the picture", e)
	}
	is(t, do(t, w, world.Act{Kind: world.Plan, N: 2, Mask: []byte{3}}), world.Told{Act: 33})
	is(t, do(t, w, commit("main", "34")), world.Told{Act: 34, Err: api.ErrDown})
	if w.Repo() != nil || len(w.Keys()) != 1 {
		t.Error("a fall does not close it")
	}
	is(t, do(t, w, world.Act{Kind: world.Open}), world.Told{Act: 35})
	// Two blocks, a tile's and so on, the ring, the mark: a fall behind the mark is redone at the next Open, where it falls again.
	writes := w.Disk().Writes()
	c := w.Copy()
	do(t, c, commit("main", "56"))
	whole := c.Disk().Writes() - writes
	do(t, w, world.Act{Kind: world.Plan, N: whole - 1, Mask: nil})
	is(t, do(t, w, commit("main", "56")), world.Told{Act: 37, Err: api.ErrDown})
	w.Disk().Reboot()
	w.Disk().CrashAt(1, nil)
	is(t, do(t, w, world.Act{Kind: world.Open}), world.Told{Act: 38, Err: api.ErrDown})
	if w.Repo() != nil || w.Disk().Up() {
		t.Error("a fall within Open")
	}
	is(t, do(t, w, world.Act{Kind: world.Open}), world.Told{Act: 39})
	l := do(t, w, world.Act{Kind: world.Log, Name: "main"})
	if len(l.Keys) != 2 || len(w.Keys()) != 2 {
		t.Error("what was redone is told", l)
	}
}

// P25.2: an Open that has an error leaves it closed.
func TestOpenWrong(t *testing.T) {
	w := fresh(t)
	do(t, w, world.Act{Kind: world.Fall})
	w.Disk().Turn(0, 0)
	is(t, do(t, w, world.Act{Kind: world.Open}), world.Told{Act: 1, Err: api.ErrForm})
	if w.Repo() != nil {
		t.Error("it is open")
	}
	w.Disk().Turn(0, 0)
	is(t, do(t, w, world.Act{Kind: world.Open}), world.Told{Act: 2})
	if w.Repo() == nil {
		t.Error("it is not open")
	}
}

// P25.3: runs of at most 300 acts.
func TestRun(t *testing.T) {
	w := fresh(t)
	l := slices.Repeat([]world.Act{{Kind: world.Fsck}}, 310)
	l[3].Kind, l[299].Kind = 99, world.Open
	if n := w.Run(l); n != 298 || len(w.Told()) != 298 {
		t.Error(n)
	}
	if x := w.Told(); x[2].Act != 2 || x[3].Act != 4 || x[297].Act != 298 {
		t.Error("numbers")
	}
	if w.Run(nil) != 0 || w.Run(l[:2]) != 2 || w.Told()[299].Act != 301 {
		t.Error("a second run")
	}
}

// P25.3, P25.4: a copy has all, and shares nothing.
func TestCopy(t *testing.T) {
	w := fresh(t)
	do(t, w, commit("main", "1"))
	do(t, w, world.Act{Kind: 7, N: 5})
	do(t, w, world.Act{Kind: world.Plan, N: 1})
	c := w.Copy()
	if !reflect.DeepEqual(c.Told(), w.Told()) || !slices.Equal(c.Keys(), w.Keys()) || c.Repo() == nil || c.Repo() == w.Repo() || c.Disk() == w.Disk() || c.Repo().FS().Disk() != c.Disk() {
		t.Error("the copy")
	}
	is(t, do(t, c, commit("main", "2")), world.Told{Act: 3, Err: api.ErrDown})
	if w.Repo() == nil || len(w.Told()) != 3 || !w.Disk().Up() || c.Repo() != nil {
		t.Error("shared")
	}
	if x := c.Copy(); x.Repo() != nil || x.Disk().Up() || len(x.Told()) != 4 {
		t.Error("a copy of one that is not open")
	}
	w.Disk().Turn(0, 0)
	if x := w.Copy(); x.Repo() != nil || w.Repo() == nil {
		t.Error("a copy that can't be opened")
	}
}

// P25.4: nothing is kept or shared.
func TestMemory(t *testing.T) {
	w := fresh(t)
	a := commit("main", "12")
	do(t, w, a)
	a.Pic.Pix[0] = 99
	do(t, w, world.Act{Kind: world.Log, Name: "main"})
	do(t, w, commit("main", "13"))
	do(t, w, world.Act{Kind: world.Diff, N: 0, M: 1})
	x := w.Told()
	x[0].Key, x[1].Keys[0], x[3].Places[0] = "x", "x", 9
	w.Keys()[0] = "x"
	if y := w.Told(); y[0].Key == "x" || y[1].Keys[0] == "x" || y[3].Places[0] != 1 || w.Keys()[0] == "x" {
		t.Error("shared")
	}
	do(t, w, world.Act{Kind: world.Branch, Name: "b", Key: 0})
	do(t, w, commit("b", "99"))
	do(t, w, world.Act{Kind: world.Merge, Name: "main", Other: "b"})
	x = w.Told()
	x[len(x)-1].Mask[1] = false
	if y := w.Told(); !y[len(y)-1].Mask[1] {
		t.Error("a mask is shared")
	}
	c := w.Copy()
	x = c.Told()
	x[1].Keys[0] = "x"
	if w.Told()[1].Keys[0] == "x" {
		t.Error("a copy shares what was told")
	}
}

// P25.5: acts by chance: pictures stay, the room is whole, behind a Collect all is live.
func TestChance(t *testing.T) {
	r := rand.New(rand.NewSource(35))
	kinds := map[int]int{}
	for range 25 {
		w, _ := world.New(220, 18, 14)
		pictures := map[string]api.Raster{}
		for range 90 {
			a := world.Act{Kind: 1 + r.Intn(14), N: r.Intn(20), M: r.Intn(6), Key: r.Intn(6), Name: string("ab"[r.Intn(2)]), Other: string("ab"[r.Intn(2)]), Pic: row(string("xyz"[r.Intn(3)]) + string("xyz"[r.Intn(3)])), Mask: []byte{byte(r.Intn(256)), byte(r.Intn(256))}}
			if r.Intn(3) == 0 {
				a.Kind = world.Commit
			}
			if w.Repo() == nil {
				a.Kind = world.Open
			}
			if !w.Do(a) {
				continue
			}
			x := w.Told()[len(w.Told())-1]
			kinds[a.Kind]++
			if a.Kind == world.Commit && x.Err == api.OK {
				pictures[x.Key] = a.Pic
			}
			if x.Err == api.ErrSum || x.Err == api.ErrTwin || a.Kind == world.Fsck && (len(x.Keys) > 0 || x.Err != api.OK) {
				t.Fatal(a.Kind, x)
			}
			if w.Repo() == nil {
				continue
			}
			f := w.Repo().FS()
			if f.Used()+f.Free() != 220-18-3-14 || f.Free() < 0 {
				t.Fatal("room")
			}
			for _, ref := range w.Repo().Refs() {
				l, e := w.Repo().Log(ref.Name)
				if !ref.Tag && e != api.OK {
					t.Fatal("Log", e)
				}
				for _, c := range l {
					p, e := w.Repo().Picture(c.Key)
					want, there := pictures[c.Key]
					if e != api.OK || there && !pix.Same(p, want) {
						t.Fatal("a picture", e)
					}
				}
			}
			if a.Kind == world.Collect && x.Err == api.OK {
				n, _ := w.Copy().Repo().Collect()
				if n != 0 {
					t.Fatal("something is not live")
				}
			}
		}
	}
	if len(kinds) != 14 {
		t.Error(kinds)
	}
}

package refs_test

import (
	"bytes"
	"math/rand"
	"slices"
	"strconv"
	"strings"
	"testing"

	"aquatint/api"
	"aquatint/disk"
	"aquatint/fsys"
	"aquatint/refs"
)

// key is 64 digits.
func key(c string) string { return strings.Repeat(c, 64) }

// branch and tag are refs.
func branch(name, k string) refs.Ref { return refs.Ref{Name: name, Key: key(k)} }
func tag(name, k string) refs.Ref    { return refs.Ref{Tag: true, Name: name, Key: key(k)} }

// many are so many branches.
func many(n int) []refs.Ref {
	var out []refs.Ref
	for i := range n {
		out = append(out, branch("b"+strconv.Itoa(1000+i), "1"))
	}
	return out
}

// good are refs that may be.
func good() []refs.Ref {
	return []refs.Ref{branch("Z", "1"), branch("a", "2"), branch("a-b", "3"), branch("aa", "4"), branch("größe/中", "5"), tag("A", "6"), tag("a", "7"), tag("λ", "8")}
}

// P21.1: refs that may be, and that may not.
func TestMay(t *testing.T) {
	cases := []struct {
		l    []refs.Ref
		want bool
	}{
		{nil, true}, {good(), true}, {many(100), true}, {many(101), false},
		{[]refs.Ref{branch("", "1")}, false}, {[]refs.Ref{branch("a b", "1")}, false}, {[]refs.Ref{branch("\xff", "1")}, false}, {[]refs.Ref{branch(strings.Repeat("a", 41), "1")}, false},
		{[]refs.Ref{{Name: "a"}}, false}, {[]refs.Ref{{Name: "a", Key: key("A")}}, false}, {[]refs.Ref{{Name: "a", Key: key("1") + "1"}}, false},
		{[]refs.Ref{branch("a", "1"), branch("a", "1")}, false}, {[]refs.Ref{branch("a", "1"), branch("a", "2")}, false}, {[]refs.Ref{branch("b", "1"), branch("a", "1")}, false},
		{[]refs.Ref{tag("a", "1"), branch("b", "1")}, false}, {[]refs.Ref{branch("b", "1"), tag("a", "1")}, true}, {[]refs.Ref{branch("a", "1"), tag("a", "1")}, true}, {[]refs.Ref{tag("b", "1"), tag("a", "1")}, false},
	}
	for i, c := range cases {
		if refs.May(c.l) != c.want {
			t.Errorf("case %d", i)
		}
		b, e := refs.Encode(c.l)
		x, f := refs.Save(c.l)
		if c.want && (e != api.OK || f != api.OK) || !c.want && (b != nil || e != api.ErrForm || x.Name != "" || x.Kind != 0 || x.Data != nil || f != api.ErrForm) {
			t.Errorf("case %d: Encode %d, Save %d", i, e, f)
		}
	}
}

// The words: Compare.
func TestCompare(t *testing.T) {
	l := good()
	for i, a := range l {
		for j, b := range l {
			want := 0
			if i < j {
				want = -1
			} else if i > j {
				want = 1
			}
			b.Key = key("9")
			if refs.Compare(a, b) != want {
				t.Errorf("%v, %v", a, b)
			}
		}
	}
	if refs.Compare(branch("zzzz", "1"), tag("", "1")) != -1 || refs.Compare(branch("aaaa", "1"), branch("b", "1")) != -1 {
		t.Error("Compare")
	}
}

// P21.1, P21.4: lines, and back.
func TestBytes(t *testing.T) {
	l := []refs.Ref{branch("main", "a"), tag("größe", "0")}
	want := "branch \"main\" " + key("a") + "\ntag \"größe\" " + key("0") + "\n"
	b, e := refs.Encode(l)
	if e != api.OK || string(b) != want {
		t.Errorf("%q, %d", b, e)
	}
	for _, l := range [][]refs.Ref{nil, l, good(), many(100)} {
		b, _ := refs.Encode(l)
		if x, e := refs.Decode(b); e != api.OK || !slices.Equal(x, l) {
			t.Error(x, e)
		}
	}
	if b, e := refs.Encode(nil); len(b) != 0 || e != api.OK {
		t.Error("nothing")
	}
}

// P21.1: bytes that are none.
func TestDecodeWrong(t *testing.T) {
	k := key("1")
	hundred, _ := refs.Encode(many(100))
	for i, s := range []string{
		"branch \"a\" " + k, "branch \"a\" " + k + "\n\n", "\n", "branch a " + k + "\n", "branch \"a\"  " + k + "\n", " branch \"a\" " + k + "\n", "branch \"a\" " + k + " \n", "branch \"a\" \"" + k + "\"\n", "\"branch\" \"a\" " + k + "\n",
		"Branch \"a\" " + k + "\n", "tags \"a\" " + k + "\n", "branch \"a\"\n", "branch \"a\" " + k + " x\n", "branch \"a\" " + k[1:] + "\n", "branch \"a b\" " + k + "\n", "branch \"\" " + k + "\n", "branch \"\\u{1}\" " + k + "\n", "branch \"a " + k + "\n",
		"branch \"b\" " + k + "\nbranch \"a\" " + k + "\n", "branch \"a\" " + k + "\nbranch \"a\" " + k + "\n", "tag \"a\" " + k + "\nbranch \"a\" " + k + "\n", "branch \"\xff\" " + k + "\n", "branch \"a\" " + k + "\r\n", "\xff", "x",
		string(hundred) + "branch \"c\" " + k + "\n", "branch \"a\" " + k + "\nx",
	} {
		if l, e := refs.Decode([]byte(s)); l != nil || e != api.ErrForm {
			t.Errorf("case %d: %q: %d", i, s, e)
		}
	}
	b, _ := refs.Encode(good())
	r := rand.New(rand.NewSource(30))
	for range 5000 {
		x := bytes.Clone(b)
		x[r.Intn(len(x))] = byte(r.Intn(256))
		if l, e := refs.Decode(x); e == api.OK {
			if y, _ := refs.Encode(l); !bytes.Equal(x, y) {
				t.Fatalf("%q", x)
			}
		} else if e != api.ErrForm || l != nil {
			t.Fatal(e)
		}
	}
}

// P21.2: one ref among others.
func TestSetDrop(t *testing.T) {
	l := good()
	if k, ok := refs.Find(l, false, "a"); !ok || k != key("2") {
		t.Error("a branch")
	}
	if k, ok := refs.Find(l, true, "a"); !ok || k != key("7") {
		t.Error("a tag")
	}
	if k, ok := refs.Find(l, true, "aa"); ok || k != "" {
		t.Error("none")
	}
	if k, _ := refs.Find([]refs.Ref{branch("a", "1"), branch("a", "2")}, false, "a"); k != key("1") {
		t.Error("the first one")
	}
	for i, r := range l {
		r.Key = key("9")
		want := slices.Clone(l)
		want[i] = r
		if x := refs.Set(l, r); !slices.Equal(x, want) || !slices.Equal(l, good()) {
			t.Errorf("Set %v: %v", r, x)
		}
		without := slices.Delete(slices.Clone(l), i, i+1)
		x := refs.Drop(l, r.Tag, r.Name)
		if !slices.Equal(x, without) || !slices.Equal(l, good()) {
			t.Errorf("Drop %v: %v", r, x)
		}
		if x := refs.Set(without, r); !slices.Equal(x, want) {
			t.Errorf("Set anew %v: %v", r, x)
		}
	}
	if x := refs.Drop(l, true, "Z"); !slices.Equal(x, l) {
		t.Error("Drop of none")
	}
	double := []refs.Ref{branch("a", "1"), branch("a", "2"), branch("b", "3")}
	if x := refs.Set(double, branch("a", "4")); !slices.Equal(x, []refs.Ref{branch("a", "4"), branch("b", "3")}) {
		t.Error("without all of them", x)
	}
	if x := refs.Drop(double, false, "a"); !slices.Equal(x, double[2:]) {
		t.Error("without all of them", x)
	}
	if x := refs.Set(nil, tag("x", "1")); !slices.Equal(x, []refs.Ref{tag("x", "1")}) {
		t.Error("Set of nothing")
	}
}

// P21.1: the file.
func TestFile(t *testing.T) {
	d, _ := disk.New(60)
	fsys.Format(d, 10, 4)
	f, _ := fsys.Open(d)
	if l, e := refs.Load(f); l != nil || e != api.OK {
		t.Error("no file", e)
	}
	c, e := refs.Save(good())
	want, _ := refs.Encode(good())
	if e != api.OK || c.Kind != fsys.Put || c.Name != "refs" || c.To != "" || !bytes.Equal(c.Data, want) {
		t.Fatal(e)
	}
	if e := f.Do([]fsys.Change{c}); e != api.OK {
		t.Fatal(e)
	}
	if l, e := refs.Load(f); e != api.OK || !slices.Equal(l, good()) {
		t.Error(l, e)
	}
	f.Disk().Crash(nil)
	if l, e := refs.Load(f); l != nil || e != api.ErrDown {
		t.Error("while it is down", e)
	}
	f.Disk().Reboot()
	f.Do([]fsys.Change{{Kind: fsys.Append, Name: "refs", Data: []byte("x")}})
	if l, e := refs.Load(f); l != nil || e != api.ErrForm {
		t.Error("lines that are none", e)
	}
}

// P21.3: nothing is kept or shared.
func TestMemory(t *testing.T) {
	room := append(make([]refs.Ref, 0, 20), good()...)
	x, y := refs.Set(room, tag("zz", "1")), refs.Drop(room, false, "none")
	x[0].Name, y[0].Name = "x", "y"
	_ = append(y, tag("q", "1"))
	if !slices.Equal(room, good()) || room[:9][8] != (refs.Ref{}) {
		t.Error("shared")
	}
}

package repo_test

import (
	"bytes"
	"math/rand"
	"slices"
	"strconv"
	"strings"
	"testing"

	"aquatint/api"
	"aquatint/disk"
	"aquatint/fsys"
	"aquatint/obj"
	"aquatint/pack"
	"aquatint/pix"
	"aquatint/png"
	"aquatint/refs"
	"aquatint/repo"
	"aquatint/sha"
)

// grey is a shape of one channel of 8 bits.
func grey(w, h int) api.Shape { return api.Shape{W: w, H: h, Chan: 1, Depth: 8} }

// flat is a picture of one tile, of one number.
func flat(x int) api.Raster {
	return api.Raster{Shape: grey(2, 2), Pix: bytes.Repeat([]byte{byte(x)}, 4)}
}

// row is a picture of tiles side by side, a sign each.
func row(signs string) api.Raster {
	p := api.Raster{Shape: grey(8*len(signs), 1)}
	for i := range len(signs) {
		p.Pix = append(p.Pix, bytes.Repeat([]byte{signs[i]}, 8)...)
	}
	return p
}

// fresh is an empty repository.
func fresh(t *testing.T, sectors, ring, meta int) *repo.Repo {
	t.Helper()
	d, _ := disk.New(sectors)
	if e := repo.Format(d, ring, meta); e != api.OK {
		t.Fatal(e)
	}
	return open(t, d)
}

// open opens the repository of a disk.
func open(t *testing.T, d *disk.Disk) *repo.Repo {
	t.Helper()
	r, e := repo.Open(d)
	if e != api.OK {
		t.Fatal(e)
	}
	return r
}

// usual is an empty repository with room.
func usual(t *testing.T) *repo.Repo { return fresh(t, 800, 40, 30) }

// commit commits a picture, which must be OK.
func commit(t *testing.T, r *repo.Repo, branch string, p api.Raster) string {
	t.Helper()
	k, e := r.Commit(branch, "u", "", p)
	if e != api.OK || !sha.Valid(k) {
		t.Fatal(e)
	}
	return k
}

// ok holds that something went well.
func ok(t *testing.T, e api.Errno) {
	t.Helper()
	if e != api.OK {
		t.Fatal(e)
	}
}

// shows holds that a commit is a picture.
func shows(t *testing.T, r *repo.Repo, key string, p api.Raster) {
	t.Helper()
	q, e := r.Picture(key)
	if e != api.OK || !pix.Same(p, q) {
		t.Errorf("Picture: %d", e)
	}
	b, e := r.Checkout(key)
	want, _ := png.Encode(p)
	if e != api.OK || !bytes.Equal(b, want) {
		t.Errorf("Checkout: %d", e)
	}
}

// state is all that a repository shows of its files.
func state(t *testing.T, r *repo.Repo) string {
	t.Helper()
	var out strings.Builder
	for _, name := range r.FS().List() {
		b, e := r.FS().Read(name)
		ok(t, e)
		out.WriteString(name + "=" + sha.Key(b) + "\n")
	}
	for _, x := range r.Refs() {
		out.WriteString(strconv.FormatBool(x.Tag) + x.Name + x.Key + "\n")
	}
	return out.String() + strings.Join(r.Objects(), " ")
}

// keys are those of the entries of a log.
func keys(l []repo.Entry) []string {
	var out []string
	for _, x := range l {
		out = append(out, x.Key)
	}
	return out
}

// P24.1: an empty repository, and errors of opening.
func TestOpen(t *testing.T) {
	d, _ := disk.New(40)
	if repo.Format(d, 5, 0) != api.ErrRange || repo.Format(d, 0, 5) != api.ErrRange {
		t.Error("Format")
	}
	if r, e := repo.Open(d); r != nil || e != api.ErrForm {
		t.Error("a disk that is not formatted", e)
	}
	ok(t, repo.Format(d, 5, 5))
	r := open(t, d)
	if len(r.Refs()) != 0 || len(r.Objects()) != 0 || r.FS().Disk() != d {
		t.Error("an empty one")
	}
	ok(t, r.FS().Do([]fsys.Change{{Kind: fsys.Put, Name: "refs", Data: []byte("x")}}))
	if r, e := repo.Open(d); r != nil || e != api.ErrForm {
		t.Error("refs that are none", e)
	}
	ok(t, r.FS().Do([]fsys.Change{{Kind: fsys.Put, Name: "pack", Data: []byte("x")}}))
	if r, e := repo.Open(d); r != nil || e != api.ErrShort {
		t.Error("the pack goes ahead of refs", e)
	}
	d.Crash(nil)
	if r, e := repo.Open(d); r != nil || e != api.ErrDown {
		t.Error("while it is down", e)
	}
	if repo.Format(d, 5, 5) != api.ErrDown {
		t.Error("Format while it is down")
	}
}

// P24.2: commits: what is stored, Parents, Stamp.
func TestCommit(t *testing.T) {
	r := usual(t)
	p := row("abc")
	first, e := r.Commit("main", "ann", "one\ntwo", p)
	ok(t, e)
	if len(r.Objects()) != 5 || len(r.FS().List()) != 6 {
		t.Error("three tiles, a tree, a commit; refs", r.FS().List())
	}
	if l := r.Refs(); !slices.Equal(l, []refs.Ref{{Name: "main", Key: first}}) {
		t.Error(l)
	}
	q := row("axc")
	second, e := r.Commit("main", "bob", "", q)
	ok(t, e)
	if len(r.Objects()) != 8 {
		t.Error("one tile, one tree, one commit more")
	}
	shows(t, r, first, p)
	shows(t, r, second, q)
	l, e := r.Log("main")
	ok(t, e)
	if len(l) != 2 || l[0].Key != second || l[1].Key != first {
		t.Fatal(keys(l))
	}
	c, b := l[0].Commit, l[1].Commit
	if c.Stamp != 2 || !slices.Equal(c.Parents, []string{first}) || c.Author != "bob" || c.Text != "" || b.Stamp != 1 || len(b.Parents) != 0 || b.Author != "ann" || b.Text != "one\ntwo" || c.Tree == b.Tree || !sha.Valid(b.Tree) {
		t.Error(c, b)
	}
	if first != sha.Key(b.Bytes()) || second != sha.Key(c.Bytes()) {
		t.Error("keys")
	}
	again := open(t, r.FS().Disk())
	if state(t, again) != state(t, r) {
		t.Error("opened again")
	}
	shows(t, again, second, q)
	k, e := r.Commit("other", "ann", "one\ntwo", p)
	if e != api.OK || k != first || len(r.Objects()) != 8 || len(r.Refs()) != 2 {
		t.Error("the same commit on another branch", e)
	}
}

// P24.2: Import.
func TestImport(t *testing.T) {
	r := usual(t)
	p := row("abcd")
	b, _ := png.Lace(p)
	k, e := r.Import("main", "u", "t", b)
	ok(t, e)
	shows(t, r, k, p)
	before := state(t, r)
	b[len(b)-1] ^= 1
	if k, e := r.Import("", "", "\x00", b); k != "" || e != api.ErrSum {
		t.Error("png's error goes ahead", e)
	}
	b[len(b)-1] ^= 1
	if k, e := r.Import("", "u", "", b); k != "" || e != api.ErrName || state(t, r) != before {
		t.Error(e)
	}
}

// P24.2: what can't be committed.
func TestCommitWrong(t *testing.T) {
	r := usual(t)
	commit(t, r, "main", flat(1))
	before := state(t, r)
	bad := api.Raster{Shape: grey(2, 2), Pix: make([]byte, 3)}
	for i, c := range []struct {
		branch, author, text string
		p                    api.Raster
		e                    api.Errno
	}{
		{"", "u", "", flat(2), api.ErrName}, {"a b", "u", "\x00", bad, api.ErrName}, {"main", "", "", flat(2), api.ErrName}, {"main", "-u", "\x00", flat(2), api.ErrName}, {strings.Repeat("a", 41), "u", "", flat(2), api.ErrName},
		{"main", "u", "\x00", flat(2), api.ErrForm}, {"main", "u", strings.Repeat("a", 201), flat(2), api.ErrForm}, {"main", "u", "", bad, api.ErrForm}, {"main", "u", "", api.Raster{}, api.ErrForm},
	} {
		if k, e := r.Commit(c.branch, c.author, c.text, c.p); k != "" || e != c.e || state(t, r) != before {
			t.Errorf("case %d: %d", i, e)
		}
	}
}

// P24.2, P24.3: at most 100 refs.
func TestRefsLimit(t *testing.T) {
	r := usual(t)
	k := commit(t, r, "b0", flat(1))
	for i := 1; i < 60; i++ {
		ok(t, r.Branch("b"+strconv.Itoa(i), k))
	}
	for i := range 40 {
		ok(t, r.Tag("b"+strconv.Itoa(i), k))
	}
	before := state(t, r)
	if x, e := r.Commit("new", "u", "", flat(2)); x != "" || e != api.ErrLimit {
		t.Error("Commit", e)
	}
	if _, e := r.Commit("new", "u", "\x00", flat(2)); e != api.ErrForm {
		t.Error("ErrForm goes ahead", e)
	}
	if r.Branch("new", k) != api.ErrLimit || r.Tag("new", k) != api.ErrLimit || r.Tag("b3", k) != api.ErrExists || r.Tag("new", sha.Key(nil)) != api.ErrNone || state(t, r) != before {
		t.Error("Branch, Tag")
	}
	ok(t, r.Branch("b7", k))
	commit(t, r, "b9", flat(3))
	ok(t, r.Delete(true, "b3"))
	ok(t, r.Tag("new", k))
}

// P24.2: objects whose place another thing has.
func TestTwin(t *testing.T) {
	r := usual(t)
	tile := obj.Tile{Raster: flat(5)}.Bytes()
	ok(t, r.FS().Do([]fsys.Change{{Kind: fsys.Create, Name: "o" + sha.Key(tile), Data: []byte("x")}}))
	before := state(t, r)
	if k, e := r.Commit("main", "u", "", flat(5)); k != "" || e != api.ErrTwin || state(t, r) != before {
		t.Error("a file", e)
	}
	tile = obj.Tile{Raster: flat(7)}.Bytes()
	ok(t, r.FS().Do([]fsys.Change{{Kind: fsys.Create, Name: "o" + sha.Key(tile)}}))
	if k, e := r.Commit("main", "u", "", flat(7)); k != "" || e != api.ErrTwin {
		t.Error("an empty file", e)
	}
	commit(t, r, "main", flat(6))
}

// P24.2: what the pack has is not staged; an entry there that can't be got is an error.
func TestPacked(t *testing.T) {
	r := usual(t)
	commit(t, r, "main", row("ab"))
	ok(t, r.Repack(5))
	if !slices.Equal(r.FS().List(), []string{"pack", "refs"}) {
		t.Fatal(r.FS().List())
	}
	commit(t, r, "main", row("abab"))
	if len(r.FS().List()) != 4 {
		t.Error("a tree and a commit", r.FS().List())
	}
	tile := obj.Tile{Raster: flat(5)}.Bytes()
	b, _ := pack.Write([][]byte{tile}, 1)
	index := len(b) - 4 - 40 - 512
	b[6] = 9
	copy(b[len(b)-8:], crc(b[6:index]))
	copy(b[len(b)-4:], crc(b[:len(b)-4]))
	ok(t, r.FS().Do([]fsys.Change{{Kind: fsys.Put, Name: "pack", Data: b}, {Kind: fsys.Delete, Name: "refs"}}))
	r = open(t, r.FS().Disk())
	before := state(t, r)
	if k, e := r.Commit("main", "u", "", flat(5)); k != "" || e != api.ErrForm || state(t, r) != before {
		t.Error("an entry that is none", e)
	}
}

// crc is a check sum in four bytes.
func crc(b []byte) []byte {
	c := ^uint32(0)
	for _, x := range b {
		c ^= uint32(x)
		for range 8 {
			c = c>>1 ^ 0xEDB88320&-(c&1)
		}
	}
	c = ^c
	return []byte{byte(c >> 24), byte(c >> 16), byte(c >> 8), byte(c)}
}

// P24.3: branches and tags.
func TestRefs(t *testing.T) {
	r := usual(t)
	a := commit(t, r, "main", flat(1))
	b := commit(t, r, "main", flat(2))
	ok(t, r.Branch("side", a))
	ok(t, r.Tag("v1", a))
	ok(t, r.Branch("main", a))
	ok(t, r.Branch("main", b))
	want := []refs.Ref{{Name: "main", Key: b}, {Name: "side", Key: a}, {Tag: true, Name: "v1", Key: a}}
	if !slices.Equal(r.Refs(), want) || !slices.Equal(open(t, r.FS().Disk()).Refs(), want) {
		t.Error(r.Refs())
	}
	l, _ := r.Log("main")
	before := state(t, r)
	for i, e := range []api.Errno{
		r.Branch("", "x"), r.Branch("x y", a), r.Branch("x", "x"), r.Branch("x", strings.ToUpper(a)), r.Branch("x", sha.Key(nil)), r.Branch("x", l[0].Commit.Tree), r.Branch("side", sha.Key(nil)),
		r.Tag("", "x"), r.Tag("x", "x"), r.Tag("v1", sha.Key(nil)), r.Tag("v1", b), r.Tag("x", l[0].Commit.Tree), r.Delete(false, "v1"), r.Delete(true, "main"), r.Delete(false, ""), r.Tag("v1", ""),
	} {
		want := []api.Errno{api.ErrName, api.ErrName, api.ErrName, api.ErrName, api.ErrNone, api.ErrNone, api.ErrNone, api.ErrName, api.ErrName, api.ErrNone, api.ErrExists, api.ErrNone, api.ErrNone, api.ErrNone, api.ErrNone, api.ErrName}[i]
		if e != want {
			t.Errorf("case %d: %d, want %d", i, e, want)
		}
	}
	if state(t, r) != before {
		t.Error("something has changed")
	}
	ok(t, r.Delete(false, "main"))
	ok(t, r.Delete(true, "v1"))
	if !slices.Equal(r.Refs(), want[1:2]) || !slices.Equal(open(t, r.FS().Disk()).Refs(), want[1:2]) {
		t.Error(r.Refs())
	}
	ok(t, r.FS().Do([]fsys.Change{{Kind: fsys.Put, Name: "o" + b, Data: []byte("x")}}))
	if r.Branch("x", b) != api.ErrNone {
		t.Error("whatever Get says of it")
	}
}

// P24.4: merges: nothing to do, forward, clean, with a mask.
func TestMerge(t *testing.T) {
	r := usual(t)
	a := commit(t, r, "a", row("0000"))
	ok(t, r.Branch("b", a))
	m, e := r.Merge("a", "b", "u", "", api.Raster{})
	if e != api.OK || m.Key != a || m.Mask != nil {
		t.Error("both on one commit", e)
	}
	b := commit(t, r, "b", row("0200"))
	before := state(t, r)
	m, e = r.Merge("b", "a", "u", "", api.Raster{})
	if e != api.OK || m.Key != b || m.Mask != nil || state(t, r) != before {
		t.Error("nothing to do", e)
	}
	n := len(r.Objects())
	m, e = r.Merge("a", "b", "u", "", row("xxxx"))
	if k, _ := refs.Find(r.Refs(), false, "a"); e != api.OK || m.Key != b || m.Mask != nil || k != b || len(r.Objects()) != n {
		t.Error("forward", e)
	}
	ours := commit(t, r, "a", row("1200"))
	theirs := commit(t, r, "b", row("0203"))
	theirs = commit(t, r, "b", row("0233"))
	n = len(r.Objects())
	m, e = r.Merge("a", "b", "ann", "joined", api.Raster{Pix: []byte{1}})
	if e != api.OK || !slices.Equal(m.Mask, make([]bool, 4)) || len(r.Objects()) != n+2 {
		t.Fatal("clean", e)
	}
	shows(t, r, m.Key, row("1233"))
	l, _ := r.Log("a")
	c := l[0].Commit
	if l[0].Key != m.Key || !slices.Equal(c.Parents, []string{ours, theirs}) || c.Stamp != 5 || c.Author != "ann" || c.Text != "joined" || len(l) != 6 {
		t.Error(c)
	}
	ours = commit(t, r, "a", row("5236"))
	theirs = commit(t, r, "b", row("7238"))
	before = state(t, r)
	m, e = r.Merge("a", "b", "u", "", api.Raster{Shape: grey(3, 3)})
	if e != api.ErrMask || m.Key != "" || !slices.Equal(m.Mask, []bool{true, false, false, true}) || state(t, r) != before {
		t.Error("a mask", e, m)
	}
	for i, x := range []struct {
		by api.Raster
		e  api.Errno
	}{{api.Raster{Pix: []byte{1}}, api.ErrForm}, {row("abc"), api.ErrShape}, {api.Raster{Shape: api.Shape{W: 32, H: 1, Chan: 1, Depth: 16}, Pix: make([]byte, 64)}, api.ErrShape}} {
		if m, e := r.Merge("a", "b", "u", "", x.by); e != x.e || m.Key != "" || m.Mask != nil || state(t, r) != before {
			t.Errorf("by, case %d: %d", i, e)
		}
	}
	n = len(r.Objects())
	m, e = r.Merge("a", "b", "u", "", row("vwyz"))
	if e != api.OK || !slices.Equal(m.Mask, []bool{true, false, false, true}) || len(r.Objects()) != n+4 {
		t.Error("resolved: two tiles, a tree, a commit", e, len(r.Objects())-n)
	}
	shows(t, r, m.Key, row("v23z"))
	again := open(t, r.FS().Disk())
	shows(t, again, m.Key, row("v23z"))
	_, _ = ours, theirs
}

// P24.4: merges that can't be.
func TestMergeWrong(t *testing.T) {
	r := usual(t)
	a := commit(t, r, "a", row("00"))
	commit(t, r, "c", row("01"))
	ok(t, r.Branch("b", a))
	commit(t, r, "a", row("10"))
	commit(t, r, "b", row("010"))
	ok(t, r.Tag("t", a))
	before := state(t, r)
	for i, x := range []struct {
		into, from, author, text string
		e                        api.Errno
	}{
		{"a", "x", "", "", api.ErrNone}, {"x", "a", "u", "", api.ErrNone}, {"a", "t", "u", "", api.ErrNone}, {"", "", "u", "", api.ErrNone}, {"a", "a", "", "", api.ErrName}, {"a", "b", "u v", "\x00", api.ErrName}, {"a", "b", "u", "\x00", api.ErrForm},
		{"a", "c", "u", "", api.ErrBase}, {"a", "b", "u", "", api.ErrShape}, {"a", "a", "u", "\xff", api.ErrForm},
	} {
		if m, e := r.Merge(x.into, x.from, x.author, x.text, api.Raster{}); e != x.e || m.Key != "" || m.Mask != nil || state(t, r) != before {
			t.Errorf("case %d: %d, want %d", i, e, x.e)
		}
	}
	ok(t, r.FS().Do([]fsys.Change{{Kind: fsys.Delete, Name: "o" + a}}))
	if _, e := r.Merge("a", "b", "u", "", api.Raster{}); e != api.ErrNone {
		t.Error("a commit that is not there", e)
	}
	if l, e := r.Log("a"); l != nil || e != api.ErrNone {
		t.Error("Log of it", e)
	}
	ok(t, r.FS().Do([]fsys.Change{{Kind: fsys.Put, Name: "o" + a, Data: []byte("x")}}))
	if _, e := r.Merge("b", "a", "u", "", api.Raster{}); e != api.ErrSum {
		t.Error("a commit that is another thing", e)
	}
	if l, e := r.Log("b"); l != nil || e != api.ErrSum {
		t.Error("Log of it", e)
	}
}

// P24.4, P24.5: histories of more than 500 commits.
func TestLimit(t *testing.T) {
	r := fresh(t, 4096, 160, 150)
	p := flat(1)
	for i := range 250 {
		commit(t, r, "a", p)
		if i == 0 {
			ok(t, r.Branch("b", r.Refs()[0].Key))
		}
	}
	ok(t, r.Repack(1))
	for range 250 {
		if _, e := r.Commit("b", "v", "", p); e != api.OK {
			t.Fatal(e)
		}
	}
	l, e := r.Log("b")
	if e != api.OK || len(l) != 251 || l[0].Commit.Stamp != 251 || l[250].Commit.Stamp != 1 {
		t.Fatal(e, len(l))
	}
	m, e := r.Merge("a", "b", "u", "", api.Raster{})
	if e != api.OK || !slices.Equal(m.Mask, []bool{false}) {
		t.Fatal("500 commits", e)
	}
	if l, e := r.Log("a"); l != nil || e != api.ErrLimit {
		t.Error("501 commits", e)
	}
	ok(t, r.FS().Do([]fsys.Change{{Kind: fsys.Delete, Name: "o" + m.Key}}))
	if l, e := r.Log("a"); l != nil || e != api.ErrNone {
		t.Error("one that is not told", e)
	}
}

// P24.5: differences, pictures, and what is none.
func TestRead(t *testing.T) {
	r := usual(t)
	a := commit(t, r, "main", row("0123"))
	b := commit(t, r, "main", row("0x2y"))
	c := commit(t, r, "main", row("0x2"))
	for i, x := range []struct {
		a, b string
		want []int
		e    api.Errno
	}{
		{a, b, []int{1, 3}, api.OK}, {b, a, []int{1, 3}, api.OK}, {a, a, nil, api.OK}, {b, c, nil, api.ErrShape}, {"", c, nil, api.ErrName}, {a, "x", nil, api.ErrName}, {a, sha.Key(nil), nil, api.ErrNone}, {sha.Key(nil), "", nil, api.ErrNone},
	} {
		if l, e := r.Diff(x.a, x.b); e != x.e || !slices.Equal(l, x.want) {
			t.Errorf("case %d: %v, %d", i, l, e)
		}
	}
	l, _ := r.Log("main")
	tree := l[2].Commit.Tree
	bad := func(key string, want api.Errno) {
		t.Helper()
		p, e := r.Picture(key)
		q, f := r.Checkout(key)
		_, g := r.Diff(key, "")
		if e != want || f != want || p.Pix != nil || p.Shape != (api.Shape{}) || q != nil || g != want && g != api.ErrName {
			t.Errorf("%d, %d, %d; want %d", e, f, g, want)
		}
	}
	bad("", api.ErrName)
	bad(sha.Key(nil), api.ErrNone)
	bad(tree, api.ErrForm)
	if l, e := r.Log("none"); l != nil || e != api.ErrNone {
		t.Error("Log of none", e)
	}
	tiles, _ := obj.Refs(file(t, r, "o"+tree))
	put := func(b []byte) string {
		ok(t, r.FS().Do([]fsys.Change{{Kind: fsys.Put, Name: "o" + sha.Key(b), Data: b}}))
		return sha.Key(b)
	}
	bad(put(obj.Commit{Tree: tiles[0], Stamp: 1, Author: "u"}.Bytes()), api.ErrForm)
	bad(put(obj.Commit{Tree: sha.Key(nil), Stamp: 1, Author: "u"}.Bytes()), api.ErrNone)
	odd := put(obj.Tree{Shape: grey(8, 1), Keys: []string{tree}}.Bytes())
	bad(put(obj.Commit{Tree: odd, Stamp: 1, Author: "u"}.Bytes()), api.ErrForm)
	wide := put(obj.Tree{Shape: grey(7, 1), Keys: tiles[:1]}.Bytes())
	bad(put(obj.Commit{Tree: wide, Stamp: 1, Author: "u"}.Bytes()), api.ErrShape)
	ok(t, r.FS().Do([]fsys.Change{{Kind: fsys.Delete, Name: "o" + tiles[3]}}))
	bad(a, api.ErrNone)
	ok(t, r.FS().Do([]fsys.Change{{Kind: fsys.Put, Name: "o" + tree, Data: []byte("x")}}))
	bad(a, api.ErrSum)
	shows(t, r, b, row("0x2y"))
}

// file reads a file.
func file(t *testing.T, r *repo.Repo, name string) []byte {
	t.Helper()
	b, e := r.FS().Read(name)
	ok(t, e)
	return b
}

// P24.6, P24.10: Repack and Collect leave just the live ones, and change nothing that is told.
func TestKeep(t *testing.T) {
	r := usual(t)
	a := commit(t, r, "main", row("0123"))
	b := commit(t, r, "main", row("01x3"))
	c := commit(t, r, "gone", row("qwer"))
	ok(t, r.Tag("t", a))
	ok(t, r.Delete(false, "gone"))
	for _, n := range []int{0, -1, 51} {
		if r.Repack(n) != api.ErrRange {
			t.Error("depth", n)
		}
	}
	log, _ := r.Log("main")
	before := r.Refs()
	if n, e := r.Collect(); n != 6 || e != api.OK || len(r.Objects()) != 9 {
		t.Error("Collect: four tiles, a tree, a commit", n, e)
	}
	if n, e := r.Collect(); n != 0 || e != api.OK {
		t.Error("Collect twice", n, e)
	}
	c = commit(t, r, "gone", row("qwer"))
	ok(t, r.Repack(3))
	if !slices.Equal(r.FS().List(), []string{"pack", "refs"}) || len(r.Objects()) != 15 {
		t.Error(r.FS().List())
	}
	p, e := pack.Open(file(t, r, "pack"))
	ok(t, e)
	for _, k := range p.Keys() {
		if p.Depth(k) < 0 || p.Depth(k) > 3 {
			t.Error("depth", p.Depth(k))
		}
	}
	shows(t, r, c, row("qwer"))
	ok(t, r.Delete(false, "gone"))
	extra := commit(t, r, "gone", row("zz"))
	ok(t, r.Delete(false, "gone"))
	if n, e := r.Collect(); n != 9 || e != api.OK || len(r.Objects()) != 9 {
		t.Error("Collect of the pack: six, and three", n, e)
	}
	want := [][]byte{}
	for _, k := range r.Objects() {
		old, _ := p.Get(k)
		want = append(want, old)
	}
	w, _ := pack.Write(want, 10)
	if !bytes.Equal(file(t, r, "pack"), w) {
		t.Error("the pack of the live ones, depth 10")
	}
	for i, q := range []*repo.Repo{r, open(t, r.FS().Disk())} {
		shows(t, q, a, row("0123"))
		shows(t, q, b, row("01x3"))
		l, e := q.Log("main")
		if e != api.OK || !slices.Equal(keys(l), keys(log)) || !slices.Equal(q.Refs(), before) {
			t.Error("Log, Refs", i, e)
		}
		for _, k := range []string{c, extra} {
			if _, e := q.Picture(k); e != api.ErrNone {
				t.Error("what is not live", i, e)
			}
		}
		if l, e := q.Fsck(); len(l) != 0 || e != api.OK {
			t.Error("Fsck", i, e)
		}
	}
	ok(t, r.Delete(false, "main"))
	ok(t, r.Delete(true, "t"))
	if n, e := r.Collect(); n != 9 || e != api.OK || !slices.Equal(r.FS().List(), []string{"refs"}) {
		t.Error("nothing is live", n, e)
	}
	ok(t, r.Repack(1))
	if !slices.Equal(r.FS().List(), []string{"refs"}) {
		t.Error("Repack of nothing", r.FS().List())
	}
	commit(t, r, "x", flat(1))
	ok(t, r.Delete(false, "x"))
	ok(t, r.Repack(1))
	if len(r.Objects()) != 0 {
		t.Error("Repack without anything live")
	}
}

// flatRow is the picture of one tile of a row.
func flatRow(x byte) api.Raster { return row(string([]byte{x})) }

// P24.6: Collect writes the pack with depth 10; Repack with any up to 50.
func TestDepths(t *testing.T) {
	r := usual(t)
	p := api.Raster{Shape: grey(128, 24), Pix: make([]byte, 128*24)}
	rnd := rand.New(rand.NewSource(39))
	noise := make([]byte, 64)
	rnd.Read(noise)
	for i := range p.Pix {
		p.Pix[i] = noise[i/128%8*8+i%8] + byte(rnd.Intn(60)/59)
	}
	k := commit(t, r, "main", p)
	commit(t, r, "gone", flat(1))
	if r.Repack(51) != api.ErrRange {
		t.Error("51")
	}
	ok(t, r.Repack(50))
	ok(t, r.Delete(false, "gone"))
	r.FS().Disk().CrashAt(1, nil)
	if n, e := r.Collect(); n != 0 || e != api.ErrDown {
		t.Error("a fall within Collect", n, e)
	}
	r.FS().Disk().Reboot()
	r = open(t, r.FS().Disk())
	if n, e := r.Collect(); n != 3 || e != api.OK {
		t.Error("Collect", n, e)
	}
	old, _ := pack.Open(file(t, r, "pack"))
	var objs [][]byte
	for _, k := range r.Objects() {
		b, e := old.Get(k)
		ok(t, e)
		objs = append(objs, b)
	}
	ten, _ := pack.Write(objs, 10)
	eleven, _ := pack.Write(objs, 11)
	if !bytes.Equal(file(t, r, "pack"), ten) || bytes.Equal(ten, eleven) {
		t.Error("depth 10", len(objs))
	}
	shows(t, r, k, p)
}

// P24.4: that there are too many commits goes ahead of one that is not told.
func TestLimitAhead(t *testing.T) {
	r := fresh(t, 4096, 160, 150)
	for i := range 501 {
		if i == 300 {
			ok(t, r.Repack(1))
		}
		commit(t, r, "b", flat(1))
	}
	k := commit(t, r, "a", flat(2))
	ok(t, r.FS().Do([]fsys.Change{{Kind: fsys.Delete, Name: "o" + k}}))
	if m, e := r.Merge("a", "b", "u", "", api.Raster{}); e != api.ErrLimit || m.Key != "" {
		t.Error(e)
	}
	if l, e := r.Log("b"); l != nil || e != api.ErrLimit {
		t.Error("Log", e)
	}
}

// P24.6: something live that is not there; Fsck tells it.
func TestFsck(t *testing.T) {
	r := usual(t)
	a := commit(t, r, "main", row("0123"))
	commit(t, r, "main", row("0124"))
	l, _ := r.Log("main")
	tiles, _ := obj.Refs(file(t, r, "o"+l[1].Commit.Tree))
	if x, e := r.Fsck(); len(x) != 0 || e != api.OK {
		t.Error(x, e)
	}
	ok(t, r.FS().Do([]fsys.Change{{Kind: fsys.Delete, Name: "o" + tiles[3]}}))
	if x, e := r.Fsck(); !slices.Equal(x, tiles[3:]) || e != api.OK || r.Repack(5) != api.ErrNone {
		t.Error("one that is not there", x, e)
	}
	ok(t, r.FS().Do([]fsys.Change{{Kind: fsys.Create, Name: "o" + tiles[3], Data: obj.Tile{Raster: flatRow('3')}.Bytes()}}))
	gone := []string{tiles[3], tiles[0]}
	slices.Sort(gone)
	ok(t, r.FS().Do([]fsys.Change{{Kind: fsys.Delete, Name: "o" + gone[0]}, {Kind: fsys.Delete, Name: "o" + gone[1]}}))
	before := state(t, r)
	if x, e := r.Fsck(); !slices.Equal(x, gone) || e != api.OK {
		t.Error(x, e)
	}
	if n, e := r.Collect(); n != 0 || e != api.ErrNone {
		t.Error("Collect", e)
	}
	if r.Repack(5) != api.ErrNone || r.Repack(0) != api.ErrRange || state(t, r) != before {
		t.Error("Repack")
	}
	ok(t, r.FS().Do([]fsys.Change{{Kind: fsys.Put, Name: "o" + a, Data: []byte("x")}}))
	if x, e := r.Fsck(); e != api.ErrSum || !slices.Contains(x, a) {
		t.Error("a sum", x, e)
	}
	ok(t, r.Delete(false, "main"))
	if x, e := r.Fsck(); len(x) != 0 || e != api.ErrSum {
		t.Error("a sum of one that is not live", x, e)
	}
	if n, e := r.Collect(); e != api.OK || len(r.Objects()) != 0 || n == 0 {
		t.Error("Collect", n, e)
	}
}

// P24.2: no room: nothing is done.
func TestSpace(t *testing.T) {
	r := fresh(t, 40, 8, 6)
	var e api.Errno
	for i := range 30 {
		before := state(t, r)
		if _, e = r.Commit("main", "u", "", flat(i)); e != api.OK {
			if state(t, r) != before || state(t, open(t, r.FS().Disk())) != before {
				t.Error("something has changed")
			}
			break
		}
		if f := r.FS(); f.Used()+f.Free() != 40-8-3-6 {
			t.Error("P24.11", f.Used(), f.Free())
		}
	}
	if e != api.ErrSpace {
		t.Error(e)
	}
	small := fresh(t, 200, 2, 20)
	for i := range 30 {
		before := state(t, small)
		if _, e = small.Commit("main", "u", "", row("abcdefgh"[:1+i%8])); e != api.OK {
			if state(t, small) != before {
				t.Error("something has changed")
			}
			break
		}
	}
	if e != api.ErrLog {
		t.Error(e)
	}
}

// P24.7: nothing is kept or shared.
func TestMemory(t *testing.T) {
	r := usual(t)
	p := row("ab")
	k := commit(t, r, "main", p)
	commit(t, r, "main", p)
	p.Pix[0]++
	shows(t, r, k, row("ab"))
	q, _ := r.Picture(k)
	q.Pix[0]++
	l, _ := r.Log("main")
	l[0].Commit.Parents[0] = "x"
	r.Refs()[0].Name, r.Objects()[0] = "x", "x"
	shows(t, r, k, row("ab"))
	if l, _ := r.Log("main"); l[0].Commit.Parents[0] != k || r.Refs()[0].Name != "main" || r.Objects()[0] == "x" {
		t.Error("shared")
	}
}

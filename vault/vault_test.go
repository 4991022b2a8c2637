package vault_test

import (
	"bytes"
	"slices"
	"strings"
	"testing"

	"aquatint/api"
	"aquatint/disk"
	"aquatint/fsys"
	"aquatint/obj"
	"aquatint/pack"
	"aquatint/sha"
	"aquatint/vault"
)

// fresh is a formatted disk with its files.
func fresh(t *testing.T) *fsys.FS {
	t.Helper()
	d, _ := disk.New(2000)
	if e := fsys.Format(d, 60, 40); e != api.OK {
		t.Fatal(e)
	}
	f, e := fsys.Open(d)
	if e != api.OK {
		t.Fatal(e)
	}
	return f
}

// open opens the vault of files.
func open(t *testing.T, f *fsys.FS) *vault.Vault {
	t.Helper()
	v, e := vault.Open(f)
	if e != api.OK {
		t.Fatal(e)
	}
	return v
}

// tile is an object: one pixel of 16 bits.
func tile(x int) []byte { return []byte{1, 'R', 0, 1, 0, 1, 1, 16, byte(x >> 8), byte(x)} }

// tree is an object that names tiles of a row of pictures 8 wide.
func tree(keys ...string) []byte {
	return obj.Tree{Shape: api.Shape{W: 8 * len(keys), H: 1, Chan: 1, Depth: 8}, Keys: keys}.Bytes()
}

// commit is an object that names a tree and parents.
func commit(stamp int, tree string, parents ...string) []byte {
	return obj.Commit{Tree: tree, Parents: parents, Stamp: stamp, Author: "u"}.Bytes()
}

// loose puts objects into files of their own.
func loose(t *testing.T, f *fsys.FS, objs ...[]byte) {
	t.Helper()
	for _, b := range objs {
		file(t, f, "o"+sha.Key(b), b)
	}
}

// file makes a file.
func file(t *testing.T, f *fsys.FS, name string, b []byte) {
	t.Helper()
	if e := f.Do([]fsys.Change{{Kind: fsys.Put, Name: name, Data: b}}); e != api.OK {
		t.Fatal(e)
	}
}

// packed makes the pack of objects.
func packed(t *testing.T, f *fsys.FS, objs ...[]byte) {
	t.Helper()
	b, e := pack.Write(objs, 10)
	if e != api.OK {
		t.Fatal(e)
	}
	file(t, f, "pack", b)
}

// keys are those of objects, rising.
func keys(objs ...[]byte) []string {
	var out []string
	for _, b := range objs {
		out = append(out, sha.Key(b))
	}
	slices.Sort(out)
	return out
}

// P20.1: objects wherever they lie.
func TestGet(t *testing.T) {
	f := fresh(t)
	v := open(t, f)
	if len(v.Keys())+len(v.Packed())+len(v.Loose()) != 0 {
		t.Error("an empty one")
	}
	if b, e := v.Get(sha.Key(tile(1))); b != nil || e != api.ErrNone || v.Has(sha.Key(tile(1))) {
		t.Error("Get without a pack", e)
	}
	loose(t, f, tile(1), tile(2))
	packed(t, f, tile(2), tile(3))
	file(t, f, "refs", []byte("x"))
	if !v.Has(sha.Key(tile(1))) || v.Has(sha.Key(tile(3))) || len(v.Packed()) != 0 {
		t.Error("files are read, the pack is that of Open")
	}
	v = open(t, f)
	if !slices.Equal(v.Loose(), keys(tile(1), tile(2))) || !slices.Equal(v.Packed(), keys(tile(2), tile(3))) || !slices.Equal(v.Keys(), keys(tile(1), tile(2), tile(3))) {
		t.Error("Loose, Packed, Keys")
	}
	for i := 1; i <= 3; i++ {
		k := sha.Key(tile(i))
		if b, e := v.Get(k); e != api.OK || !bytes.Equal(b, tile(i)) || !v.Has(k) {
			t.Error(i, e)
		}
	}
	g := fresh(t)
	packed(t, g, tile(1), tile(2), tile(3))
	for _, k := range open(t, g).Packed() {
		if !open(t, g).Has(k) || len(open(t, g).Keys()) != 3 {
			t.Error("Has of one that is only packed")
		}
	}
	for _, k := range []string{"", "x", strings.ToUpper(sha.Key(tile(1))), sha.Key(tile(1))[1:]} {
		if b, e := v.Get(k); b != nil || e != api.ErrName || v.Has(k) {
			t.Errorf("%q: %d", k, e)
		}
	}
	file(t, f, "oxyz", []byte("x"))
	if v.Has("xyz") {
		t.Error("a place of no key")
	}
	if b, e := v.Get(sha.Key(tile(4))); b != nil || e != api.ErrNone || v.Has(sha.Key(tile(4))) {
		t.Error("one that is not there", e)
	}
	if v.Verify() != api.OK {
		t.Error("Verify")
	}
	for _, k := range v.Packed() {
		if !v.Has(k) {
			t.Error("Has of a packed one")
		}
	}
	file(t, f, "o"+sha.Key(tile(4)), nil)
	if b, e := v.Get(sha.Key(tile(4))); b != nil || e != api.ErrSum || !v.Has(sha.Key(tile(4))) {
		t.Error("an empty file", e)
	}
	file(t, f, "o"+sha.Key(tile(4)), tile(4))
	file(t, f, "o"+sha.Key(tile(2)), tile(9))
	if b, e := v.Get(sha.Key(tile(2))); b != nil || e != api.ErrSum || v.Verify() != api.ErrSum {
		t.Error("a file goes ahead of the pack", e)
	}
}

// P20.1: packs that can't be opened.
func TestOpenWrong(t *testing.T) {
	f := fresh(t)
	packed(t, f, tile(1))
	b, _ := f.Read("pack")
	b[len(b)-1] ^= 1
	file(t, f, "pack", b)
	if v, e := vault.Open(f); v != nil || e != api.ErrSum {
		t.Error("a sum", e)
	}
	file(t, f, "pack", b[:100])
	if v, e := vault.Open(f); v != nil || e != api.ErrShort {
		t.Error("a short one", e)
	}
	f.Disk().Crash(nil)
	if v, e := vault.Open(f); v != nil || e != api.ErrDown {
		t.Error("while it is down", e)
	}
	g := fresh(t)
	g.Disk().Crash(nil)
	if v, e := vault.Open(g); v == nil || e != api.OK {
		t.Error("without a pack nothing is read", e)
	}
}

// P20.2: what is reached.
func TestReach(t *testing.T) {
	f := fresh(t)
	a, b, c := tile(1), tile(2), tile(3)
	t1, t2 := tree(sha.Key(a), sha.Key(b)), tree(sha.Key(a), sha.Key(c))
	c1 := commit(1, sha.Key(t1))
	c2 := commit(2, sha.Key(t2), sha.Key(c1))
	c3 := commit(3, sha.Key(t2), sha.Key(c2), sha.Key(tile(77)))
	loose(t, f, a, t1, c2, c3)
	packed(t, f, b, c1, t2)
	file(t, f, "o"+sha.Key([]byte("none")), []byte("none"))
	v := open(t, f)
	cases := []struct {
		from          []string
		told, missing []string
	}{
		{nil, nil, nil}, {keys(a), keys(a), nil}, {keys(t1), keys(t1, a, b), nil}, {keys(c1), keys(c1, t1, a, b), nil},
		{keys(c2), keys(c2, c1, t1, t2, a, b), keys(c)}, {keys(c2, c2, c1, a), keys(c2, c1, t1, t2, a, b), keys(c)},
		{keys(c3), keys(c3, c2, c1, t1, t2, a, b), keys(c, tile(77))},
		{[]string{sha.Key(a), "x", "", sha.Key([]byte("none"))}, keys(a), []string{"", sha.Key([]byte("none")), "x"}},
	}
	for i, x := range cases {
		told, missing, e := v.Reach(x.from)
		if e != api.OK || !slices.Equal(told, x.told) || !slices.Equal(missing, x.missing) {
			t.Errorf("case %d: %d told, %d missing, %d", i, len(told), len(missing), e)
		}
	}
}

// P20.2: more than 20000 keys.
func TestReachLimit(t *testing.T) {
	f := fresh(t)
	v := open(t, f)
	loose(t, f, tile(1))
	many := make([]string, 20001)
	for i := range many {
		many[i] = sha.Key([]byte{byte(i >> 16), byte(i >> 8), byte(i)})
	}
	told, missing, e := v.Reach(append(many[:19999:19999], sha.Key(tile(1)), many[0]))
	if e != api.OK || len(told) != 1 || len(missing) != 19999 || !slices.IsSorted(missing) {
		t.Error("20000 keys", e)
	}
	if told, missing, e := v.Reach(many); told != nil || missing != nil || e != api.ErrLimit {
		t.Error("20001 keys", e)
	}
	loose(t, f, tree(many[20000]))
	if told, missing, e := v.Reach(append(many[:19999:19999], sha.Key(tree(many[20000])))); told != nil || missing != nil || e != api.ErrLimit {
		t.Error("20001 keys, one by a tree", e)
	}
}

// P20.3, P20.5: behind a Repack live ones are told as before, nothing else is there.
func TestRepack(t *testing.T) {
	f := fresh(t)
	var objs [][]byte
	for i := range 30 {
		objs = append(objs, tile(i))
	}
	loose(t, f, objs[:12]...)
	packed(t, f, objs[10:20]...)
	v := open(t, f)
	live := keys(objs[5:15]...)
	slices.Reverse(live)
	l, e := v.Repack(append(live, live[3]), 7)
	want, _ := pack.Write(objs[5:15], 7)
	if e != api.OK || len(l) != 13 || l[0].Kind != fsys.Put || l[0].Name != "pack" || !bytes.Equal(l[0].Data, want) {
		t.Fatal(e, len(l))
	}
	for i, k := range keys(objs[:12]...) {
		if l[1+i].Kind != fsys.Delete || l[1+i].Name != "o"+k {
			t.Errorf("change %d: %v", i, l[1+i])
		}
	}
	if e := f.Do(l); e != api.OK {
		t.Fatal(e)
	}
	v = open(t, f)
	if len(v.Loose()) != 0 || !slices.Equal(v.Keys(), keys(objs[5:15]...)) || !slices.Equal(v.Packed(), v.Keys()) || v.Verify() != api.OK {
		t.Error("behind a Repack")
	}
	for _, b := range objs[5:15] {
		if x, e := v.Get(sha.Key(b)); e != api.OK || !bytes.Equal(x, b) {
			t.Error(e)
		}
	}
}

// P20.3: nothing live, and errors.
func TestRepackEdges(t *testing.T) {
	f := fresh(t)
	v := open(t, f)
	if l, e := v.Repack(nil, 0); len(l) != 0 || e != api.OK {
		t.Error("nothing, without a pack", e)
	}
	loose(t, f, tile(1))
	if l, e := v.Repack(nil, 5); len(l) != 1 || l[0].Kind != fsys.Delete || l[0].Name != "o"+sha.Key(tile(1)) || e != api.OK {
		t.Error("nothing live, without a pack", e)
	}
	if l, e := v.Repack(keys(tile(1)), 5); len(l) != 2 || l[0].Kind != fsys.Put || l[1].Kind != fsys.Delete || e != api.OK {
		t.Error("one live", e)
	}
	packed(t, f, tile(2))
	v = open(t, f)
	if l, e := v.Repack(nil, 5); len(l) != 2 || l[0].Kind != fsys.Delete || l[0].Name != "pack" || len(l[0].Data) != 0 || e != api.OK {
		t.Error("nothing live, with a pack", e)
	}
	text := []byte("no object")
	file(t, f, "o"+sha.Key(text), text)
	file(t, f, "o"+sha.Key(tile(5)), tile(6))
	cases := []struct {
		live  []string
		depth int
		e     api.Errno
	}{
		{nil, -1, api.ErrRange}, {nil, 51, api.ErrRange}, {keys(tile(1)), 51, api.ErrRange}, {keys(tile(1), tile(2)), 50, api.OK}, {keys(tile(3)), 51, api.ErrNone},
		{[]string{"x"}, 5, api.ErrName}, {[]string{sha.Key(text)}, 5, api.ErrForm}, {keys(tile(5)), 5, api.ErrSum},
	}
	for i, c := range cases {
		if l, e := v.Repack(c.live, c.depth); e != c.e || e != api.OK && l != nil {
			t.Errorf("case %d: %d, want %d", i, e, c.e)
		}
	}
	both := []string{sha.Key(tile(5)), sha.Key(tile(4))}
	want := api.ErrSum
	if both[1] < both[0] {
		want = api.ErrNone
	}
	if _, e := v.Repack(both, 5); e != want {
		t.Error("the first error, rising", e)
	}
}

// P20.3: Verify: the pack ahead of the files.
func TestVerify(t *testing.T) {
	f := fresh(t)
	loose(t, f, tile(1), tile(2))
	file(t, f, "o"+sha.Key(tile(1)), tile(3))
	v := open(t, f)
	if v.Verify() != api.ErrSum {
		t.Error("a file")
	}
	f.Disk().Crash(nil)
	if v.Verify() != api.ErrDown {
		t.Error("while it is down")
	}
	f.Disk().Reboot()
	packed(t, f, tile(8))
	b, _ := f.Read("pack")
	b[6] = 9 // another kind of entry; its sum, and that of the whole, do not tell
	b = resum(b)
	file(t, f, "pack", b)
	v = open(t, f)
	if v.Verify() != api.ErrForm {
		t.Error("the pack goes ahead", v.Verify())
	}
}

// resum sets the sums of a pack of one entry right.
func resum(b []byte) []byte {
	index := len(b) - 4 - 40 - 512
	copy(b[len(b)-8:], big(b[6:index]))
	copy(b[len(b)-4:], big(b[:len(b)-4]))
	return b
}

// big is a check sum in four bytes.
func big(b []byte) []byte {
	c := ^uint32(0)
	for _, x := range b {
		c ^= uint32(x)
		for range 8 {
			c = c>>1 ^ 0xEDB88320&-(c&1)
		}
	}
	c = ^c
	return []byte{byte(c >> 24), byte(c >> 16), byte(c >> 8), byte(c)}
}

// P20.4: nothing is kept or shared.
func TestMemory(t *testing.T) {
	f := fresh(t)
	loose(t, f, tile(1))
	packed(t, f, tile(2), tile(3))
	v := open(t, f)
	in := keys(tile(3), tile(2), tile(1))
	slices.Reverse(in)
	before := slices.Clone(in)
	told, _, _ := v.Reach(in)
	v.Repack(in, 3)
	if !slices.Equal(in, before) {
		t.Error("changed")
	}
	told[0] = "x"
	v.Packed()[0], v.Keys()[0], v.Loose()[0] = "x", "x", "x"
	if v.Packed()[0] == "x" || v.Keys()[0] == "x" || v.Loose()[0] == "x" {
		t.Error("shared")
	}
}

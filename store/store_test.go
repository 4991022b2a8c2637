package store_test

import (
	"bytes"
	"slices"
	"strings"
	"testing"

	"aquatint/api"
	"aquatint/disk"
	"aquatint/fsys"
	"aquatint/obj"
	"aquatint/sha"
	"aquatint/store"
)

// fresh is a formatted disk with its files.
func fresh(t *testing.T) *fsys.FS {
	t.Helper()
	d, _ := disk.New(200)
	if e := fsys.Format(d, 20, 8); e != api.OK {
		t.Fatal(e)
	}
	f, e := fsys.Open(d)
	if e != api.OK {
		t.Fatal(e)
	}
	return f
}

// tile is an object: one pixel.
func tile(x byte) []byte { return []byte{1, 'R', 0, 1, 0, 1, 1, 8, x} }

// write makes files with these bytes.
func write(t *testing.T, f *fsys.FS, files map[string][]byte) {
	t.Helper()
	for name, b := range files {
		if e := f.Do([]fsys.Change{{Kind: fsys.Put, Name: name, Data: b}}); e != api.OK {
			t.Fatal(e)
		}
	}
}

// P18.1: places, and what lies there.
func TestGet(t *testing.T) {
	f := fresh(t)
	a, b, c := sha.Key(tile(1)), sha.Key(tile(2)), sha.Key([]byte("no object"))
	if store.Place(a) != "o"+a || store.Place("") != "o" || store.Place("x y") != "ox y" {
		t.Error("Place")
	}
	write(t, f, map[string][]byte{"o" + a: tile(1), "o" + b: tile(3), "o" + c: []byte("no object"), "refs": nil, "o": nil, "o12": nil, "p" + a: nil, "o" + strings.ToUpper(a): nil, "oo" + a: nil, "o" + a + "00": nil})
	cases := []struct {
		key  string
		want []byte
		e    api.Errno
	}{{a, tile(1), api.OK}, {b, nil, api.ErrSum}, {c, []byte("no object"), api.OK}, {sha.Key(nil), nil, api.ErrNone}, {"", nil, api.ErrName}, {"12", nil, api.ErrName}, {strings.ToUpper(a), nil, api.ErrName}, {a[1:], nil, api.ErrName}}
	for i, x := range cases {
		if o, e := store.Get(f, x.key); e != x.e || !bytes.Equal(o, x.want) {
			t.Errorf("case %d: %d", i, e)
		}
	}
	want := []string{a, b, c}
	slices.Sort(want)
	if k := store.Keys(f); !slices.Equal(k, want) {
		t.Error(k)
	}
	f.Disk().Crash(nil)
	if o, e := store.Get(f, a); o != nil || e != api.ErrDown {
		t.Error("while it is down", e)
	}
	if _, e := store.Get(f, "x"); e != api.ErrName {
		t.Error("while it is down", e)
	}
}

// P18.2, P18.4: objects are staged once; done, they are got.
func TestStage(t *testing.T) {
	f := fresh(t)
	s := store.NewStage()
	if s.Len() != 0 || len(s.Changes()) != 0 || s.Have("") {
		t.Error("a new one")
	}
	var keys []string
	for x := range byte(20) {
		key, e := s.Put(f, tile(x))
		if e != api.OK || key != sha.Key(tile(x)) || !s.Have(key) || s.Len() != int(x)+1 {
			t.Fatal(x, e)
		}
		if again, e := s.Put(f, tile(x)); again != key || e != api.OK || s.Len() != int(x)+1 {
			t.Fatal("twice", e)
		}
		keys = append(keys, key)
	}
	if s.Have(sha.Key(tile(20))) || s.Have("o"+keys[0]) {
		t.Error("Have")
	}
	slices.Sort(keys)
	l := s.Changes()
	for i, c := range l {
		if c.Kind != fsys.Create || c.Name != "o"+keys[i] || c.To != "" || sha.Key(c.Data) != keys[i] {
			t.Errorf("change %d: %v", i, c)
		}
	}
	if e := f.Do(l); e != api.OK || len(l) != 20 {
		t.Fatal(e)
	}
	for x := range byte(20) {
		if b, e := store.Get(f, sha.Key(tile(x))); e != api.OK || !bytes.Equal(b, tile(x)) {
			t.Error(x, e)
		}
	}
	next := store.NewStage()
	if key, e := next.Put(f, tile(3)); e != api.OK || key != sha.Key(tile(3)) || next.Len() != 0 || next.Have(key) {
		t.Error("one that is there is staged", e)
	}
	if !slices.Equal(store.Keys(f), keys) {
		t.Error("Keys")
	}
}

// P18.2: what can't be staged.
func TestStageWrong(t *testing.T) {
	f := fresh(t)
	s := store.NewStage()
	for _, b := range [][]byte{nil, {1}, []byte("hello"), append(tile(1), 0)} {
		if key, e := s.Put(f, b); key != "" || e != api.ErrForm || s.Len() != 0 {
			t.Errorf("% x: %d", b, e)
		}
	}
	key := sha.Key(tile(1))
	write(t, f, map[string][]byte{"o" + key: tile(2)})
	if k, e := s.Put(f, tile(1)); k != "" || e != api.ErrTwin || s.Len() != 0 {
		t.Error("another one at its place", e)
	}
	write(t, f, map[string][]byte{"o" + key: nil})
	if k, e := s.Put(f, tile(1)); k != "" || e != api.ErrTwin || s.Len() != 0 {
		t.Error("an empty file at its place", e)
	}
	write(t, f, map[string][]byte{"o" + key: tile(1)})
	f.Disk().Crash(nil)
	if k, e := s.Put(f, tile(1)); k != "" || e != api.ErrDown || s.Have(key) {
		t.Error("while it is down", e)
	}
	if _, e := s.Put(f, tile(9)); e != api.OK || s.Len() != 1 {
		t.Error("one that is not there is not read", e)
	}
}

// P18.3: nothing is kept or shared.
func TestMemory(t *testing.T) {
	f := fresh(t)
	s := store.NewStage()
	b := tile(1)
	s.Put(f, b)
	s.Put(f, tile(2))
	b[8] = 9
	l := s.Changes()
	_ = append(l[0].Data, 7)
	l[0].Data[8] = 77
	l[1].Name = "x"
	for i, c := range s.Changes() {
		if c.Name != "o"+sha.Key(c.Data) {
			t.Errorf("change %d is shared", i)
		}
	}
	if s.Have(sha.Key(b)) || obj.May(obj.KTile, b) == false {
		t.Error("kept")
	}
}

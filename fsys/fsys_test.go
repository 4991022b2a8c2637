package fsys_test

import (
	"bytes"
	"maps"
	"math"
	"math/rand"
	"slices"
	"strconv"
	"strings"
	"testing"

	"aquatint/api"
	"aquatint/disk"
	"aquatint/fsys"
)

// fresh is a formatted disk with its files.
func fresh(t *testing.T, sectors, ring, meta int) *fsys.FS {
	t.Helper()
	d, _ := disk.New(sectors)
	if e := fsys.Format(d, ring, meta); e != api.OK {
		t.Fatal(e)
	}
	return open(t, d)
}

// open opens the files of a disk.
func open(t *testing.T, d *disk.Disk) *fsys.FS {
	t.Helper()
	f, e := fsys.Open(d)
	if e != api.OK {
		t.Fatal(e)
	}
	return f
}

// create, put and so on are changes.
func create(name, data string) fsys.Change {
	return fsys.Change{Kind: fsys.Create, Name: name, Data: []byte(data)}
}
func put(name, data string) fsys.Change {
	return fsys.Change{Kind: fsys.Put, Name: name, Data: []byte(data)}
}
func add(name, data string) fsys.Change {
	return fsys.Change{Kind: fsys.Append, Name: name, Data: []byte(data)}
}
func rename(name, to string) fsys.Change {
	return fsys.Change{Kind: fsys.Rename, Name: name, To: to}
}
func remove(name string) fsys.Change { return fsys.Change{Kind: fsys.Delete, Name: name} }

// do makes changes that must be OK.
func do(t *testing.T, f *fsys.FS, l ...fsys.Change) {
	t.Helper()
	if e := f.Do(l); e != api.OK {
		t.Fatal(e)
	}
}

// all gives the files with their bytes.
func all(t *testing.T, f *fsys.FS) map[string]string {
	t.Helper()
	out := map[string]string{}
	for _, name := range f.List() {
		b, e := f.Read(name)
		if e != api.OK || len(b) != f.Size(name) || len(f.Blocks(name)) != (len(b)+255)/256 {
			t.Fatal(name, e)
		}
		out[name] = string(b)
	}
	return out
}

// sector is what stands in a sector of the disk.
func sector(f *fsys.FS, k int) []byte {
	b, _ := f.Disk().Read(k)
	return b
}

// padded is a sector that begins with these bytes.
func padded(b ...byte) []byte { return append(slices.Clone(b), make([]byte, api.Sector-len(b))...) }

// Names that may be.
func TestName(t *testing.T) {
	for i := range 256 {
		if fsys.Name("a"+string([]byte{byte(i)})) != (i >= 33 && i <= 126) {
			t.Errorf("byte %d", i)
		}
	}
	for s, want := range map[string]bool{"": false, "a": true, strings.Repeat("a", 80): true, strings.Repeat("a", 81): false, "a b": false, "é": false} {
		if fsys.Name(s) != want {
			t.Errorf("Name(%q)", s)
		}
	}
	if fsys.Create != 1 || fsys.Put != 2 || fsys.Append != 3 || fsys.Rename != 4 || fsys.Delete != 5 {
		t.Error("kinds")
	}
}

// P16.1: disks that are formatted, and that can't be.
func TestFormat(t *testing.T) {
	cases := []struct {
		sectors, ring, meta int
		e                   api.Errno
	}{
		{20, 4, 2, api.OK}, {20, 4, 12, api.OK}, {20, 4, 13, api.ErrRange}, {20, 4, 0, api.ErrRange}, {20, 4, -1, api.ErrRange}, {20, 0, 2, api.ErrRange}, {20, -1, 2, api.ErrRange}, {20, 15, 1, api.OK}, {20, 16, 1, api.ErrRange},
		{400, 4, 200, api.OK}, {400, 4, 201, api.ErrRange}, {20, math.MaxInt, 2, api.ErrRange}, {20, math.MinInt, 2, api.ErrRange}, {20, 4, math.MaxInt, api.ErrRange}, {20, 4, math.MinInt, api.ErrRange}, {6, 1, 1, api.OK}, {5, 1, 1, api.ErrRange}, {4, 1, 1, api.ErrRange},
	}
	for _, c := range cases {
		d, _ := disk.New(c.sectors)
		if e := fsys.Format(d, c.ring, c.meta); e != c.e || d.Pending() != 0 || e != api.OK && d.Writes() != 0 {
			t.Errorf("Format of %d, %d, %d: %d", c.sectors, c.ring, c.meta, e)
		}
		if c.e == api.OK {
			f := open(t, d)
			if want := c.sectors - c.ring - 3 - c.meta; f.Free() != want || f.Used() != 0 || len(f.List()) != 0 || f.Disk() != d {
				t.Errorf("%d, %d, %d: %d free", c.sectors, c.ring, c.meta, f.Free())
			}
		}
	}
	d, _ := disk.New(20)
	for k := range 20 {
		d.Write(k, bytes.Repeat([]byte{7}, api.Sector))
	}
	fsys.Format(d, 4, 2)
	f := open(t, d)
	if !bytes.Equal(sector(f, 6), padded('A', 'F', 0, 2)) || !bytes.Equal(sector(f, 7), padded()) || !bytes.Equal(sector(f, 8), padded()) || len(f.List()) != 0 {
		t.Error("a disk that was in use")
	}
	d.Crash(nil)
	if fsys.Format(d, 4, 0) != api.ErrRange || fsys.Format(d, 4, 2) != api.ErrDown {
		t.Error("while it is down")
	}
	if x, e := fsys.Open(d); x != nil || e != api.ErrDown {
		t.Error("Open while it is down")
	}
	for i := 1; i <= 5; i++ {
		d.Reboot()
		d.CrashAt(i, nil)
		if fsys.Format(d, 4, 2) != api.ErrDown {
			t.Error("a fall within Format", i)
		}
	}
}

// The words: what lies on the disk.
func TestBytes(t *testing.T) {
	f := fresh(t, 20, 4, 2)
	do(t, f, create("bc", strings.Repeat("x", 300)), create("a", ""), create("d", "yz"))
	table := []byte{0, 3, 1, 'a', 0, 0, 0, 0, 2, 'b', 'c', 0, 0, 1, 44, 0, 0, 0, 1, 1, 'd', 0, 0, 0, 2, 0, 2}
	if !bytes.Equal(sector(f, 7), padded(table...)) || !bytes.Equal(sector(f, 8), padded()) {
		t.Errorf("% x", sector(f, 7))
	}
	if !bytes.Equal(sector(f, 9), bytes.Repeat([]byte{'x'}, 256)) || !bytes.Equal(sector(f, 10), padded(bytes.Repeat([]byte{'x'}, 44)...)) || !bytes.Equal(sector(f, 11), padded('y', 'z')) {
		t.Error("blocks")
	}
	if !slices.Equal(f.Blocks("bc"), []int{0, 1}) || !slices.Equal(f.Blocks("d"), []int{2}) || len(f.Blocks("a")) != 0 || f.Used() != 3 || f.Free() != 8 {
		t.Error("Blocks, Used, Free")
	}
	if f.Size("bc") != 300 || f.Size("a") != 0 || f.Size("zz") != -1 || f.Size("") != -1 || len(f.Blocks("zz")) != 0 {
		t.Error("Size")
	}
	if b, e := f.Read("zz"); b != nil || e != api.ErrNone {
		t.Error("Read of none")
	}
}

// The words: blocks and sizes that take two bytes.
func TestMany(t *testing.T) {
	f := fresh(t, 800, 6, 8)
	big := strings.Repeat("abcdefg", 9362) // 65534 bytes
	do(t, f, create("a", big), create("b", "x"+big))
	g := open(t, f.Disk())
	if !maps.Equal(all(t, g), map[string]string{"a": big, "b": "x" + big}) || g.Blocks("b")[255] != 511 || g.Used() != 512 {
		t.Error("two of 256 blocks")
	}
}

// P16.2: which blocks are taken: the least that no file had ahead, by the names at the end.
func TestBlocks(t *testing.T) {
	f := fresh(t, 40, 6, 2)
	do(t, f, create("a", "1"), create("b", "2"), create("c", "3"))
	do(t, f, remove("b"))
	do(t, f, put("c", strings.Repeat("z", 257)), remove("a"), create("aa", "4"))
	if !slices.Equal(f.Blocks("aa"), []int{1}) || !slices.Equal(f.Blocks("c"), []int{3, 4}) {
		t.Error(f.Blocks("aa"), f.Blocks("c"))
	}
	do(t, f, create("q", "5"), rename("q", "0"), create("m", "6"), put("gone", "7"), remove("gone"))
	if !slices.Equal(f.Blocks("0"), []int{0}) || !slices.Equal(f.Blocks("m"), []int{2}) {
		t.Error(f.Blocks("0"), f.Blocks("m"))
	}
	do(t, f, add("aa", "+"), add("aa", ""))
	if !slices.Equal(f.Blocks("aa"), []int{5}) || f.Size("aa") != 2 {
		t.Error(f.Blocks("aa"))
	}
	do(t, f, add("aa", ""))
	if !slices.Equal(f.Blocks("aa"), []int{1}) {
		t.Error("an Append of nothing", f.Blocks("aa"))
	}
	do(t, f, rename("aa", "z"))
	if !slices.Equal(f.Blocks("z"), []int{1}) {
		t.Error("Rename", f.Blocks("z"))
	}
}

// P16.2: errors, each ahead of those behind it; files stay as they were.
func TestErrors(t *testing.T) {
	f := fresh(t, 60, 6, 2)
	do(t, f, create("a", "x"), create("b", "y"))
	before, writes := all(t, f), f.Disk().Writes()
	big := strings.Repeat("x", 65536)
	cases := []struct {
		l []fsys.Change
		e api.Errno
	}{
		{nil, api.OK},
		{[]fsys.Change{create("", "x")}, api.ErrName}, {[]fsys.Change{create("a b", "x")}, api.ErrName}, {[]fsys.Change{{Kind: 9, Name: ""}}, api.ErrName}, {[]fsys.Change{remove(strings.Repeat("a", 81))}, api.ErrName},
		{[]fsys.Change{rename("a", "")}, api.ErrName}, {[]fsys.Change{rename("zz", "\x00")}, api.ErrName}, {[]fsys.Change{put("é", "")}, api.ErrName},
		{[]fsys.Change{{Kind: 0, Name: "a"}}, api.ErrRange}, {[]fsys.Change{{Kind: 6, Name: "a"}}, api.ErrRange}, {[]fsys.Change{{Kind: -1, Name: "zz"}}, api.ErrRange}, {[]fsys.Change{{Kind: math.MaxInt, Name: "zz"}}, api.ErrRange},
		{[]fsys.Change{create("a", "z")}, api.ErrExists}, {[]fsys.Change{create("a", big)}, api.ErrExists}, {[]fsys.Change{create("c", ""), create("c", "")}, api.ErrExists},
		{[]fsys.Change{add("c", "z")}, api.ErrNone}, {[]fsys.Change{rename("c", "a")}, api.ErrNone}, {[]fsys.Change{rename("c", "c")}, api.ErrNone}, {[]fsys.Change{remove("c")}, api.ErrNone}, {[]fsys.Change{add("c", big)}, api.ErrNone},
		{[]fsys.Change{remove("a"), remove("a")}, api.ErrNone}, {[]fsys.Change{rename("a", "c"), add("a", "")}, api.ErrNone},
		{[]fsys.Change{rename("a", "b")}, api.ErrExists}, {[]fsys.Change{create("c", ""), rename("c", "a")}, api.ErrExists},
		{[]fsys.Change{create("c", big)}, api.ErrLarge}, {[]fsys.Change{put("a", big)}, api.ErrLarge}, {[]fsys.Change{add("a", big[1:])}, api.ErrLarge}, {[]fsys.Change{put("c", big[2:]), add("c", "zz")}, api.ErrLarge},
		{[]fsys.Change{put("c", big[1:])}, api.ErrSpace}, {[]fsys.Change{put("c", strings.Repeat("x", 48*256))}, api.ErrSpace}, {[]fsys.Change{put("a", strings.Repeat("x", 47*256+1))}, api.ErrSpace},
		{[]fsys.Change{create("c", "1"), create("", "2")}, api.ErrName}, {[]fsys.Change{rename("a", "a")}, api.OK},
		{[]fsys.Change{put("c", big[1:]), add("d", "")}, api.ErrNone},
	}
	for i, c := range cases {
		if e := f.Do(c.l); e != c.e || !maps.Equal(all(t, f), before) || f.Disk().Writes() != writes {
			t.Errorf("case %d: %d, want %d", i, e, c.e)
		}
	}
	if !maps.Equal(all(t, open(t, f.Disk())), before) {
		t.Error("on the disk")
	}
	do(t, f, put("a", strings.Repeat("x", 47*256)))
}

// P16.2: the table that does not go into its sectors, and more files than may be.
func TestTableFull(t *testing.T) {
	f := fresh(t, 60, 6, 1)
	name := func(i int) string { return strings.Repeat("n", 36) + strconv.Itoa(i) }
	for i := range 6 {
		do(t, f, create(name(i), ""))
	}
	if e := f.Do([]fsys.Change{create("m", "")}); e != api.ErrSpace {
		t.Error("2 and 6 times 42 bytes, and 6", e)
	}
	do(t, f, remove(name(0)), create(strings.Repeat("n", 37), ""))
	if e := f.Do([]fsys.Change{rename(name(1), strings.Repeat("n", 41))}); e != api.ErrSpace {
		t.Error("2 bytes more", e)
	}
	do(t, f, rename(name(1), strings.Repeat("n", 39)))
	if e := f.Do([]fsys.Change{rename(name(2), strings.Repeat("n", 38))}); e != api.ErrSpace {
		t.Error("a byte more", e)
	}
	if got := open(t, f.Disk()).List(); !slices.Equal(got, f.List()) {
		t.Error(got)
	}
	g := fresh(t, 100, 60, 30)
	var l []fsys.Change
	for i := range 400 {
		l = append(l, create("f"+strconv.Itoa(i), ""))
	}
	do(t, g, l...)
	if e := g.Do([]fsys.Change{create("one", "")}); e != api.ErrLarge {
		t.Error("401 files", e)
	}
	if e := g.Do([]fsys.Change{put("one", "")}); e != api.ErrLarge {
		t.Error("401 files", e)
	}
	do(t, g, put("f7", "x"), remove("f8"), create("one", ""), rename("one", "two"))
	if len(open(t, g.Disk()).List()) != 400 {
		t.Error("400 files")
	}
}

// P16.2: more sectors than the log can hold: nothing is written.
func TestLog(t *testing.T) {
	f := fresh(t, 80, 3, 20)
	var l []fsys.Change
	for i := range 12 {
		l = append(l, create(strings.Repeat("n", 70)+strconv.Itoa(i), "x"))
	}
	writes := f.Disk().Writes()
	if e := f.Do(l); e != api.ErrLog || f.Disk().Writes() != writes || len(f.List()) != 0 {
		t.Error(e)
	}
	do(t, f, l[:6]...)
	writes = f.Disk().Writes()
	if e := f.Do([]fsys.Change{put("zzz", "1")}); e != api.OK || f.Disk().Writes() != writes+1+3+1+2+1 {
		t.Error("a block, three of the ring, the mark, two sectors, the head", e, f.Disk().Writes()-writes)
	}
}

// P16.2, P16.3: a disk that is down.
func TestDown(t *testing.T) {
	f := fresh(t, 30, 6, 2)
	do(t, f, create("a", "x"), create("b", ""))
	before := f.List()
	f.Disk().Crash(nil)
	if b, e := f.Read("a"); b != nil || e != api.ErrDown {
		t.Error("Read", e)
	}
	if b, e := f.Read("b"); len(b) != 0 || e != api.OK {
		t.Error("Read of an empty one", e)
	}
	for i, c := range []struct {
		l []fsys.Change
		e api.Errno
	}{{[]fsys.Change{add("a", "y")}, api.ErrDown}, {[]fsys.Change{add("a", "y"), create("", "")}, api.ErrDown}, {[]fsys.Change{put("a", "y"), add("a", "z"), create("", "")}, api.ErrName}, {[]fsys.Change{put("c", "y")}, api.ErrDown}, {[]fsys.Change{remove("a")}, api.ErrDown}, {[]fsys.Change{add("b", "y")}, api.ErrDown}} {
		if e := f.Do(c.l); e != c.e || !slices.Equal(f.List(), before) || f.Size("a") != 1 {
			t.Errorf("case %d: %d", i, e)
		}
	}
}

// P16.1: tops and tables that are none.
func TestOpenWrong(t *testing.T) {
	f := fresh(t, 20, 4, 2)
	do(t, f, create("a", "1"), create("b", strings.Repeat("x", 300)))
	// top at 6, table at 7 and 8: 00 02 | 01 a 00000001 0000 | 01 b 0000012C 0001 0002
	cases := []struct {
		k, at int
		x     byte
		e     api.Errno
	}{
		{6, 0, 'B', api.ErrForm}, {6, 1, 'B', api.ErrForm}, {6, 3, 0, api.ErrForm}, {6, 2, 1, api.ErrForm}, {6, 4, 1, api.ErrForm}, {6, 255, 1, api.ErrForm}, {6, 3, 12, api.ErrForm}, {6, 3, 13, api.ErrForm}, {6, 3, 201, api.ErrForm}, {6, 3, 1, api.OK},
		{7, 1, 1, api.ErrForm}, {7, 1, 3, api.ErrForm}, {7, 0, 255, api.ErrForm}, {7, 2, 0, api.ErrForm}, {7, 3, 'b', api.ErrForm}, {7, 3, 'c', api.ErrForm}, {7, 3, 32, api.ErrForm}, {7, 3, 127, api.ErrForm}, {7, 11, 'a', api.ErrForm}, {7, 11, 'A', api.ErrForm}, {7, 11, 'c', api.OK},
		{7, 5, 1, api.ErrForm}, {7, 4, 1, api.ErrForm}, {7, 7, 0, api.ErrForm}, {7, 7, 255, api.OK}, {7, 9, 1, api.ErrForm}, {7, 9, 11, api.ErrForm}, {7, 9, 10, api.OK}, {7, 8, 1, api.ErrForm}, {7, 17, 2, api.ErrForm}, {7, 19, 1, api.ErrForm}, {7, 19, 0, api.ErrForm}, {7, 19, 3, api.OK},
		{7, 20, 1, api.ErrForm}, {7, 255, 1, api.ErrForm}, {8, 255, 1, api.ErrForm}, {7, 10, 250, api.ErrForm}, {0, 0, 'B', api.ErrForm},
	}
	for i, c := range cases {
		d := f.Disk().Copy()
		b, _ := d.Read(c.k)
		b[c.at] = c.x
		d.Write(c.k, b)
		d.Flush()
		if g, e := fsys.Open(d); e != c.e || (g == nil) != (e != api.OK) {
			t.Errorf("case %d: sector %d, byte %d: %d", i, c.k, c.at, e)
		}
	}
}

// P16.1: tables that go up to the end of their sectors, or beyond; sizes above 65535; 401 files.
func TestOpenEdges(t *testing.T) {
	try := func(sectors, meta int, table []byte) api.Errno {
		d, _ := disk.New(sectors)
		fsys.Format(d, 4, meta)
		table = append(table, make([]byte, meta*256-len(table))...)
		for i := range meta {
			d.Write(7+i, table[i*256:(i+1)*256])
		}
		d.Flush()
		_, e := fsys.Open(d)
		return e
	}
	var full, cut []byte
	for i, n := range []int{79, 79, 78} {
		entry := append([]byte{byte(n)}, bytes.Repeat([]byte{byte('a' + i)}, n)...)
		full = append(full, append(entry, 0, 0, 0, 0)...)
	}
	cut = append(slices.Clone(full), 1, 'z', 0)
	if e := try(20, 1, append([]byte{0, 3}, full...)); e != api.OK {
		t.Error("253 bytes", e)
	}
	if e := try(20, 1, append([]byte{0, 4}, cut...)); e != api.ErrForm {
		t.Error("an entry that goes beyond", e)
	}
	var exact []byte
	for i, n := range []int{80, 80, 79} {
		entry := append([]byte{byte(n)}, bytes.Repeat([]byte{byte('a' + i)}, n)...)
		exact = append(exact, append(entry, 0, 0, 0, 0)...)
	}
	if e := try(20, 1, append([]byte{0, 3}, exact...)); e != api.OK {
		t.Error("256 bytes", e)
	}
	if e := try(20, 1, append([]byte{0, 4}, exact...)); e != api.ErrForm {
		t.Error("an entry behind the end", e)
	}
	for meta, want := range map[int]api.Errno{200: api.OK, 201: api.ErrForm} {
		d, _ := disk.New(400)
		fsys.Format(d, 4, 200)
		d.Write(6, padded('A', 'F', 0, byte(meta)))
		if _, e := fsys.Open(d); e != want {
			t.Errorf("a table of %d: %d", meta, e)
		}
	}
	d, _ := disk.New(20)
	fsys.Format(d, 4, 2)
	for meta, want := range map[int]api.Errno{12: api.OK, 13: api.ErrForm, 14: api.ErrForm, 199: api.ErrForm} {
		d.Write(6, padded('A', 'F', 0, byte(meta)))
		if _, e := fsys.Open(d); e != want {
			t.Errorf("a table of %d, on few sectors: %d", meta, e)
		}
	}
	for count, want := range map[int]api.Errno{400: api.OK, 401: api.ErrForm} {
		table := []byte{byte(count >> 8), byte(count)}
		for i := range count {
			table = append(table, 2, byte(40+i/80), byte(40+i%80), 0, 0, 0, 0)
		}
		if e := try(40, 12, table); e != want {
			t.Errorf("%d files: %d", count, e)
		}
	}
	for size, want := range map[int]api.Errno{65535: api.OK, 65536: api.ErrForm} {
		table := []byte{0, 1, 1, 'a', 0, byte(size >> 16), byte(size >> 8), byte(size)}
		for i := range 256 {
			table = append(table, byte(i>>8), byte(i))
		}
		if e := try(400, 4, table); e != want {
			t.Errorf("%d bytes: %d", size, e)
		}
	}
}

// P16.4: nothing is kept or shared.
func TestMemory(t *testing.T) {
	f := fresh(t, 30, 6, 2)
	data := []byte("abc")
	do(t, f, fsys.Change{Kind: fsys.Create, Name: "a", Data: data})
	data[0] = 'z'
	b, _ := f.Read("a")
	b[1] = 'z'
	k, l := f.Blocks("a"), f.List()
	k[0], l[0] = 9, "q"
	if b, _ := f.Read("a"); string(b) != "abc" || f.Blocks("a")[0] != 0 || f.List()[0] != "a" {
		t.Error("shared")
	}
	room := append(make([]byte, 0, 10), 'x')
	do(t, f, fsys.Change{Kind: fsys.Put, Name: "b", Data: room}, add("b", "yz"))
	if string(room[:3]) != "x\x00\x00" {
		t.Error("what lies behind a list is written")
	}
}

// change is one by chance, and what it makes of the files (nil: an error).
func change(r *rand.Rand, m map[string]string) (fsys.Change, map[string]string) {
	names := "abcde"
	name, to := string(names[r.Intn(5)]), string(names[r.Intn(5)])
	data := strings.Repeat(string(names[r.Intn(5)]), r.Intn(3)*r.Intn(300))
	out := maps.Clone(m)
	old, there := m[name]
	_, toThere := m[to]
	kind := 1 + r.Intn(5)
	c := fsys.Change{Kind: kind, Name: name, To: to, Data: []byte(data)}
	switch {
	case kind == fsys.Create && there, kind > fsys.Put && !there, kind == fsys.Rename && toThere && to != name:
		return c, nil
	case kind == fsys.Append:
		out[name] = old + data
	case kind == fsys.Rename:
		delete(out, name)
		out[to] = old
	case kind == fsys.Delete:
		delete(out, name)
	default:
		out[name] = data
	}
	return c, out
}

// whole tells whether each block is one file's at most, and all are counted.
func whole(t *testing.T, f *fsys.FS, count int) {
	t.Helper()
	seen := map[int]bool{}
	for _, name := range f.List() {
		for _, k := range f.Blocks(name) {
			if seen[k] || k < 0 || k >= count {
				t.Fatalf("block %d", k)
			}
			seen[k] = true
		}
	}
	if len(seen) != f.Used() || f.Used()+f.Free() != count {
		t.Fatal("Used, Free", f.Used(), f.Free())
	}
}

// P16.2, P16.5: changes by chance, falls within them and within openings: as they were, or as they would be.
func TestFalls(t *testing.T) {
	r := rand.New(rand.NewSource(26))
	var met [3]int
	for range 150 {
		f := fresh(t, 70, 6, 2)
		now := map[string]string{}
		for range 25 {
			next := now
			var l []fsys.Change
			for range 1 + r.Intn(4) {
				c, after := change(r, next)
				l = append(l, c)
				next = after
				if next == nil {
					break
				}
			}
			mask := make([]byte, 4)
			r.Read(mask)
			d := f.Disk()
			if r.Intn(2) == 0 {
				d.CrashAt(1+r.Intn(20), mask)
			}
			e := f.Do(l)
			switch {
			case next == nil && (e == api.OK || e == api.ErrDown), next != nil && e != api.OK && e != api.ErrDown && e != api.ErrSpace:
				t.Fatalf("%v: %d", l, e)
			case e != api.OK && e != api.ErrDown:
				next = now
			}
			for !d.Up() {
				d.Reboot()
				d.CrashAt(r.Intn(12), mask)
				if g, f2 := fsys.Open(d); f2 == api.OK {
					f = g
				}
			}
			d.CrashAt(0, nil)
			got := all(t, f)
			isNew := next != nil && maps.Equal(got, next)
			if !isNew && (e == api.OK || !maps.Equal(got, now)) {
				t.Fatalf("%d: %v, was %v, to be %v", e, got, now, next)
			}
			if e == api.ErrDown && isNew {
				met[0]++
			} else if e == api.ErrDown {
				met[1]++
			} else {
				met[2]++
			}
			whole(t, f, 59)
			now = got
			if !maps.Equal(all(t, open(t, d)), now) {
				t.Fatal("opened again")
			}
		}
	}
	if met[0] == 0 || met[1] == 0 || met[2] == 0 {
		t.Error(met)
	}
}

// P16.5: a fall at each write of one Do, with each mask of a few writes.
func TestEachFall(t *testing.T) {
	base := fresh(t, 40, 6, 2)
	do(t, base, create("a", "1"), create("b", strings.Repeat("2", 300)), create("c", "3"))
	before := all(t, base)
	l := []fsys.Change{add("b", "4"), remove("a"), rename("c", "d"), create("e", "5")}
	after := map[string]string{"b": strings.Repeat("2", 300) + "4", "d": "3", "e": "5"}
	met := map[bool]int{}
	for at := 1; at < 14; at++ {
		for mask := range 16 {
			d := base.Disk().Copy()
			f := open(t, d)
			d.CrashAt(at, []byte{byte(mask)})
			e := f.Do(l)
			if e != api.OK && !slices.Equal(f.List(), base.List()) {
				t.Fatal("beside an error the files are others")
			}
			d.CrashAt(0, nil)
			d.Reboot()
			got := all(t, open(t, d))
			isNew := maps.Equal(got, after)
			if !isNew && (e == api.OK || !maps.Equal(got, before)) {
				t.Fatalf("fall %d, mask %x: %v", at, mask, got)
			}
			met[isNew]++
		}
	}
	if len(met) != 2 {
		t.Error(met)
	}
}

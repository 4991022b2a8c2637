package pack_test

import (
	"bytes"
	"encoding/binary"
	"encoding/hex"
	"hash/crc32"
	"math"
	"math/rand"
	"slices"
	"sort"
	"strings"
	"testing"

	"aquatint/api"
	"aquatint/diff"
	"aquatint/obj"
	"aquatint/pack"
	"aquatint/pix"
	"aquatint/sha"
	"aquatint/zlib"
)

// tile is the object of a picture.
func tile(r api.Raster) []byte { return obj.Tile{Raster: r}.Bytes() }

// raster gives the picture of a tile.
func raster(b []byte) api.Raster { return obj.MustTile(b) }

// grey is a tile of 8 by 8, its bytes by a rule.
func grey(f func(i int) int) []byte {
	r := api.Raster{Shape: api.Shape{W: 8, H: 8, Chan: 1, Depth: 8}, Pix: make([]byte, 64)}
	for i := range r.Pix {
		r.Pix[i] = byte(f(i))
	}
	return tile(r)
}

// samples are objects of all kinds, tiles that are like one another among them.
func samples(r *rand.Rand, n int) [][]byte {
	var out [][]byte
	shapes := []api.Shape{{W: 8, H: 8, Chan: 1, Depth: 8}, {W: 8, H: 8, Chan: 3, Depth: 8}, {W: 3, H: 8, Chan: 1, Depth: 16}}
	base := make([]byte, 200)
	r.Read(base)
	for range n {
		switch r.Intn(8) {
		case 0:
			out = append(out, obj.Commit{Tree: sha.Key(base[:r.Intn(9)]), Stamp: 1 + r.Intn(9), Author: "u"}.Bytes())
		case 1:
			out = append(out, obj.Tree{Shape: shapes[r.Intn(3)], Keys: []string{sha.Key(base[:r.Intn(9)])}}.Bytes())
		default:
			s := shapes[r.Intn(3)]
			p := api.Raster{Shape: s, Pix: slices.Clone(base[:pix.Size(s)])}
			for range r.Intn(12) {
				p.Pix[r.Intn(len(p.Pix))] += byte(r.Intn(5))
			}
			out = append(out, tile(p))
		}
	}
	return out
}

// piece is an entry of a pack that a test makes.
type piece struct {
	key  string
	body []byte
}

// entry is the bytes of an entry.
func entry(kind byte, back int, data []byte) []byte {
	b := []byte{kind}
	if kind > 0 {
		b = binary.BigEndian.AppendUint16(b, uint16(back))
	}
	return append(binary.BigEndian.AppendUint32(b, uint32(len(data))), data...)
}

// packed is zlib.Pack.
func packed(b []byte) []byte {
	p, _ := zlib.Pack(b)
	return p
}

// sum adds the check sum.
func sum(b []byte) []byte { return binary.BigEndian.AppendUint32(b, crc32.ChecksumIEEE(b)) }

// build puts entries together, by the chapter's words.
func build(l []piece) []byte {
	out := binary.BigEndian.AppendUint16([]byte("AQPK"), uint16(len(l)))
	var index []byte
	for _, p := range l {
		id, _ := hex.DecodeString(p.key)
		index = append(index, id...)
		index = binary.BigEndian.AppendUint32(index, uint32(len(out)))
		index = binary.BigEndian.AppendUint32(index, crc32.ChecksumIEEE(p.body))
		out = append(out, p.body...)
	}
	for i := range 256 {
		n := 0
		for _, p := range l {
			if id, _ := hex.DecodeString(p.key[:2]); int(id[0]) <= i {
				n++
			}
		}
		out = binary.BigEndian.AppendUint16(out, uint16(n))
	}
	return sum(append(out, index...))
}

// byWords writes a pack by the chapter's words, and tells how deep each object is.
func byWords(objs [][]byte, depth int) ([]byte, map[string]int) {
	byKey := map[string][]byte{}
	for _, b := range objs {
		byKey[sha.Key(b)] = b
	}
	var keys []string
	for k := range byKey {
		keys = append(keys, k)
	}
	sort.Strings(keys)
	depths := map[string]int{}
	var l []piece
	for i, k := range keys {
		best, kind, back := packed(byKey[k]), 0, 0
		p, isTile := obj.AsTile(byKey[k])
		for j, tried := i-1, 0; isTile && j >= 0 && tried < 4; j-- {
			q, ok := obj.AsTile(byKey[keys[j]])
			if !ok || q.Shape != p.Shape || depths[keys[j]] >= depth {
				continue
			}
			tried++
			if n, d, _ := diff.Best(q, p); len(d) < len(best) {
				best, kind, back = d, n, i-j
			}
		}
		if kind > 0 {
			depths[k] = depths[keys[i-back]] + 1
		} else {
			depths[k] = 0
		}
		l = append(l, piece{k, entry(byte(kind), back, best)})
	}
	return build(l), depths
}

// P19.1, P19.4: packs, byte by byte; each object is got, at its depth.
func TestWrite(t *testing.T) {
	r := rand.New(rand.NewSource(28))
	met := map[int]int{}
	for i := range 60 {
		objs := samples(r, r.Intn(40))
		depth := []int{0, 1, 2, 3, 10, 50}[i%6]
		want, depths := byWords(objs, depth)
		b, e := pack.Write(objs, depth)
		if e != api.OK || !bytes.Equal(b, want) {
			t.Fatalf("%d objects, depth %d: %d", len(objs), depth, e)
		}
		p, e := pack.Open(b)
		if e != api.OK || p.Verify() != api.OK {
			t.Fatal(e)
		}
		keys := p.Keys()
		if len(keys) != len(depths) || !slices.IsSorted(keys) {
			t.Fatal("keys")
		}
		for _, o := range objs {
			k := sha.Key(o)
			x, e := p.Get(k)
			if e != api.OK || !bytes.Equal(x, o) || p.Depth(k) != depths[k] || depths[k] > depth || keys[p.Find(k)] != k {
				t.Fatalf("%s: %d", k, e)
			}
			met[p.Depth(k)]++
		}
	}
	if met[0] == 0 || met[1] == 0 || met[3] == 0 {
		t.Error(met)
	}
}

// P19.1: more than 256 objects, and a base that is as far back.
func TestMany(t *testing.T) {
	var objs [][]byte
	for i := range 330 {
		objs = append(objs, obj.Commit{Tree: sha.Key(nil), Stamp: 1 + i, Author: "u"}.Bytes())
	}
	r := rand.New(rand.NewSource(38))
	noise := make([]byte, 64)
	r.Read(noise)
	var low, high []byte
	for i := 0; len(low) == 0 || len(high) == 0; i++ {
		b := grey(func(j int) int { return int(noise[j]) + i*(j/63) })
		if k := sha.Key(b); k < "04" {
			low = b
		} else if k > "fc" {
			high = b
		}
	}
	objs = append(objs, low, high)
	want, depths := byWords(objs, 10)
	b, e := pack.Write(objs, 10)
	if e != api.OK || !bytes.Equal(b, want) || depths[sha.Key(high)] != 1 {
		t.Fatal(e)
	}
	p, e := pack.Open(b)
	if e != api.OK || p.Verify() != api.OK || p.Find(sha.Key(high))-p.Find(sha.Key(low)) < 256 || p.Depth(sha.Key(high)) != 1 {
		t.Error(e)
	}
}

// P19.1: what can't be packed.
func TestWriteWrong(t *testing.T) {
	good := grey(func(i int) int { return i })
	for _, n := range []int{-1, 51, math.MaxInt, math.MinInt} {
		if b, e := pack.Write([][]byte{{9}}, n); b != nil || e != api.ErrRange {
			t.Errorf("depth %d: %d", n, e)
		}
	}
	for _, bad := range [][]byte{nil, {1}, append(slices.Clone(good), 0)} {
		if b, e := pack.Write([][]byte{good, bad}, 5); b != nil || e != api.ErrForm {
			t.Errorf("% x: %d", bad, e)
		}
	}
	var many [][]byte
	for i := range 401 {
		many = append(many, tile(api.Raster{Shape: api.Shape{W: 1, H: 1, Chan: 1, Depth: 16}, Pix: []byte{byte(i >> 8), byte(i)}}))
	}
	if b, e := pack.Write(many, 0); b != nil || e != api.ErrLarge {
		t.Error("401 objects", e)
	}
	if b, e := pack.Write(append(many[:400], many[:100]...), 0); e != api.OK || b[4] != 1 || b[5] != 144 {
		t.Error("400 objects, some twice", e)
	}
	if b, e := pack.Write(nil, 0); e != api.OK || len(b) != 522 || !bytes.Equal(b[:6], []byte("AQPK\x00\x00")) {
		t.Error("nothing", e)
	}
}

// three is a pack of three tiles: whole, a delta of it, a delta of that, with what they are told by.
func three() ([]piece, [][]byte) {
	objs := [][]byte{grey(func(i int) int { return i * i }), grey(func(i int) int { return i*i + i/60 }), grey(func(i int) int { return i*i + i/50 })}
	sort.Slice(objs, func(i, j int) bool { return sha.Key(objs[i]) < sha.Key(objs[j]) })
	l := []piece{{sha.Key(objs[0]), entry(0, 0, packed(objs[0]))}}
	for i := 1; i < 3; i++ {
		d, _ := diff.Make(i, raster(objs[i-1]), raster(objs[i]))
		l = append(l, piece{sha.Key(objs[i]), entry(byte(i), 1, packed(d))})
	}
	return l, objs
}

// errors opens a pack, and tells the error of each Get, and of Verify.
func errors(t *testing.T, l []piece) []api.Errno {
	t.Helper()
	p, e := pack.Open(build(l))
	if e != api.OK {
		t.Fatal(e)
	}
	var out []api.Errno
	first := api.OK
	for _, x := range l {
		b, e := p.Get(x.key)
		if (e == api.OK) != (b != nil) || (e == api.OK) != (p.Depth(x.key) >= 0) {
			t.Errorf("Get: %d", e)
		}
		if first == api.OK {
			first = e
		}
		out = append(out, e)
	}
	if e := p.Verify(); e != first {
		t.Errorf("Verify: %d, want %d", e, first)
	}
	return out
}

// P19.2: entries that are none, or tell something else.
func TestGetWrong(t *testing.T) {
	good, objs := three()
	commit := obj.Commit{Tree: good[0].key, Stamp: 1, Author: "u"}.Bytes()
	wrongSum := packed(objs[0])
	wrongSum[len(wrongSum)-1] ^= 1
	other, _ := diff.Make(2, raster(objs[1]), raster(objs[0]))
	ok, sumE, form := api.OK, api.ErrSum, api.ErrForm
	zeros := packed(make([]byte, 64))
	cases := []struct {
		name string
		at   int
		body []byte
		want []api.Errno
	}{
		{"good", 0, good[0].body, []api.Errno{ok, ok, ok}},
		{"whole: a length above", 0, append([]byte{0, 0, 0, 0, 99}, packed(objs[0])...), []api.Errno{form, form, form}},
		{"whole: a byte behind", 0, append(slices.Clone(good[0].body), 0), []api.Errno{form, form, form}},
		{"whole: one byte", 0, []byte{0}, []api.Errno{form, form, form}},
		{"whole: four bytes", 0, []byte{0, 0, 0, 0}, []api.Errno{form, form, form}},
		{"whole: nothing in it", 0, entry(0, 0, nil), []api.Errno{api.ErrShort, form, form}},
		{"whole: another object", 0, entry(0, 0, packed(objs[1])), []api.Errno{sumE, form, form}},
		{"whole: a commit", 0, entry(0, 0, packed(commit)), []api.Errno{sumE, form, form}},
		{"whole: bytes behind the pack", 0, entry(0, 0, append(packed(objs[0]), 0)), []api.Errno{api.ErrLong, form, form}},
		{"whole: its sum", 0, entry(0, 0, wrongSum), []api.Errno{sumE, form, form}},
		{"whole: no pack", 0, entry(0, 0, []byte{1, 2, 3}), []api.Errno{form, form, form}},
		{"kind 3", 1, append([]byte{3}, good[1].body[1:]...), []api.Errno{ok, form, form}},
		{"kind 255", 2, append([]byte{255}, good[2].body[1:]...), []api.Errno{ok, ok, form}},
		{"delta: itself", 1, entry(1, 0, zeros), []api.Errno{ok, form, form}},
		{"delta: ahead of all", 1, entry(1, 2, zeros), []api.Errno{ok, form, form}},
		{"delta: the first one", 0, entry(1, 1, zeros), []api.Errno{form, form, form}},
		{"delta: too short", 1, entry(1, 1, packed(make([]byte, 63))), []api.Errno{ok, form, form}},
		{"delta: too long", 1, entry(1, 1, packed(make([]byte, 65))), []api.Errno{ok, form, form}},
		{"delta: another object", 1, entry(1, 1, packed(other)), []api.Errno{ok, sumE, form}},
		{"delta: the other kind", 1, entry(2, 1, good[1].body[7:]), []api.Errno{ok, sumE, form}},
		{"delta: no pack", 1, entry(1, 1, []byte{0x78, 0x9C, 7}), []api.Errno{ok, form, form}},
		{"delta: sum", 1, entry(1, 1, wrongSum), []api.Errno{ok, sumE, form}},
		{"delta: nothing in it", 2, entry(2, 1, nil), []api.Errno{ok, ok, api.ErrShort}},
		{"delta: its head is cut", 2, []byte{2, 0}, []api.Errno{ok, ok, form}},
	}
	for _, c := range cases {
		l := slices.Clone(good)
		l[c.at].body = c.body
		got := errors(t, l)
		if !slices.Equal(got, c.want) {
			t.Errorf("%s: %d, want %d", c.name, got, c.want)
		}
	}
}

// P19.2: the sums of entries; bases that are no tiles; keys that are none.
func TestGetMore(t *testing.T) {
	good, objs := three()
	for i := range 3 {
		b := build(good)
		at := len(b) - 4 - 40*(3-i) + 36
		b[at] ^= 1
		p, e := pack.Open(sum(b[:len(b)-4]))
		if e != api.OK {
			t.Fatal(e)
		}
		for j := range 3 {
			want := api.OK
			if j == i {
				want = api.ErrSum
			} else if j > i {
				want = api.ErrForm
			}
			if _, e := p.Get(good[j].key); e != want {
				t.Errorf("sum of %d, Get of %d: %d", i, j, e)
			}
		}
		if p.Verify() != api.ErrSum {
			t.Error("Verify")
		}
	}
	p, _ := pack.Open(build(good))
	for _, k := range []string{"", "x", strings.ToUpper(good[0].key), good[0].key[1:]} {
		if b, e := p.Get(k); b != nil || e != api.ErrName || p.Depth(k) != -1 || p.Find(k) != -1 {
			t.Errorf("%q: %d", k, e)
		}
	}
	if b, e := p.Get(sha.Key(nil)); b != nil || e != api.ErrNone || p.Depth(sha.Key(nil)) != -1 || p.Find(sha.Key(nil)) != -1 {
		t.Error("one that is not there", e)
	}
	for i := range 3 {
		if p.Find(good[i].key) != i || p.Depth(good[i].key) != i {
			t.Error("Find, Depth", i)
		}
	}
	for stamp := 1; ; stamp++ {
		commit := obj.Commit{Tree: good[0].key, Stamp: stamp, Author: "u"}.Bytes()
		if k := sha.Key(commit); k < good[1].key {
			got := errors(t, []piece{{k, entry(0, 0, packed(commit))}, {good[1].key, entry(1, 1, packed(objs[1][8:]))}})
			if !slices.Equal(got, []api.Errno{api.OK, api.ErrForm}) {
				t.Error("a base that is no tile", got)
			}
			break
		}
	}
	// What is no object is got, too: its key is what counts.
	text := []byte("no object")
	if got := errors(t, []piece{{sha.Key(text), entry(0, 0, packed(text))}}); got[0] != api.OK {
		t.Error("no object", got)
	}
}

// P19.2: deltas one on the other, up to 50 and beyond.
func TestDeep(t *testing.T) {
	var objs [][]byte
	for i := range 52 {
		objs = append(objs, grey(func(j int) int { return j * i }))
	}
	sort.Slice(objs, func(i, j int) bool { return sha.Key(objs[i]) < sha.Key(objs[j]) })
	l := []piece{{sha.Key(objs[0]), entry(0, 0, packed(objs[0]))}}
	for i := 1; i < 52; i++ {
		d, _ := diff.Make(2, raster(objs[i-1]), raster(objs[i]))
		l = append(l, piece{sha.Key(objs[i]), entry(2, 1, packed(d))})
	}
	p, _ := pack.Open(build(l))
	for i := range 51 {
		if b, e := p.Get(l[i].key); e != api.OK || !bytes.Equal(b, objs[i]) || p.Depth(l[i].key) != i {
			t.Fatalf("depth %d: %d", i, e)
		}
	}
	if b, e := p.Get(l[51].key); b != nil || e != api.ErrLimit || p.Depth(l[51].key) != -1 || p.Verify() != api.ErrLimit {
		t.Error("depth 51", e)
	}
}

// P19.2, P19.4: packs that are refused.
func TestOpenWrong(t *testing.T) {
	good, _ := three()
	b := build(good)
	for n := range len(b) {
		want := api.ErrSum
		if n < 522 {
			want = api.ErrShort
		}
		if p, e := pack.Open(b[:n]); p != nil || e != want {
			t.Fatalf("cut at %d: %d", n, e)
		}
	}
	for i := range b {
		x := slices.Clone(b)
		x[i] ^= 1 << (i % 8)
		if p, e := pack.Open(x); p != nil || e != api.ErrSum {
			t.Fatalf("byte %d: %d", i, e)
		}
	}
	index := len(b) - 4 - 120 - 512
	set := func(at int, x byte) []byte {
		c := slices.Clone(b[:len(b)-4])
		c[at] = x
		return sum(c)
	}
	swapped := build([]piece{good[1], good[0], good[2]})
	twice := build([]piece{good[0], good[0], good[2]})
	empty := build(nil)
	first, last := index+512+32, index+512+80+32
	place := func(n int) []byte {
		c := slices.Clone(b[:len(b)-4])
		binary.BigEndian.PutUint32(c[last:], uint32(n))
		return sum(c)
	}
	short := sum(append([]byte("AQPK\x00\x01"), make([]byte, 512+39)...))
	cases := []struct {
		name string
		b    []byte
		e    api.Errno
	}{
		{"good", b, api.OK}, {"empty", empty, api.OK}, {"sign", set(0, 'B'), api.ErrForm}, {"sign", set(3, 'k'), api.ErrForm}, {"count above", set(5, 4), api.ErrForm}, {"count below", set(5, 2), api.ErrForm}, {"count far above", set(4, 255), api.ErrForm}, {"count 0", set(5, 0), api.ErrForm},
		{"index does not go into it", short, api.ErrForm}, {"keys do not rise", swapped, api.ErrForm}, {"a key twice", twice, api.ErrForm},
		{"fan", set(index+1, 3), api.ErrForm}, {"fan at its end", set(index+511, 2), api.ErrForm}, {"first place", set(first+3, 7), api.ErrForm}, {"first place far", set(first, 7), api.ErrForm},
		{"second place is the first", set(first+40+3, 6), api.ErrForm}, {"last place beyond", set(last+1, 1), api.ErrForm}, {"last place is the index", place(index), api.ErrForm}, {"a last entry of one byte", place(index - 1), api.OK},
		{"a byte without entries", sum(append([]byte("AQPK\x00\x00\x00"), make([]byte, 512)...)), api.ErrForm},
	}
	for _, c := range cases {
		if p, e := pack.Open(c.b); e != c.e || (p == nil) != (e != api.OK) {
			t.Errorf("%s: %d, want %d", c.name, e, c.e)
		}
	}
}

// P19.3: nothing is kept or shared.
func TestMemory(t *testing.T) {
	r := rand.New(rand.NewSource(29))
	objs := samples(r, 10)
	before := make([][]byte, len(objs))
	for i := range objs {
		before[i] = slices.Clone(objs[i])
	}
	b, _ := pack.Write(objs, 5)
	p, _ := pack.Open(b)
	clear(b)
	for i, o := range objs {
		x, e := p.Get(sha.Key(o))
		if e != api.OK || !bytes.Equal(o, before[i]) {
			t.Fatal("kept", e)
		}
		clear(x)
	}
	k := p.Keys()
	k[0] = "x"
	if p.Verify() != api.OK || p.Keys()[0] == "x" {
		t.Error("shared")
	}
}

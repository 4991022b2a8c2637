package script_test

import (
	"bytes"
	"math"
	"math/rand"
	"reflect"
	"slices"
	"strings"
	"testing"

	"aquatint/api"
	"aquatint/pix"
	"aquatint/script"
	"aquatint/world"
)

// P26.1: pictures by a rule.
func TestPic(t *testing.T) {
	for _, c := range [][3]int{{0, 0, 0}, {1, 2, 3}, {11, 9, 11}, {12, 10, 12}, {3, 7, 255}, {4, 7, 13}, {200, 100, 14}, {255, 255, 15}, {1000, 2000, 3003}, {math.MaxInt, math.MaxInt, math.MaxInt}, {35, 49, 31}} {
		x, y, z := c[0], c[1], c[2]
		p := script.Pic(x, y, z)
		s := api.Shape{W: 1 + x%12, H: 1 + y%10, Chan: 1 + z%4, Depth: 8}
		if z%16 >= 12 {
			s.Depth = 16
		}
		if p.Shape != s || !pix.May(p) {
			t.Fatalf("%d: %v", c, p.Shape)
		}
		for i, b := range p.Pix {
			if int(b) != (x%256*i+y%256*(i/7)+z%256)%256 {
				t.Fatalf("%d: byte %d", c, i)
			}
		}
	}
	for _, c := range [][3]int{{-1, 5, 6}, {math.MinInt, 5, 6}} {
		if !pix.Same(script.Pic(c[0], 5, 6), script.Pic(0, 5, 6)) || !pix.Same(script.Pic(5, c[0], 6), script.Pic(5, 0, 6)) || !pix.Same(script.Pic(5, 6, c[0]), script.Pic(5, 6, 0)) {
			t.Error(c)
		}
	}
}

// P26.1: each kind of four bytes.
func TestActs(t *testing.T) {
	cases := []struct {
		b    [4]byte
		want world.Act
	}{
		{[4]byte{0, 2, 4, 9}, world.Act{Kind: world.Commit, Name: "a", Other: "u", Pic: script.Pic(3, 7, 9)}},
		{[4]byte{5, 3, 5, 255}, world.Act{Kind: world.Commit, Name: "b", Other: "u", Pic: script.Pic(4, 7, 255)}},
		{[4]byte{16 + 3, 255, 0, 0}, world.Act{Kind: world.Commit, Name: "b", Other: "u", Pic: script.Pic(3, 7, 0)}},
		{[4]byte{6, 13, 9, 9}, world.Act{Kind: world.Branch, Name: "b", Key: 5}},
		{[4]byte{7, 8, 7, 9}, world.Act{Kind: world.Tag, Name: "t3", Key: 0}},
		{[4]byte{7, 15, 4, 9}, world.Act{Kind: world.Tag, Name: "t0", Key: 7}},
		{[4]byte{8, 9, 8, 9}, world.Act{Kind: world.Delete, Name: "b"}},
		{[4]byte{8, 9, 9, 9}, world.Act{Kind: world.Delete, Name: "t0", N: 1}},
		{[4]byte{9, 2, 99, 9}, world.Act{Kind: world.Merge, Name: "a", Other: "b"}},
		{[4]byte{9, 0, 0, 0}, world.Act{Kind: world.Merge, Name: "a", Other: "b"}},
		{[4]byte{10, 3, 100, 9}, world.Act{Kind: world.Merge, Name: "b", Other: "a", Pic: script.Pic(3, 7, 9)}},
		{[4]byte{9, 255, 255, 200}, world.Act{Kind: world.Merge, Name: "b", Other: "a", Pic: script.Pic(3, 7, 200)}},
		{[4]byte{11, 9, 8, 2}, world.Act{Kind: world.Log, Name: "a"}},
		{[4]byte{11, 9, 23, 3}, world.Act{Kind: world.Diff, N: 1, M: 7}},
		{[4]byte{12, 12, 8, 2}, world.Act{Kind: world.Checkout, Key: 4}},
		{[4]byte{12, 11, 8, 3}, world.Act{Kind: world.Repack, N: 5}},
		{[4]byte{13, 9, 8, 2}, world.Act{Kind: world.Collect}},
		{[4]byte{13, 9, 8, 3}, world.Act{Kind: world.Fsck}},
		{[4]byte{14, 79, 8, 199}, world.Act{Kind: world.Plan, N: 40, Mask: []byte{8, 199}}},
		{[4]byte{14, 40, 0, 0}, world.Act{Kind: world.Plan, N: 1, Mask: []byte{0, 0}}},
		{[4]byte{14, 79, 8, 200}, world.Act{Kind: world.Fall, Mask: []byte{8}}},
		{[4]byte{255, 79, 8, 200}, world.Act{Kind: world.Open}},
	}
	var all []byte
	for i, c := range cases {
		l := script.Acts(c.b[:])
		if len(l) != 1 || !reflect.DeepEqual(l[0], c.want) {
			t.Errorf("case %d: %v", i, l)
		}
		all = append(all, c.b[:]...)
	}
	for n := range 4 {
		l := script.Acts(all[:len(all)-n])
		if len(l) != len(cases)-min(n, 1) || !reflect.DeepEqual(l[7], cases[7].want) {
			t.Errorf("%d bytes fewer: %d acts", n, len(l))
		}
	}
	if len(script.Acts(nil)) != 0 || len(script.Acts(make([]byte, 3))) != 0 || len(script.Acts(make([]byte, 1200))) != 300 || len(script.Acts(make([]byte, 5000))) != 300 {
		t.Error("how many acts")
	}
}

// P26.2: lines.
func TestPrint(t *testing.T) {
	grey := api.Raster{Shape: api.Shape{W: 1, H: 1, Chan: 1, Depth: 8}, Pix: []byte{7}}
	cases := []struct {
		a    world.Act
		want string
	}{
		{world.Act{Kind: world.Open}, `open 0 0 0 "" "" "" - -`},
		{world.Act{Kind: world.Commit, N: 1, M: -2, Key: 30, Name: "a", Other: "b c", Text: "\"\n", Pic: grey, Mask: []byte{0, 255}}, `commit 1 -2 30 "a" "b c" "\"\n" 52000100010108` + `07 00ff`},
		{world.Act{Kind: world.Fsck, N: math.MaxInt, M: math.MinInt, Key: -1}, `fsck 9223372036854775807 -9223372036854775808 -1 "" "" "" - -`},
		{world.Act{Kind: world.Merge, Name: "größe\x00", Pic: api.Raster{Pix: []byte{}}, Mask: []byte{}}, `merge 0 0 0 "größe\u{0}" "" "" - -`},
	}
	for i, c := range cases {
		s, e := script.Print(c.a)
		if s != c.want || e != api.OK {
			t.Errorf("case %d: %s, %d", i, s, e)
		}
		a, e := script.Parse(s)
		if again, f := script.Print(a); e != api.OK || f != api.OK || again != s {
			t.Errorf("case %d: %v, %d", i, a, e)
		}
	}
	for i, w := range strings.Fields("commit branch tag delete merge log diff checkout repack collect fsck fall plan open") {
		want := w + ` 0 0 0 "" "" "" - -`
		if s, e := script.Print(world.Act{Kind: i + 1}); s != want || e != api.OK {
			t.Errorf("%s: %s, %d", w, s, e)
		}
		if a, e := script.Parse(want); e != api.OK || !reflect.DeepEqual(a, world.Act{Kind: i + 1}) {
			t.Errorf("%s: %v, %d", w, a, e)
		}
	}
	cut := api.Raster{Shape: grey.Shape}
	for i, a := range []world.Act{{}, {Kind: 15}, {Kind: -1}, {Kind: math.MinInt}, {Kind: math.MaxInt}, {Kind: 1, Name: "\xff"}, {Kind: 1, Other: "\xff"}, {Kind: 1, Text: "a\x80"}, {Kind: 1, Pic: cut}, {Kind: 1, Pic: api.Raster{Pix: []byte{1}}}, {Kind: 14, Pic: api.Raster{Shape: api.Shape{W: 1}}}} {
		if s, e := script.Print(a); s != "" || e != api.ErrForm {
			t.Errorf("case %d: %s, %d", i, s, e)
		}
	}
}

// P26.2: lines that are none.
func TestParseWrong(t *testing.T) {
	tail := ` "" "" "" - -`
	cases := []struct {
		s string
		e api.Errno
	}{
		{"", api.ErrShort}, {"open", api.ErrShort}, {`open 0 0 0 "" "" "" -`, api.ErrShort}, {"nonsense", api.ErrShort},
		{`open 0 0 0 "" "" "" - - -`, api.ErrForm}, {strings.Repeat("x ", 50), api.ErrForm}, {strings.Repeat("x ", 51), api.ErrLimit}, {`open 0 0 0 "" "" "" - "`, api.ErrShort}, {"open\t", api.ErrForm}, {"\xff", api.ErrForm}, {`"a`, api.ErrShort}, {`a"`, api.ErrForm},
		{"Open 0 0 0" + tail, api.ErrForm}, {"opens 0 0 0" + tail, api.ErrForm}, {`"open" 0 0 0` + tail, api.ErrForm}, {`"" 0 0 0` + tail, api.ErrForm},
		{"open  0 0 0" + tail, api.ErrForm}, {" open 0 0 0" + tail, api.ErrForm}, {"open 0 0 0" + tail + " ", api.ErrForm},
		{"open 00 0 0" + tail, api.ErrForm}, {"open -0 0 0" + tail, api.ErrForm}, {"open +1 0 0" + tail, api.ErrForm}, {"open 0 01 0" + tail, api.ErrForm}, {"open 0 0 x" + tail, api.ErrForm}, {"open 0 0 -" + tail, api.ErrForm}, {"open 0 0 1-" + tail, api.ErrForm}, {`open "0" 0 0` + tail, api.ErrForm}, {"open 0 1_0 0" + tail, api.ErrForm}, {"open 0 0x1 0" + tail, api.ErrForm},
		{"open 0 9223372036854775808 0" + tail, api.ErrForm}, {"open 0 0 99999999999999999999999999" + tail, api.ErrForm}, {"open ٣ 0 0" + tail, api.ErrForm},
		{`open 0 0 0 a "" "" - -`, api.ErrForm}, {`open 0 0 0 "" - "" - -`, api.ErrForm},
		{`open 0 0 0 "" "" "" "" -`, api.ErrForm}, {`open 0 0 0 "" "" "" - ""`, api.ErrForm}, {`open 0 0 0 "" "" "" "-" -`, api.ErrForm}, {`open 0 0 0 "" "" "" - FF`, api.ErrForm}, {`open 0 0 0 "" "" "" - f`, api.ErrForm}, {`open 0 0 0 "" "" "" - --`, api.ErrForm},
		{`open 0 0 0 "" "" "" 52 -`, api.ErrForm}, {`open 0 0 0 "" "" "" 5200010001010807ff -`, api.ErrForm}, {`open 0 0 0 "" "" "" 520001000101 -`, api.ErrForm}, {`open 0 0 0 "" "" "" 5300010001010807 -`, api.ErrForm}, {`open 0 0 0 "" "" "" x -`, api.ErrForm},
	}
	for _, c := range cases {
		if a, e := script.Parse(c.s); e != c.e || !reflect.DeepEqual(a, world.Act{}) {
			t.Errorf("%q: %v, %d; want %d", c.s, a, e, c.e)
		}
	}
}

// P26.5: what is printed is read as it; what is read is printed just so.
func TestRound(t *testing.T) {
	r := rand.New(rand.NewSource(36))
	texts := []string{"", "a", "ä b", "\"\\\n\x00", "\u009f中", "-"}
	for range 2000 {
		a := world.Act{Kind: 1 + r.Intn(14), N: r.Intn(2e9) - 1e9, M: int(r.Int63n(1e18)), Key: -int(r.Int63n(1e18)), Name: texts[r.Intn(6)], Other: texts[r.Intn(6)], Text: texts[r.Intn(6)]}
		if r.Intn(2) == 0 {
			a.Pic = script.Pic(r.Intn(99), r.Intn(99), r.Intn(99))
		}
		if r.Intn(2) == 0 {
			a.Mask = make([]byte, 1+r.Intn(4))
			r.Read(a.Mask)
		}
		s, e := script.Print(a)
		if e != api.OK {
			t.Fatal(e)
		}
		if b, e := script.Parse(s); e != api.OK || !reflect.DeepEqual(a, b) {
			t.Fatalf("%s: %v, %d", s, b, e)
		}
		x := []byte(s)
		x[r.Intn(len(x))] = byte(32 + r.Intn(95))
		if b, e := script.Parse(string(x)); e == api.OK {
			if again, _ := script.Print(b); again != string(x) {
				t.Fatalf("%s: %s", x, again)
			}
		}
	}
}

// P26.3: what was told, as lines.
func TestLines(t *testing.T) {
	l := []world.Told{{}, {Act: 12, Err: api.ErrMask, Key: "abc", Keys: []string{"x", ""}, Places: []int{7, 8, 9}, Mask: []bool{true, false, true, false}, Count: 55}, {Act: -1, Err: -2, Count: -3}}
	want := []string{"0 0 - 0 0 0 0 0", "12 15 abc 2 3 4 2 55", "-1 -2 - 0 0 0 0 -3"}
	if got := script.Lines(l); !slices.Equal(got, want) {
		t.Error(got)
	}
	if len(script.Lines(nil)) != 0 {
		t.Error("nothing")
	}
}

// P26.4: nothing is kept or shared.
func TestMemory(t *testing.T) {
	b := []byte{14, 1, 2, 3, 0, 1, 2, 3, 0, 1, 2, 3}
	l := script.Acts(b)
	l[0].Mask[0], l[1].Pic.Pix[0] = 99, 99
	m := script.Acts(b)
	if !bytes.Equal(b, []byte{14, 1, 2, 3, 0, 1, 2, 3, 0, 1, 2, 3}) || m[0].Mask[0] != 2 || l[2].Pic.Pix[0] == 99 {
		t.Error("shared")
	}
	_ = append(l[0].Mask[:1], 77)
}

// P25.5: acts of bytes by chance, in a world of their own: the same bytes tell the same lines.
func TestWorlds(t *testing.T) {
	r := rand.New(rand.NewSource(37))
	for range 15 {
		b := make([]byte, 4*120)
		r.Read(b)
		var lines [2][]string
		for i := range lines {
			w, e := world.New(300, 20, 16)
			if e != api.OK {
				t.Fatal(e)
			}
			w.Run(script.Acts(b))
			lines[i] = script.Lines(w.Told())
			if w.Repo() == nil {
				w.Disk().CrashAt(0, nil)
				w.Do(world.Act{Kind: world.Open})
			}
			if l, e := w.Repo().Fsck(); len(l) > 0 || e != api.OK {
				t.Fatal("Fsck", l, e)
			}
		}
		if !slices.Equal(lines[0], lines[1]) {
			t.Fatal("lines")
		}
	}
}

package png_test

import (
	"bytes"
	"compress/zlib"
	"encoding/binary"
	"hash/crc32"
	"image"
	"image/color"
	std "image/png"
	"math"
	"math/rand"
	"slices"
	"testing"

	"aquatint/api"
	"aquatint/filt"
	"aquatint/pix"
	"aquatint/png"
	own "aquatint/zlib"
)

const sign = "\x89PNG\r\n\x1a\n"

// chunk writes one chunk.
func chunk(kind string, data []byte) []byte {
	body := append([]byte(kind), data...)
	out := binary.BigEndian.AppendUint32(nil, uint32(len(data)))
	out = append(out, body...)
	return binary.BigEndian.AppendUint32(out, crc32.ChecksumIEEE(body))
}

// file writes a signature and chunks.
func file(l ...[]byte) []byte {
	return slices.Concat(append([][]byte{[]byte(sign)}, l...)...)
}

// head writes IHDR.
func head(w, h uint32, depth, kind, compression, filter, interlace byte) []byte {
	b := binary.BigEndian.AppendUint32(nil, w)
	b = binary.BigEndian.AppendUint32(b, h)
	return chunk("IHDR", append(b, depth, kind, compression, filter, interlace))
}

// packed gives bytes in zlib's frame, by the library.
func packed(b []byte) []byte {
	var out bytes.Buffer
	w := zlib.NewWriter(&out)
	w.Write(b)
	w.Close()
	return out.Bytes()
}

// chance is a picture by chance, smooth or not.
func chance(r *rand.Rand, s api.Shape) api.Raster {
	b := make([]byte, pix.Size(s))
	step := r.Intn(5)
	for i := range b {
		b[i] = byte(i*step + r.Intn(1+r.Intn(40)))
	}
	return api.Raster{Shape: s, Pix: b}
}

// shapes are shapes of all kinds.
func shapes(r *rand.Rand, n int) []api.Shape {
	var out []api.Shape
	for i := range n {
		out = append(out, api.Shape{W: 1 + r.Intn(20), H: 1 + r.Intn(20), Chan: 1 + i%4, Depth: 8 * (1 + i/4%2)})
	}
	return append(out, api.Shape{W: 256, H: 16, Chan: 4, Depth: 8}, api.Shape{W: 1, H: 256, Chan: 2, Depth: 16}, api.Shape{W: 128, H: 128, Chan: 1, Depth: 8})
}

// alike tells whether what the library decoded is the picture.
func alike(m image.Image, p api.Raster) bool {
	s := p.Shape
	if m.Bounds().Dx() != s.W || m.Bounds().Dy() != s.H {
		return false
	}
	for y := range s.H {
		for x := range s.W {
			c := color.NRGBA64Model.Convert(m.At(x, y)).(color.NRGBA64)
			if n, ok := m.(*image.NRGBA64); ok {
				c = n.NRGBA64At(x, y)
			}
			var v [4]int
			for i := range s.Chan {
				v[i], _ = pix.At(p, x, y, i)
				if s.Depth == 8 {
					v[i] *= 257
				}
			}
			want := [4]int{v[0], v[1], v[2], 65535}
			switch s.Chan {
			case 1:
				want = [4]int{v[0], v[0], v[0], 65535}
			case 2:
				want = [4]int{v[0], v[0], v[0], v[1]}
			case 4:
				want[3] = v[3]
			}
			got := [4]int{int(c.R), int(c.G), int(c.B), int(c.A)}
			if n, ok := m.(*image.NRGBA); ok {
				c := n.NRGBAAt(x, y)
				got = [4]int{int(c.R) * 257, int(c.G) * 257, int(c.B) * 257, int(c.A) * 257}
			}
			if got != want {
				return false
			}
		}
	}
	return true
}

// P13.2, P13.4, P13.6: files are read by the library and by Decode as the picture.
func TestRound(t *testing.T) {
	r := rand.New(rand.NewSource(21))
	for _, s := range shapes(r, 120) {
		p := chance(r, s)
		before := bytes.Clone(p.Pix)
		for i, f := range []func(api.Raster) ([]byte, api.Errno){png.Encode, png.Lace} {
			b, e := f(p)
			if e != api.OK {
				t.Fatal(e)
			}
			if q, e := png.Decode(b); e != api.OK || !pix.Same(p, q) {
				t.Errorf("%v, interlace %d: %d", s, i, e)
			}
			m, err := std.Decode(bytes.NewReader(b))
			if err != nil || !alike(m, p) {
				t.Errorf("%v, interlace %d: the library: %v", s, i, err)
			}
			if int(b[28]) != i {
				t.Errorf("interlace %d", b[28])
			}
		}
		if !bytes.Equal(before, p.Pix) {
			t.Error("P13.5: changed")
		}
	}
}

// P13.2: a file, byte by byte.
func TestEncode(t *testing.T) {
	r := rand.New(rand.NewSource(22))
	for _, s := range shapes(r, 16) {
		p := chance(r, s)
		var rows, prev []byte
		bpp := s.Chan * s.Depth / 8
		for y := range s.H {
			row := p.Pix[y*s.W*bpp : (y+1)*s.W*bpp]
			k, l, _ := filt.Best(bpp, prev, row)
			rows = append(append(rows, byte(k)), l...)
			prev = row
		}
		z, _ := own.Pack(rows)
		kind := []byte{0, 0, 4, 2, 6}[s.Chan]
		want := file(head(uint32(s.W), uint32(s.H), byte(s.Depth), kind, 0, 0, 0), chunk("IDAT", z), chunk("IEND", nil))
		if b, e := png.Encode(p); e != api.OK || !bytes.Equal(b, want) {
			t.Errorf("%v: %d", s, e)
		}
	}
	for _, f := range []func(api.Raster) ([]byte, api.Errno){png.Encode, png.Lace} {
		if b, e := f(api.Raster{Shape: api.Shape{W: 1, H: 1, Chan: 1, Depth: 8}}); b != nil || e != api.ErrForm {
			t.Errorf("a picture that may not be: %d", e)
		}
	}
}

// P13.3: what the library wrote.
func TestForeign(t *testing.T) {
	r := rand.New(rand.NewSource(23))
	box := image.Rect(0, 0, 13, 9)
	grey, deep, colors, wide := image.NewGray(box), image.NewGray16(box), image.NewNRGBA(box), image.NewNRGBA64(box)
	for _, b := range [][]byte{grey.Pix, deep.Pix, colors.Pix, wide.Pix} {
		r.Read(b)
	}
	for i, m := range []image.Image{grey, deep, colors, wide} {
		var out bytes.Buffer
		std.Encode(&out, m)
		p, e := png.Decode(out.Bytes())
		want := [][]byte{grey.Pix, deep.Pix, colors.Pix, wide.Pix}[i]
		if e != api.OK || !bytes.Equal(p.Pix, want) || p.Shape != (api.Shape{W: 13, H: 9, Chan: []int{1, 1, 4, 4}[i], Depth: []int{8, 16, 8, 16}[i]}) {
			t.Errorf("%d: %v, %d", i, p.Shape, e)
		}
	}
	for i := 3; i < len(colors.Pix); i += 4 {
		colors.Pix[i] = 255
	}
	var out bytes.Buffer
	std.Encode(&out, colors)
	if p, e := png.Decode(out.Bytes()); e != api.OK || p.Shape.Chan != 3 || !alike(colors, p) {
		t.Errorf("colours: %v, %d", p.Shape, e)
	}
}

// P13.1: chunks, and the first fault from the front.
func TestChunks(t *testing.T) {
	l, e := png.Chunks(file(chunk("abCD", []byte{1, 2}), chunk("ZZzz", nil)))
	if e != api.OK || len(l) != 2 || l[0].Type != "abCD" || !bytes.Equal(l[0].Data, []byte{1, 2}) || l[1].Type != "ZZzz" || len(l[1].Data) != 0 {
		t.Errorf("%v, %d", l, e)
	}
	good := chunk("abcd", []byte{1, 2, 3})
	bad := slices.Clone(good)
	bad[len(bad)-1] ^= 1
	long := append([]byte{0x80, 0, 0, 0}, "abcd\x00\x00\x00\x00"...)
	most := append([]byte{0x7F, 255, 255, 255}, "abcd\x00\x00\x00\x00"...)
	cases := []struct {
		b []byte
		e api.Errno
	}{
		{file(), api.OK}, {nil, api.ErrForm}, {[]byte(sign[:7]), api.ErrForm}, {[]byte("\x89PNG\n\r\x1a\n"), api.ErrForm}, {good, api.ErrForm},
		{file(good, bad), api.ErrSum}, {file(bad, good[:5]), api.ErrSum}, {file(good[:5]), api.ErrShort}, {file(good, long), api.ErrForm}, {file(most), api.ErrShort},
		{file(chunk("ab1d", nil)), api.ErrForm}, {file(chunk("@bcd", nil)), api.ErrForm}, {file(chunk("abc[", nil)), api.ErrForm}, {file(chunk("ab`d", nil)), api.ErrForm}, {file(chunk("{bcd", nil)), api.ErrForm},
		{file(chunk("AZaz", nil)), api.OK}, {file(bad, long), api.ErrSum},
	}
	for i := 1; i < len(good); i++ {
		cases = append(cases, struct {
			b []byte
			e api.Errno
		}{file(good, good[:i]), api.ErrShort})
	}
	for i := range good {
		if i >= 5 {
			x := slices.Clone(good)
			x[i] ^= 1
			cases = append(cases, struct {
				b []byte
				e api.Errno
			}{file(x), api.ErrSum})
		}
	}
	for i, c := range cases {
		if l, e := png.Chunks(c.b); e != c.e || e != api.OK && l != nil {
			t.Errorf("case %d: %d, want %d", i, e, c.e)
		}
		if c.e != api.OK {
			if p, e := png.Decode(c.b); e != c.e || p.Pix != nil {
				t.Errorf("Decode, case %d: %d", i, e)
			}
		}
	}
}

// P13.3: chunks in orders that may and may not be.
func TestOrder(t *testing.T) {
	ihdr, iend, idat := head(1, 1, 8, 0, 0, 0, 0), chunk("IEND", nil), chunk("IDAT", packed([]byte{0, 7}))
	colors, cdat := head(1, 1, 8, 2, 0, 0, 0), chunk("IDAT", packed([]byte{0, 7, 8, 9}))
	z := packed([]byte{0, 7})
	first, second := chunk("IDAT", z[:3]), chunk("IDAT", z[3:])
	plte := func(n int) []byte { return chunk("PLTE", make([]byte, n)) }
	text := chunk("tEXt", []byte("x"))
	short := chunk("IHDR", make([]byte, 12))
	cases := []struct {
		name string
		b    []byte
		e    api.Errno
	}{
		{"good", file(ihdr, idat, iend), api.OK},
		{"pieces", file(ihdr, first, chunk("IDAT", nil), second, iend), api.OK},
		{"small letters", file(ihdr, text, idat, text, text, iend), api.OK},
		{"small letter, palette between", file(colors, text, plte(3), text, cdat, text, iend), api.OK},
		{"256 colours", file(colors, plte(768), cdat, iend), api.OK},
		{"nothing", file(), api.ErrForm},
		{"no IHDR", file(idat, iend), api.ErrForm},
		{"IHDR alone", file(ihdr), api.ErrForm},
		{"something ahead of IHDR", file(text, ihdr, idat, iend), api.ErrForm},
		{"IHDR of 12", file(short, idat, iend), api.ErrForm},
		{"IHDR of 14", file(chunk("IHDR", append(slices.Clone(ihdr[8:21]), 0)), idat, iend), api.ErrForm},
		{"IHDR twice", file(ihdr, ihdr, idat, iend), api.ErrForm},
		{"IHDR at the end", file(ihdr, idat, ihdr), api.ErrForm},
		{"no IDAT", file(ihdr, iend), api.ErrForm},
		{"IDATs apart", file(ihdr, first, text, second, iend), api.ErrForm},
		{"no IEND", file(ihdr, idat), api.ErrForm},
		{"IEND twice", file(ihdr, idat, iend, iend), api.ErrForm},
		{"IEND ahead", file(ihdr, iend, idat, iend), api.ErrForm},
		{"something behind IEND", file(ihdr, idat, iend, text), api.ErrForm},
		{"IEND with bytes", file(ihdr, idat, chunk("IEND", []byte{0})), api.ErrForm},
		{"palette behind", file(colors, cdat, plte(3), iend), api.ErrForm},
		{"palette of nothing", file(colors, plte(0), cdat, iend), api.ErrForm},
		{"palette of 4", file(colors, plte(4), cdat, iend), api.ErrForm},
		{"palette of 257", file(colors, plte(771), cdat, iend), api.ErrForm},
		{"palette twice", file(colors, plte(3), plte(3), cdat, iend), api.ErrForm},
		{"palette of grey", file(ihdr, plte(3), idat, iend), api.ErrForm},
		{"palette of grey and alpha", file(head(1, 1, 8, 4, 0, 0, 0), plte(3), chunk("IDAT", packed([]byte{0, 7, 8})), iend), api.ErrForm},
		{"palette of colours and alpha", file(head(1, 1, 8, 6, 0, 0, 0), plte(3), chunk("IDAT", packed([]byte{0, 7, 8, 9, 1})), iend), api.OK},
		{"a great letter", file(ihdr, chunk("ABCD", nil), idat, iend), api.ErrForm},
		{"a great letter Z", file(ihdr, idat, chunk("Zbcd", nil), iend), api.ErrForm},
		{"small a, z", file(ihdr, chunk("aBCD", nil), idat, chunk("zBCD", nil), iend), api.OK},
	}
	for _, c := range cases {
		if p, e := png.Decode(c.b); e != c.e || e != api.OK && (p.Pix != nil || p.Shape != (api.Shape{})) {
			t.Errorf("%s: %d, want %d", c.name, e, c.e)
		}
	}
}

// P13.3: IHDR's numbers.
func TestHead(t *testing.T) {
	iend, idat := chunk("IEND", nil), chunk("IDAT", packed([]byte{0, 7}))
	try := func(h []byte) api.Errno {
		_, e := png.Decode(file(h, idat, iend))
		return e
	}
	for i := range 256 {
		b := byte(i)
		want := func(good bool) api.Errno {
			if good {
				return api.OK
			}
			return api.ErrForm
		}
		if e := try(head(1, 1, 8, 0, b, 0, 0)); e != want(i == 0) {
			t.Errorf("compression %d: %d", i, e)
		}
		if e := try(head(1, 1, 8, 0, 0, b, 0)); e != want(i == 0) {
			t.Errorf("filter %d: %d", i, e)
		}
		if e := try(head(1, 1, 8, 0, 0, 0, b)); e != want(i < 2) {
			t.Errorf("interlace %d: %d", i, e)
		}
		if e := try(head(1, 1, b, 0, 0, 0, 0)); i != 16 && e != want(i == 8) || i == 16 && e != api.ErrShort {
			t.Errorf("depth %d: %d", i, e)
		}
		if e := try(head(1, 1, 8, b, 0, 0, 0)); (i == 2 || i == 4 || i == 6) && e != api.ErrShort || i != 2 && i != 4 && i != 6 && e != want(i == 0) {
			t.Errorf("colour type %d: %d", i, e)
		}
	}
	for _, c := range []struct {
		w, h uint32
		e    api.Errno
	}{{0, 1, api.ErrForm}, {1, 0, api.ErrForm}, {257, 1, api.ErrLarge}, {1, 257, api.ErrLarge}, {256, 256, api.ErrLarge}, {math.MaxUint32, 1, api.ErrLarge}, {1, 1 << 31, api.ErrLarge}, {0, math.MaxUint32, api.ErrForm}} {
		if e := try(head(c.w, c.h, 8, 0, 0, 0, 0)); e != c.e {
			t.Errorf("%d by %d: %d", c.w, c.h, e)
		}
	}
	if e := try(head(257, 1, 8, 0, 1, 0, 0)); e != api.ErrForm {
		t.Errorf("ErrForm goes ahead of ErrLarge: %d", e)
	}
}

// P13.3: what is packed.
func TestData(t *testing.T) {
	iend := chunk("IEND", nil)
	wrong := packed([]byte{0, 7})
	wrong[len(wrong)-1] ^= 1
	cases := []struct {
		name string
		data []byte
		e    api.Errno
	}{
		{"good", packed([]byte{0, 7, 8, 4, 1, 1}), api.OK}, {"kind 5", packed([]byte{0, 7, 8, 5, 1, 1}), api.ErrForm}, {"kind 255 ahead", packed([]byte{255, 7, 8, 0, 1, 1}), api.ErrForm},
		{"too few", packed([]byte{0, 7, 8, 4, 1}), api.ErrShort}, {"too few, and kind 5", packed([]byte{5, 7, 8, 4, 1}), api.ErrShort}, {"too many", packed([]byte{0, 7, 8, 4, 1, 1, 1}), api.ErrLarge},
		{"a byte behind", append(packed([]byte{0, 7, 8, 4, 1, 1}), 0), api.ErrLong}, {"sum", wrong, api.ErrSum}, {"nothing", nil, api.ErrShort}, {"no frame", []byte{1, 2, 3}, api.ErrForm},
	}
	for _, c := range cases {
		p, e := png.Decode(file(head(2, 2, 8, 0, 0, 0, 0), chunk("IDAT", c.data), iend))
		if e != c.e || e != api.OK && (p.Pix != nil || p.Shape != (api.Shape{})) {
			t.Errorf("%s: %d, want %d", c.name, e, c.e)
		}
		if c.e == api.OK && !bytes.Equal(p.Pix, []byte{7, 8, 8, 9}) {
			t.Errorf("%s: %d", c.name, p.Pix)
		}
	}
}

// P13.3, P13.4: the filters begin anew with each pass; passes without pixels have no rows.
func TestPasses(t *testing.T) {
	// 2 by 2: pass 1 has the first pixel, 6 the second, 7 the row below.
	rows := []byte{2, 10, 2, 20, 2, 30, 40}
	b := file(head(2, 2, 8, 0, 0, 0, 1), chunk("IDAT", packed(rows)), chunk("IEND", nil))
	p, e := png.Decode(b)
	if e != api.OK || !bytes.Equal(p.Pix, []byte{10, 20, 30, 40}) {
		t.Errorf("%d, %d", p.Pix, e)
	}
	for w := 1; w <= 20; w++ {
		for h := 1; h <= 20; h++ {
			s := api.Shape{W: w, H: h, Chan: 1, Depth: 8}
			for n, g := range [][4]int{{0, 0, 8, 8}, {4, 0, 8, 8}, {0, 4, 4, 8}, {2, 0, 4, 4}, {0, 2, 2, 4}, {1, 0, 2, 2}, {0, 1, 1, 2}} {
				pw, ph := 0, 0
				for x := g[0]; x < w; x += g[2] {
					pw++
				}
				for y := g[1]; y < h; y += g[3] {
					ph++
				}
				if pw == 0 || ph == 0 {
					pw, ph = 0, 0
				}
				if x, y := png.Pass(s, n+1); x != pw || y != ph {
					t.Errorf("Pass(%v, %d) = %d, %d", s, n+1, x, y)
				}
			}
		}
	}
	good := api.Shape{W: 9, H: 9, Chan: 1, Depth: 8}
	for _, n := range []int{0, 8, -1, math.MaxInt, math.MinInt} {
		if x, y := png.Pass(good, n); x != 0 || y != 0 {
			t.Errorf("Pass %d", n)
		}
	}
	for _, s := range []api.Shape{{}, {W: 257, H: 1, Chan: 1, Depth: 8}, {W: 9, H: 9, Chan: 5, Depth: 8}} {
		if x, y := png.Pass(s, 1); x != 0 || y != 0 {
			t.Errorf("Pass of %v", s)
		}
	}
}

// P13.5: nothing is kept or shared.
func TestMemory(t *testing.T) {
	b := file(chunk("abcd", []byte{1, 2}), chunk("efgh", []byte{3}))
	before := bytes.Clone(b)
	l, _ := png.Chunks(b)
	_ = append(l[0].Data, 9)
	l[0].Data[0] = 9
	if !bytes.Equal(b, before) || l[1].Data[0] != 3 {
		t.Error("shared")
	}
}

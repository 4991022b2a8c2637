package flate_test

import (
	"bytes"
	std "compress/flate"
	"io"
	"math"
	"math/rand"
	"slices"
	"strings"
	"testing"

	"aquatint/api"
	"aquatint/flate"
	"aquatint/huff"
	"aquatint/lz"
)

// stream is a row of bits as signs 0 and 1.
type stream struct{ s []byte }

// put adds n, the least bit first.
func (w *stream) put(n, count int) *stream {
	for i := range count {
		w.s = append(w.s, byte('0'+n>>i&1))
	}
	return w
}

// code adds a code, the greatest bit first.
func (w *stream) code(c huff.Code) *stream {
	for i := c.Len - 1; i >= 0; i-- {
		w.s = append(w.s, byte('0'+c.Bits>>i&1))
	}
	return w
}

// align adds zeros up to a whole byte.
func (w *stream) align() *stream {
	for len(w.s)%8 != 0 {
		w.s = append(w.s, '0')
	}
	return w
}

// bytes packs the bits.
func (w *stream) bytes() []byte {
	out := make([]byte, (len(w.s)+7)/8)
	for i, c := range w.s {
		out[i/8] |= (c - '0') << (i % 8)
	}
	return out
}

// lenTable and distTable are RFC 1951's (its section 3.2.5): the least one and the bits of each symbol.
var (
	lenTable = [][2]int{{3, 0}, {4, 0}, {5, 0}, {6, 0}, {7, 0}, {8, 0}, {9, 0}, {10, 0}, {11, 1}, {13, 1}, {15, 1}, {17, 1}, {19, 2}, {23, 2}, {27, 2}, {31, 2},
		{35, 3}, {43, 3}, {51, 3}, {59, 3}, {67, 4}, {83, 4}, {99, 4}, {115, 4}, {131, 5}, {163, 5}, {195, 5}, {227, 5}, {258, 0}}
	distTable = [][2]int{{1, 0}, {2, 0}, {3, 0}, {4, 0}, {5, 1}, {7, 1}, {9, 2}, {13, 2}, {17, 3}, {25, 3}, {33, 4}, {49, 4}, {65, 5}, {97, 5}, {129, 6}, {193, 6},
		{257, 7}, {385, 7}, {513, 8}, {769, 8}, {1025, 9}, {1537, 9}, {2049, 10}, {3073, 10}, {4097, 11}, {6145, 11}, {8193, 12}, {12289, 12}, {16385, 13}, {24577, 13}}
	rfcOrder = []int{16, 17, 18, 0, 8, 7, 9, 6, 10, 5, 11, 4, 12, 3, 13, 2, 14, 1, 15}
)

// find gives the symbol of n in a table, its bits, and what they are.
func find(table [][2]int, n int) (int, int, int) {
	for i := len(table) - 1; i >= 0; i-- {
		if n >= table[i][0] {
			return i, table[i][1], n - table[i][0]
		}
	}
	return -1, 0, 0
}

// P7.1: the fixed codes.
func TestFixed(t *testing.T) {
	lits, far := flate.Fixed()
	if len(lits) != 288 || len(far) != 32 {
		t.Fatal(len(lits), len(far))
	}
	for i, n := range lits {
		want := 8
		if i >= 144 && i < 256 {
			want = 9
		} else if i >= 256 && i < 280 {
			want = 7
		}
		if n != want {
			t.Errorf("%d: %d", i, n)
		}
	}
	for _, n := range far {
		if n != 5 {
			t.Error("a distance of", n)
		}
	}
	lits[0], far[0] = 1, 1
	if l, f := flate.Fixed(); l[0] != 8 || f[0] != 5 {
		t.Error("P7.4: shared")
	}
}

// P7.1: each length and each distance.
func TestSymbols(t *testing.T) {
	for n := -3; n < 300; n++ {
		s, more, rest := flate.Symbol(n)
		ws, wm, wr := find(lenTable, n)
		ws += 257
		if n < 3 || n > 258 {
			ws, wm, wr = -1, 0, 0
		}
		if s != ws || more != wm || rest != wr {
			t.Errorf("Symbol(%d) = %d, %d, %d", n, s, more, rest)
		}
	}
	for n := -3; n < 32800; n++ {
		s, more, rest := flate.Distance(n)
		ws, wm, wr := find(distTable, n)
		if n > 32768 {
			ws, wm, wr = -1, 0, 0
		}
		if s != ws || more != wm || rest != wr {
			t.Fatalf("Distance(%d) = %d, %d, %d", n, s, more, rest)
		}
	}
	for _, n := range []int{math.MaxInt, math.MinInt} {
		if s, m, r := flate.Symbol(n); s != -1 || m != 0 || r != 0 {
			t.Error(n)
		}
		if s, m, r := flate.Distance(n); s != -1 || m != 0 || r != 0 {
			t.Error(n)
		}
	}
}

// body adds the tokens and the end by codes with these lengths.
func (w *stream) body(tokens []lz.Token, lits, far []int) *stream {
	lc, _ := huff.Codes(lits)
	fc, _ := huff.Codes(far)
	for _, x := range tokens {
		if x.Len == 0 {
			w.code(lc[x.Byte])
			continue
		}
		s, more, rest := find(lenTable, x.Len)
		w.code(lc[257+s]).put(rest, more)
		s, more, rest = find(distTable, x.Dist)
		w.code(fc[s]).put(rest, more)
	}
	return w.code(lc[256])
}

// trim takes zeros off the end, down to the fewest.
func trim(l []int, least int) []int {
	for len(l) > least && l[len(l)-1] == 0 {
		l = l[:len(l)-1]
	}
	return l
}

// ownLengths are those of a dynamic block by the chapter's words.
func ownLengths(tokens []lz.Token) ([]int, []int) {
	lw, fw := make([]int, 286), make([]int, 30)
	lw[256] = 1
	for _, x := range tokens {
		if x.Len == 0 {
			lw[x.Byte]++
			continue
		}
		s, _, _ := find(lenTable, x.Len)
		lw[257+s]++
		s, _, _ = find(distTable, x.Dist)
		fw[s]++
	}
	lits, _ := huff.Lengths(lw, 15)
	far, _ := huff.Lengths(fw, 15)
	if slices.Max(far) == 0 {
		far[0] = 1
	}
	return trim(lits, 257), trim(far, 1)
}

// piece is a symbol of the lists of lengths, with further bits.
type piece struct{ symbol, more, rest int }

// byRuns goes through the lists by the chapter's words.
func byRuns(l []int) []piece {
	var out []piece
	for len(l) > 0 {
		n := 1
		for n < len(l) && l[n] == l[0] {
			n++
		}
		switch {
		case l[0] == 0 && n >= 11:
			n = min(n, 138)
			out = append(out, piece{18, 7, n - 11})
		case l[0] == 0 && n >= 3:
			out = append(out, piece{17, 3, n - 3})
		case l[0] == 0:
			n = 1
			out = append(out, piece{0, 0, 0})
		default:
			out = append(out, piece{l[0], 0, 0})
			for left := n - 1; left > 0; {
				if left < 3 {
					out = append(out, piece{l[0], 0, 0})
					left--
					continue
				}
				m := min(left, 6)
				out = append(out, piece{16, 2, m - 3})
				left -= m
			}
		}
		l = l[n:]
	}
	return out
}

// header adds the lengths of a dynamic block.
func (w *stream) header(lits, far []int) *stream {
	pieces := byRuns(append(slices.Clone(lits), far...))
	weights := make([]int, 19)
	for _, p := range pieces {
		weights[p.symbol]++
	}
	lens, _ := huff.Lengths(weights, 7)
	var told []int
	for _, s := range rfcOrder {
		told = append(told, lens[s])
	}
	told = trim(told, 4)
	w.put(len(lits)-257, 5).put(len(far)-1, 5).put(len(told)-4, 4)
	for _, n := range told {
		w.put(n, 3)
	}
	c, _ := huff.Codes(lens)
	for _, p := range pieces {
		w.code(c[p.symbol]).put(p.rest, p.more)
	}
	return w
}

// byWords gives the three kinds of block.
func byWords(b []byte) [3]*stream {
	tokens, _ := lz.Find(b)
	plain := (&stream{}).put(1, 3).align().put(len(b), 16).put(^len(b)&0xFFFF, 16)
	for _, x := range b {
		plain.put(int(x), 8)
	}
	fl, ff := flate.Fixed()
	ol, of := ownLengths(tokens)
	return [3]*stream{plain, (&stream{}).put(1, 1).put(1, 2).body(tokens, fl, ff), (&stream{}).put(1, 1).put(2, 2).header(ol, of).body(tokens, ol, of)}
}

// samples are lists of bytes of many kinds.
func samples() [][]byte {
	r := rand.New(rand.NewSource(10))
	out := [][]byte{nil, {0}, {255}, []byte("aaaa"), []byte("hello hello hello"), make([]byte, 40000), bytes.Repeat([]byte("abcdefghij"), 400)}
	for i := range 120 {
		b := make([]byte, r.Intn(20)*r.Intn(100))
		for j := range b {
			switch i % 6 {
			case 0:
				b[j] = byte(r.Intn(256))
			case 1:
				b[j] = byte(r.Intn(1 + i/2))
			case 2:
				b[j] = byte(j * j >> 6)
			case 3:
				b[j] = byte(r.ExpFloat64() * 8)
			case 4:
				b[j] = byte('a' + r.Intn(4)*r.Intn(4))
			default:
				b[j] = byte(200 + r.Intn(50))
			}
		}
		out = append(out, b)
	}
	big := make([]byte, 40000)
	r.Read(big)
	copy(big[39000:], big[100:1100])
	return append(out, big, skewed(20, 32, 40000), skewed(21, 10, 40000))
}

// skewed are bytes of which the small ones stand far more often.
func skewed(seed int64, base float64, n int) []byte {
	r := rand.New(rand.NewSource(seed))
	b := make([]byte, n)
	for i := range b {
		b[i] = byte(min(r.ExpFloat64()*base, 255))
	}
	return b
}

// P7.2: codes of all lengths up to 15, and codes of lengths that would be longer than 7 bits.
func TestLongCodes(t *testing.T) {
	met := map[int]int{}
	for seed := range int64(500) {
		b := skewed(seed, 8+float64(seed%40), 6000)
		if seed < 12 {
			b = skewed(seed, 10+3*float64(seed), 40000)
		}
		tokens, _ := lz.Find(b)
		lits, far := ownLengths(tokens)
		weights := make([]int, 19)
		for _, p := range byRuns(append(slices.Clone(lits), far...)) {
			weights[p.symbol]++
		}
		seven, _ := huff.Lengths(weights, 7)
		free, _ := huff.Lengths(weights, 15)
		cut := !slices.Equal(seven, free)
		if cut {
			met[16]++
		}
		for _, n := range lits {
			met[n]++
		}
		if seed >= 12 && !cut {
			continue
		}
		d, e := flate.Deflate(b)
		if want := byWords(b)[2].bytes(); e != api.OK || !bytes.Equal(d, want) {
			t.Errorf("seed %d: %d", seed, e)
		}
		if x, err := io.ReadAll(std.NewReader(bytes.NewReader(d))); err != nil || !bytes.Equal(x, b) {
			t.Errorf("seed %d: %v", seed, err)
		}
		if x, _, e := flate.Inflate(d, len(b)); e != api.OK || !bytes.Equal(x, b) {
			t.Errorf("seed %d: %d", seed, e)
		}
	}
	for n := 2; n <= 16; n++ {
		if met[n] == 0 {
			t.Errorf("%d is never met", n)
		}
	}
}

// P7.2: the block with the fewest bits, bit by bit.
func TestDeflate(t *testing.T) {
	var chosen [3]int
	for i, b := range samples() {
		kind := 0
		kinds := byWords(b)
		for k, w := range kinds {
			if len(w.s) < len(kinds[kind].s) {
				kind = k
			}
		}
		chosen[kind]++
		d, e := flate.Deflate(b)
		if e != api.OK || !bytes.Equal(d, kinds[kind].bytes()) {
			t.Errorf("sample %d: %d bytes, kind %d, %d: % x", i, len(b), kind, e, d[:min(20, len(d))])
		}
		x, err := io.ReadAll(std.NewReader(bytes.NewReader(d)))
		if err != nil || !bytes.Equal(x, b) {
			t.Errorf("sample %d: %v", i, err)
		}
	}
	if slices.Min(chosen[:]) == 0 {
		t.Errorf("a kind is never met: %d", chosen)
	}
	if d, e := flate.Deflate(make([]byte, 40001)); d != nil || e != api.ErrLarge {
		t.Error("40001 bytes")
	}
	if d, _ := flate.Deflate(nil); !bytes.Equal(d, []byte{3, 0}) {
		t.Errorf("nothing: % x", d)
	}
}

// P7.2: of as few bits stored goes ahead of fixed.
func TestTie(t *testing.T) {
	met := false
	r := rand.New(rand.NewSource(11))
	for range 20000 {
		b := make([]byte, 20+r.Intn(30))
		for i := range b {
			b[i] = byte(r.Intn(256))
		}
		k := byWords(b)
		if len(k[0].s) == len(k[1].s) {
			met = true
			if d, _ := flate.Deflate(b); !bytes.Equal(d, k[0].bytes()) {
				t.Errorf("% x", b)
			}
		}
	}
	if !met {
		t.Error("no tie was met")
	}
}

// P7.5: what was deflated is inflated, all of it is used; what lies behind is not.
func TestRound(t *testing.T) {
	for i, b := range samples() {
		d, _ := flate.Deflate(b)
		x, used, e := flate.Inflate(d, len(b))
		if e != api.OK || used != len(d) || !bytes.Equal(x, b) {
			t.Errorf("sample %d: %d of %d, %d", i, used, len(d), e)
		}
		x, used, e = flate.Inflate(append(slices.Clone(d), 1, 2, 3), 40000)
		if e != api.OK || used != len(d) || !bytes.Equal(x, b) {
			t.Errorf("sample %d with more behind: %d, %d", i, used, e)
		}
		if len(b) > 0 {
			if x, n, e := flate.Inflate(d, len(b)-1); x != nil || n != 0 || e != api.ErrLarge {
				t.Errorf("sample %d in too little: %d, %d", i, n, e)
			}
		}
		for _, n := range []int{0, 1, len(d) / 2, len(d) - 1} {
			if x, used, e := flate.Inflate(d[:n], len(b)); x != nil || used != 0 || e != api.ErrShort {
				t.Errorf("sample %d cut at %d: %d", i, n, e)
			}
		}
	}
}

// P7.3: what another one wrote, in many blocks.
func TestForeign(t *testing.T) {
	for i, b := range samples() {
		for _, level := range []int{std.HuffmanOnly, std.NoCompression, 1, 5, 9} {
			var out bytes.Buffer
			w, _ := std.NewWriter(&out, level)
			w.Write(b[:len(b)/3])
			w.Flush()
			w.Write(b[len(b)/3:])
			w.Close()
			if x, used, e := flate.Inflate(out.Bytes(), len(b)); e != api.OK || used != out.Len() || !bytes.Equal(x, b) {
				t.Errorf("sample %d, level %d: %d", i, level, e)
			}
		}
	}
}

// own is a dynamic block with these lengths, told as they are, and a body of bits.
func own(lits, far []int, body func(w *stream)) []byte {
	w := (&stream{}).put(1, 1).put(2, 2).header(lits, far)
	if body != nil {
		body(w)
	}
	return w.bytes()
}

// lens gives a list of so many lengths, with these among them.
func lens(count int, at map[int]int) []int {
	l := make([]int, count)
	for i, n := range at {
		l[i] = n
	}
	return l
}

// lengthsOnly is a block up to its code lengths, of 19, and runs of them.
func lengthsOnly(lits, far int, codeLens map[int]int, pieces ...piece) []byte {
	w := (&stream{}).put(1, 1).put(2, 2).put(lits-257, 5).put(far-1, 5).put(15, 4)
	l := lens(19, codeLens)
	for _, s := range rfcOrder {
		w.put(l[s], 3)
	}
	c, _ := huff.Codes(l)
	for _, p := range pieces {
		w.code(c[p.symbol]).put(p.rest, p.more)
	}
	return w.put(0, 200).bytes()
}

// P7.3: blocks that may not be.
func TestInflateWrong(t *testing.T) {
	zeros := func(w *stream) { w.put(0, 64) }
	ones := func(w *stream) { w.put(-1, 60) }
	end, two := map[int]int{256: 1}, map[int]int{'a': 1, 256: 1}
	withLen := map[int]int{'a': 2, 256: 2, 257: 1}
	fl, ff := flate.Fixed()
	lc, _ := huff.Codes(fl)
	fc, _ := huff.Codes(ff)
	fixed := func() *stream { return (&stream{}).put(1, 1).put(1, 2) }
	two01 := map[int]int{0: 1, 1: 1}
	cases := []struct {
		name string
		b    []byte
		e    api.Errno
	}{
		{"nothing", nil, api.ErrShort},
		{"kind 3", []byte{7}, api.ErrForm},
		{"stored, its lengths unlike", []byte{1, 1, 0, 255, 255, 'A'}, api.ErrForm},
		{"stored, cut in its length", []byte{1, 1, 0, 254}, api.ErrShort},
		{"stored, cut in its bytes", []byte{1, 2, 0, 253, 255, 'A'}, api.ErrShort},
		{"287 symbols", lengthsOnly(287, 1, two01), api.ErrForm},
		{"288 symbols", lengthsOnly(288, 1, two01), api.ErrForm},
		{"31 distances", lengthsOnly(257, 31, two01), api.ErrForm},
		{"32 distances", lengthsOnly(257, 32, two01), api.ErrForm},
		{"16 at the front", lengthsOnly(257, 1, map[int]int{16: 1, 1: 1}, piece{16, 2, 0}), api.ErrForm},
		{"a run beyond the end", lengthsOnly(257, 1, map[int]int{18: 1, 1: 1}, piece{18, 7, 127}, piece{18, 7, 127}), api.ErrForm},
		{"no code lengths", lengthsOnly(257, 1, nil), api.ErrForm},
		{"one code length", lengthsOnly(257, 1, map[int]int{1: 1}), api.ErrForm},
		{"too few code lengths", lengthsOnly(257, 1, map[int]int{0: 2, 1: 2, 2: 2}), api.ErrForm},
		{"too many code lengths", lengthsOnly(257, 1, map[int]int{0: 1, 1: 1, 2: 1}), api.ErrForm},
		{"the end alone", own(lens(257, end), []int{0}, zeros), api.ErrForm},
		{"no end", own(lens(257, map[int]int{1: 1, 2: 1}), []int{0}, zeros), api.ErrForm},
		{"too few symbols", own(lens(257, map[int]int{1: 2, 256: 2, 3: 2}), []int{0}, ones), api.ErrForm},
		{"too few symbols, the end at once", own(lens(257, map[int]int{254: 2, 255: 2, 256: 2}), []int{0}, func(w *stream) { w.put(1, 2) }), api.ErrForm},
		{"too many symbols", own(lens(257, map[int]int{1: 1, 2: 1, 256: 1}), []int{0}, zeros), api.ErrForm},
		{"one distance of 2 bits", own(lens(257, two), []int{2}, ones), api.ErrForm},
		{"two distances of 2 bits", own(lens(257, two), []int{2, 2}, ones), api.ErrForm},
		{"three distances of 1 bit", own(lens(257, two), []int{1, 1, 1}, ones), api.ErrForm},
		{"no distance where one is needed", own(lens(258, withLen), []int{0}, func(w *stream) { w.put(1, 2).put(0, 9) }), api.ErrRange},
		{"a distance that is none", own(lens(258, withLen), []int{1}, func(w *stream) { w.put(1, 2).put(0, 1).put(-1, 30) }), api.ErrForm},
		{"symbol 286", fixed().code(lc[286]).put(0, 20).bytes(), api.ErrForm},
		{"symbol 287", fixed().code(lc[287]).put(0, 20).bytes(), api.ErrForm},
		{"distance 30", fixed().code(lc['a']).code(lc[257]).code(fc[30]).put(0, 20).bytes(), api.ErrForm},
		{"distance 31", fixed().code(lc['a']).code(lc[257]).code(fc[31]).put(0, 20).bytes(), api.ErrForm},
		{"a copy of nothing", fixed().code(lc[257]).code(fc[0]).code(lc[256]).bytes(), api.ErrRange},
		{"a copy from ahead", fixed().code(lc['a']).code(lc[257]).code(fc[1]).code(lc[256]).bytes(), api.ErrRange},
		{"no end behind a block that is not the last", []byte{0, 0, 0, 255, 255}, api.ErrShort},
	}
	for _, c := range cases {
		if x, n, e := flate.Inflate(c.b, 40000); x != nil || n != 0 || e != c.e {
			t.Errorf("%s: %q, %d, %d; want %d", c.name, x, n, e, c.e)
		}
	}
}

// P7.3: blocks that are at the edge of what may be.
func TestInflateEdges(t *testing.T) {
	two := map[int]int{'a': 1, 256: 1}
	withLen := map[int]int{'a': 2, 256: 2, 257: 1}
	fl, ff := flate.Fixed()
	lc, _ := huff.Codes(fl)
	fc, _ := huff.Codes(ff)
	cases := []struct {
		name string
		b    []byte
		want string
	}{
		{"stored", []byte{1, 1, 0, 254, 255, 'A'}, "A"},
		{"stored, odd bits ahead", []byte{0xF9, 1, 0, 254, 255, 'A'}, "A"},
		{"no distances", own(lens(257, two), []int{0}, func(w *stream) { w.put(0, 2).put(1, 1) }), "aa"},
		{"no distances, of 30", own(lens(257, two), make([]int, 30), func(w *stream) { w.put(0, 2).put(1, 1) }), "aa"},
		{"one distance", own(lens(258, withLen), []int{1}, func(w *stream) { w.put(1, 2).put(0, 1).put(0, 1).put(3, 2) }), "aaaa"},
		{"one distance, the second", own(lens(258, withLen), []int{0, 1}, func(w *stream) { w.put(1, 2).put(1, 2).put(0, 1).put(0, 1).put(3, 2) }), "aaaaa"},
		{"286 symbols", own(lens(286, map[int]int{'a': 2, 256: 2, 285: 1}), []int{1}, func(w *stream) { w.put(1, 2).put(0, 1).put(0, 1).put(3, 2) }), strings.Repeat("a", 259)},
		{"258 by another symbol", (&stream{}).put(1, 1).put(1, 2).code(lc['a']).code(lc[284]).put(31, 5).code(fc[0]).code(lc[256]).bytes(), strings.Repeat("a", 259)},
		{"a copy over what it makes", (&stream{}).put(1, 1).put(1, 2).code(lc['a']).code(lc['b']).code(lc[259]).code(fc[1]).code(lc[256]).bytes(), "abababa"},
		{"two blocks", []byte{0, 1, 0, 254, 255, 'A', 1, 1, 0, 254, 255, 'B'}, "AB"},
	}
	for _, c := range cases {
		if x, n, e := flate.Inflate(c.b, len(c.want)); string(x) != c.want || n != len(c.b) || e != api.OK {
			t.Errorf("%s: %q, %d, %d", c.name, x, n, e)
		}
		if x, n, e := flate.Inflate(c.b, len(c.want)-1); x != nil || n != 0 || e != api.ErrLarge {
			t.Errorf("%s, in too little: %q, %d, %d", c.name, x, n, e)
		}
	}
	for _, most := range []int{-1, 40001, math.MaxInt, math.MinInt} {
		if x, n, e := flate.Inflate(nil, most); x != nil || n != 0 || e != api.ErrRange {
			t.Errorf("most %d: %d", most, e)
		}
	}
	if x, n, e := flate.Inflate([]byte{3, 0}, 0); len(x) != 0 || n != 2 || e != api.OK {
		t.Error("nothing, of none")
	}
	if x, n, e := flate.Inflate([]byte{1, 1, 0, 254, 255, 65}, 40000); string(x) != "A" || n != 6 || e != api.OK {
		t.Error("the chapter's example")
	}
}

// P7.3: bytes by chance, and good ones with bits turned, never panic, and answer nothing beside an error.
func TestChance(t *testing.T) {
	r := rand.New(rand.NewSource(12))
	good := samples()
	for range 20000 {
		b := make([]byte, r.Intn(40))
		r.Read(b)
		if r.Intn(2) == 0 {
			b, _ = flate.Deflate(good[r.Intn(len(good))][:])
			b = b[:min(len(b), 400)]
			b[r.Intn(len(b))] ^= 1 << r.Intn(8)
		}
		x, n, e := flate.Inflate(b, 3000)
		if e != api.OK && (x != nil || n != 0) || n > len(b) || len(x) > 3000 {
			t.Fatalf("% x: %d, %d", b, n, e)
		}
	}
}

// P7.4: what is handed in is neither changed nor kept.
func TestMemory(t *testing.T) {
	b := []byte("abcabcabcabc")
	d, _ := flate.Deflate(b)
	x, _, _ := flate.Inflate(d, 100)
	if string(b) != "abcabcabcabc" {
		t.Error("changed")
	}
	x[0] = 'z'
	if y, _, _ := flate.Inflate(d, 100); string(y) != "abcabcabcabc" {
		t.Error("shared")
	}
}

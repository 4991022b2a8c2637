package zlib_test

import (
	"bytes"
	std "compress/zlib"
	"io"
	"math"
	"math/rand"
	"slices"
	"testing"

	"aquatint/api"
	"aquatint/flate"
	"aquatint/num"
	"aquatint/zlib"
)

// frame puts bytes of DEFLATE between a head and a sum.
func frame(head0, head1 byte, deflated []byte, sum uint32) []byte {
	return slices.Concat([]byte{head0, head1}, deflated, []byte{byte(sum >> 24), byte(sum >> 16), byte(sum >> 8), byte(sum)})
}

// P8.1: the frame, byte by byte.
func TestPack(t *testing.T) {
	if p, e := zlib.Pack(nil); e != api.OK || !bytes.Equal(p, []byte{0x78, 0x9C, 3, 0, 0, 0, 0, 1}) {
		t.Errorf("% x, %d", p, e)
	}
	for _, s := range []string{"a", "Wikipedia", "hello hello hello hello"} {
		d, _ := flate.Deflate([]byte(s))
		if p, e := zlib.Pack([]byte(s)); e != api.OK || !bytes.Equal(p, frame(0x78, 0x9C, d, num.Adler([]byte(s)))) {
			t.Errorf("%q: % x, %d", s, p, e)
		}
	}
	if p, e := zlib.Pack(make([]byte, 40001)); p != nil || e != api.ErrLarge {
		t.Error("40001 bytes")
	}
}

// P8.1: heads: each pair of bytes.
func TestHeads(t *testing.T) {
	d, _ := flate.Deflate([]byte("x"))
	sum := num.Adler([]byte("x"))
	for i := range 65536 {
		good := i>>8&15 == 8 && i>>12 <= 7 && i%31 == 0 && i&32 == 0
		x, n, e := zlib.Unpack(frame(byte(i>>8), byte(i), d, sum), 1)
		if good && (string(x) != "x" || n != 6+len(d) || e != api.OK) || !good && (x != nil || n != 0 || e != api.ErrForm) {
			t.Fatalf("%04x: %q, %d, %d", i, x, n, e)
		}
	}
}

// P8.1: faults, and what lies behind.
func TestUnpack(t *testing.T) {
	p, _ := zlib.Pack([]byte("hello hello hello"))
	for n := range p {
		x, used, e := zlib.Unpack(p[:n], 100)
		if x != nil || used != 0 || e != api.ErrShort {
			t.Errorf("cut at %d: %d", n, e)
		}
		if x, e := zlib.Whole(p[:n], 100); x != nil || e != api.ErrShort {
			t.Errorf("Whole, cut at %d: %d", n, e)
		}
	}
	longer := append(slices.Clone(p), 0)
	if x, n, e := zlib.Unpack(longer, 17); string(x) != "hello hello hello" || n != len(p) || e != api.OK {
		t.Errorf("%q, %d, %d", x, n, e)
	}
	if x, e := zlib.Whole(longer, 17); x != nil || e != api.ErrLong {
		t.Errorf("a byte behind: %d", e)
	}
	if x, e := zlib.Whole(p, 17); string(x) != "hello hello hello" || e != api.OK {
		t.Errorf("%q, %d", x, e)
	}
	if x, n, e := zlib.Unpack(p, 16); x != nil || n != 0 || e != api.ErrLarge {
		t.Errorf("too little room: %d", e)
	}
	for i := len(p) - 4; i < len(p); i++ {
		wrong := slices.Clone(p)
		wrong[i] ^= 1
		if x, n, e := zlib.Unpack(wrong, 100); x != nil || n != 0 || e != api.ErrSum {
			t.Errorf("sum, byte %d: %d", i, e)
		}
		if x, e := zlib.Whole(append(wrong, 0), 100); x != nil || e != api.ErrSum {
			t.Errorf("ErrSum goes ahead of ErrLong: %d", e)
		}
	}
	for _, most := range []int{-1, 40001, math.MinInt, math.MaxInt} {
		if _, _, e := zlib.Unpack(p, most); e != api.ErrRange {
			t.Errorf("most %d: %d", most, e)
		}
		if _, _, e := zlib.Unpack([]byte{1, 1}, most); e != api.ErrForm {
			t.Errorf("most %d: %d", most, e)
		}
		if _, _, e := zlib.Unpack(nil, most); e != api.ErrShort {
			t.Errorf("most %d: %d", most, e)
		}
	}
	if _, _, e := zlib.Unpack([]byte{0x78, 0x9C, 7}, 9); e != api.ErrForm {
		t.Errorf("a block that is none: %d", e)
	}
}

// P8.3: held against the library's, both ways.
func TestRound(t *testing.T) {
	r := rand.New(rand.NewSource(13))
	for i := range 100 {
		b := make([]byte, r.Intn(2000))
		for j := range b {
			b[j] = byte(r.Intn(1 + i))
		}
		p, _ := zlib.Pack(b)
		if x, e := zlib.Whole(p, len(b)); e != api.OK || !bytes.Equal(x, b) {
			t.Errorf("%d: %d", i, e)
		}
		in, err := std.NewReader(bytes.NewReader(p))
		if err != nil {
			t.Fatal(err)
		}
		if x, err := io.ReadAll(in); err != nil || !bytes.Equal(x, b) {
			t.Errorf("%d: %v", i, err)
		}
		var out bytes.Buffer
		w := std.NewWriter(&out)
		w.Write(b)
		w.Close()
		if x, e := zlib.Whole(out.Bytes(), 40000); e != api.OK || !bytes.Equal(x, b) {
			t.Errorf("%d: %d", i, e)
		}
	}
}

// P8.2: nothing is changed or shared.
func TestMemory(t *testing.T) {
	b := []byte("aaaaaaaa")
	p, _ := zlib.Pack(b)
	q := slices.Clone(p)
	x, _ := zlib.Whole(p, 8)
	x[0] = 'z'
	if y, _ := zlib.Whole(p, 8); string(y) != "aaaaaaaa" || string(b) != "aaaaaaaa" || !bytes.Equal(p, q) {
		t.Error("changed")
	}
}

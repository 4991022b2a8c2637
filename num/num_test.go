package num_test

import (
	"bytes"
	"encoding/hex"
	"hash/adler32"
	"hash/crc32"
	"math"
	"math/rand"
	"testing"

	"aquatint/api"
	"aquatint/num"
)

// reversed is b the other way round.
func reversed(b []byte) []byte {
	out := make([]byte, len(b))
	for i, x := range b {
		out[len(b)-1-i] = x
	}
	return out
}

// P1.1: the bytes, in both orders, at the edges of each width.
func TestWrite(t *testing.T) {
	cases := []struct {
		n, width int
		want     []byte
	}{
		{258, 3, []byte{0, 1, 2}},
		{0, 1, []byte{0}},
		{0, 6, []byte{0, 0, 0, 0, 0, 0}},
		{255, 1, []byte{255}},
		{65535, 2, []byte{255, 255}},
		{1<<24 - 1, 3, []byte{255, 255, 255}},
		{0x01020304, 4, []byte{1, 2, 3, 4}},
		{0x0102030405, 5, []byte{1, 2, 3, 4, 5}},
		{0x010203040506, 6, []byte{1, 2, 3, 4, 5, 6}},
		{1<<48 - 1, 6, []byte{255, 255, 255, 255, 255, 255}},
	}
	for _, c := range cases {
		if b, e := num.Big(c.n, c.width); e != api.OK || !bytes.Equal(b, c.want) {
			t.Errorf("Big(%d, %d) = % x, %d", c.n, c.width, b, e)
		}
		if b, e := num.Little(c.n, c.width); e != api.OK || !bytes.Equal(b, reversed(c.want)) {
			t.Errorf("Little(%d, %d) = % x, %d", c.n, c.width, b, e)
		}
	}
}

// P1.1: numbers and widths that may not be.
func TestWriteWrong(t *testing.T) {
	for _, c := range [][2]int{
		{0, 0}, {0, 7}, {0, -1}, {1, math.MaxInt}, {1, math.MinInt},
		{-1, 1}, {-1, 6}, {math.MinInt, 6}, {math.MaxInt, 6},
		{256, 1}, {65536, 2}, {1 << 24, 3}, {1 << 32, 4}, {1 << 40, 5}, {1 << 48, 6},
	} {
		if b, e := num.Big(c[0], c[1]); e != api.ErrRange || len(b) != 0 {
			t.Errorf("Big(%d, %d) = % x, %d", c[0], c[1], b, e)
		}
		if b, e := num.Little(c[0], c[1]); e != api.ErrRange || len(b) != 0 {
			t.Errorf("Little(%d, %d) = % x, %d", c[0], c[1], b, e)
		}
	}
}

// P1.1: reading, and where it may not be read.
func TestRead(t *testing.T) {
	b := []byte{1, 2, 3, 4, 5, 6, 7}
	cases := []struct {
		at, width, big, little int
		e                      api.Errno
	}{
		{0, 1, 1, 1, api.OK},
		{6, 1, 7, 7, api.OK},
		{1, 2, 0x0203, 0x0302, api.OK},
		{1, 6, 0x020304050607, 0x070605040302, api.OK},
		{2, 6, 0, 0, api.ErrShort},
		{7, 1, 0, 0, api.ErrShort},
		{8, 1, 0, 0, api.ErrRange},
		{-1, 1, 0, 0, api.ErrRange},
		{0, 0, 0, 0, api.ErrRange},
		{0, 7, 0, 0, api.ErrRange},
		{7, 7, 0, 0, api.ErrRange},
		{math.MaxInt, 6, 0, 0, api.ErrRange},
		{math.MinInt, 6, 0, 0, api.ErrRange},
		{0, math.MinInt, 0, 0, api.ErrRange},
	}
	for _, c := range cases {
		if n, e := num.ReadBig(b, c.at, c.width); n != c.big || e != c.e {
			t.Errorf("ReadBig(%d, %d) = %x, %d", c.at, c.width, n, e)
		}
		if n, e := num.ReadLittle(b, c.at, c.width); n != c.little || e != c.e {
			t.Errorf("ReadLittle(%d, %d) = %x, %d", c.at, c.width, n, e)
		}
	}
	if _, e := num.ReadBig(nil, 0, 1); e != api.ErrShort {
		t.Errorf("ReadBig of nothing: %d", e)
	}
}

// P1.2: both sums, held against the library's.
func TestSums(t *testing.T) {
	if num.Crc(nil) != 0 || num.Adler(nil) != 1 {
		t.Error("the sums of nothing")
	}
	if num.Crc([]byte("123456789")) != 0xCBF43926 || num.Adler([]byte("Wikipedia")) != 0x11E60398 {
		t.Error("the sums of the examples")
	}
	r := rand.New(rand.NewSource(1))
	for _, n := range []int{1, 2, 3, 15, 16, 255, 256, 5552, 5553, 40000} {
		b := make([]byte, n)
		r.Read(b)
		if num.Crc(b) != crc32.ChecksumIEEE(b) || num.Adler(b) != adler32.Checksum(b) {
			t.Errorf("the sums of %d bytes", n)
		}
		for i := range b {
			b[i] = 255
		}
		if num.Crc(b) != crc32.ChecksumIEEE(b) || num.Adler(b) != adler32.Checksum(b) {
			t.Errorf("the sums of %d bytes 255", n)
		}
	}
}

// P1.3: digits, both ways, each byte and each sign.
func TestHex(t *testing.T) {
	all := make([]byte, 256)
	for i := range all {
		all[i] = byte(i)
	}
	if num.Hex(all) != hex.EncodeToString(all) || num.Hex(nil) != "" {
		t.Error("Hex")
	}
	if b, ok := num.Unhex(num.Hex(all)); !ok || !bytes.Equal(b, all) {
		t.Error("Unhex of Hex")
	}
	if b, ok := num.Unhex(""); !ok || len(b) != 0 {
		t.Error("Unhex of nothing")
	}
	for i := range 256 {
		c := string([]byte{byte(i)})
		good := i >= '0' && i <= '9' || i >= 'a' && i <= 'f'
		for _, s := range []string{"0" + c, c + "0", "ab" + c + "1"} {
			if b, ok := num.Unhex(s); ok != good || !ok && b != nil {
				t.Errorf("Unhex(%q) = % x, %v", s, b, ok)
			}
		}
	}
	for _, s := range []string{"0", "00f", "0x", "é", "00 "} {
		if b, ok := num.Unhex(s); ok || b != nil {
			t.Errorf("Unhex(%q) = % x, %v", s, b, ok)
		}
	}
}

// P1.4: what is handed in stays as it is; answers share nothing.
func TestMemory(t *testing.T) {
	b := []byte{1, 2, 3, 4}
	num.ReadBig(b, 0, 4)
	num.ReadLittle(b, 0, 4)
	num.Crc(b)
	num.Adler(b)
	num.Hex(b[:2])
	if !bytes.Equal(b, []byte{1, 2, 3, 4}) {
		t.Errorf("changed: % x", b)
	}
	x, _ := num.Big(7, 2)
	x[0], x[1] = 9, 9
	if y, _ := num.Big(7, 2); !bytes.Equal(y, []byte{0, 7}) {
		t.Errorf("shared: % x", y)
	}
	u, _ := num.Unhex("0102")
	u[0] = 9
	if v, _ := num.Unhex("0102"); !bytes.Equal(v, []byte{1, 2}) {
		t.Errorf("shared: % x", v)
	}
}

// P1.5: what is written is read, in its order.
func TestRound(t *testing.T) {
	r := rand.New(rand.NewSource(2))
	for range 2000 {
		width := 1 + r.Intn(6)
		n := int(r.Int63() & (1<<(8*width) - 1))
		b, _ := num.Big(n, width)
		l, _ := num.Little(n, width)
		if x, e := num.ReadBig(append([]byte{7}, b...), 1, width); x != n || e != api.OK {
			t.Fatalf("big %d in %d: %d", n, width, x)
		}
		if x, e := num.ReadLittle(append([]byte{7}, l...), 1, width); x != n || e != api.OK {
			t.Fatalf("little %d in %d: %d", n, width, x)
		}
	}
}

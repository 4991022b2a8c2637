package bits_test

import (
	"bytes"
	"math"
	"math/rand"
	"testing"

	"aquatint/api"
	"aquatint/bits"
)

// plain holds the bits of a writer one by one.
type plain []int

// bytes packs them as RFC 1951 does.
func (p plain) bytes() []byte {
	out := make([]byte, (len(p)+7)/8)
	for i, x := range p {
		out[i/8] |= byte(x << (i % 8))
	}
	return out
}

// P4.1: the examples, and single calls.
func TestWriter(t *testing.T) {
	w := bits.NewWriter()
	if w.Bits() != 0 || len(w.Bytes()) != 0 {
		t.Error("a new one has bits")
	}
	w.Put(1, 1)
	w.Put(2, 2)
	if !bytes.Equal(w.Bytes(), []byte{5}) || w.Bits() != 3 {
		t.Errorf("% x, %d", w.Bytes(), w.Bits())
	}
	w = bits.NewWriter()
	w.Code(6, 3)
	if !bytes.Equal(w.Bytes(), []byte{3}) {
		t.Errorf("% x", w.Bytes())
	}
	w.Align()
	if w.Bits() != 8 {
		t.Error("Align")
	}
	w.Align()
	w.Put(0x123456, 24)
	if w.Bits() != 32 || !bytes.Equal(w.Bytes(), []byte{3, 0x56, 0x34, 0x12}) {
		t.Errorf("% x", w.Bytes())
	}
	if w.Put(0, 0) != api.OK || w.Code(0, 0) != api.OK || w.Bits() != 32 {
		t.Error("no bits at all")
	}
}

// P4.1: what may not be put adds nothing.
func TestWriterWrong(t *testing.T) {
	w := bits.NewWriter()
	w.Put(1, 1)
	cases := []struct {
		n     uint32
		count int
	}{{0, -1}, {0, 25}, {0, 32}, {1, 0}, {2, 1}, {1 << 24, 24}, {math.MaxUint32, 24}, {8, 3}, {0, math.MaxInt}, {0, math.MinInt}}
	for _, c := range cases {
		if w.Put(c.n, c.count) != api.ErrRange || w.Code(c.n, c.count) != api.ErrRange {
			t.Errorf("%d in %d", c.n, c.count)
		}
	}
	if w.Bits() != 1 || !bytes.Equal(w.Bytes(), []byte{1}) {
		t.Error("something was added")
	}
	if w.Put(1<<24-1, 24) != api.OK || w.Code(1<<24-1, 24) != api.OK {
		t.Error("24 bits")
	}
}

// P4.1, P4.2, P4.4: what is put is got, held against bits one by one.
func TestRound(t *testing.T) {
	r := rand.New(rand.NewSource(5))
	for range 500 {
		w := bits.NewWriter()
		var p plain
		type piece struct {
			n     uint32
			count int
			code  bool
		}
		var pieces []piece
		for range r.Intn(40) {
			x := piece{0, r.Intn(25), r.Intn(2) == 0}
			x.n = r.Uint32() & (1<<x.count - 1)
			pieces = append(pieces, x)
			for i := range x.count {
				at := i
				if x.code {
					at = x.count - 1 - i
				}
				p = append(p, int(x.n>>at&1))
			}
			if x.code {
				w.Code(x.n, x.count)
			} else {
				w.Put(x.n, x.count)
			}
		}
		if w.Bits() != len(p) || !bytes.Equal(w.Bytes(), p.bytes()) {
			t.Fatalf("% x, want % x", w.Bytes(), p.bytes())
		}
		in := bits.NewReader(w.Bytes())
		at := 0
		for _, x := range pieces {
			if x.code {
				for i := range x.count {
					if n, e := in.Get(1); e != api.OK || n != x.n>>(x.count-1-i)&1 {
						t.Fatal("a code")
					}
				}
			} else if n, e := in.Get(x.count); e != api.OK || n != x.n {
				t.Fatalf("%x in %d: %x", x.n, x.count, n)
			}
			at += x.count
			if in.At() != at || in.Left() != 8*len(w.Bytes())-at {
				t.Fatal("At, Left")
			}
		}
	}
}

// P4.2: the edges of reading.
func TestReader(t *testing.T) {
	r := bits.NewReader([]byte{0xA5, 0xFF, 0x01})
	if r.At() != 0 || r.Left() != 24 {
		t.Error("a new one")
	}
	for _, n := range []int{-1, 25, math.MinInt, math.MaxInt} {
		if x, e := r.Get(n); x != 0 || e != api.ErrRange {
			t.Errorf("Get(%d) = %d, %d", n, x, e)
		}
	}
	r.Align()
	if r.At() != 0 {
		t.Error("Align at a whole byte")
	}
	if x, e := r.Get(3); x != 5 || e != api.OK {
		t.Error("three bits")
	}
	if x, e := r.Get(22); x != 0 || e != api.ErrShort || r.At() != 3 || r.Left() != 21 {
		t.Error("too many bits")
	}
	if x, e := r.Get(21); x != 0x1FFA5>>3 || e != api.OK || r.Left() != 0 {
		t.Errorf("the rest: %x", x)
	}
	if x, e := r.Get(1); x != 0 || e != api.ErrShort {
		t.Error("behind the end")
	}
	if x, e := r.Get(0); x != 0 || e != api.OK {
		t.Error("no bits at the end")
	}
	if _, e := r.Get(25); e != api.ErrRange {
		t.Error("ErrRange goes ahead")
	}
	r.Align()
	if r.At() != 24 {
		t.Error("Align at the end")
	}
	r = bits.NewReader([]byte{0, 2})
	r.Get(1)
	r.Align()
	if x, _ := r.Get(8); x != 2 || r.At() != 16 {
		t.Error("Align within a byte")
	}
	if e := bits.NewReader(nil); e.Left() != 0 {
		t.Error("a reader of nothing")
	}
}

// P4.3: lists are neither kept nor shared.
func TestMemory(t *testing.T) {
	b := []byte{1, 2}
	r := bits.NewReader(b)
	b[0] = 9
	if x, _ := r.Get(8); x != 1 {
		t.Error("a reader keeps the list")
	}
	w := bits.NewWriter()
	w.Put(1, 4)
	a := w.Bytes()
	_ = append(a, 7)
	a[0] = 0
	w.Put(1, 12)
	if !bytes.Equal(w.Bytes(), []byte{0x11, 0}) {
		t.Errorf("% x", w.Bytes())
	}
}

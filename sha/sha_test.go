package sha_test

import (
	"bytes"
	"crypto/sha256"
	"encoding/hex"
	"math/rand"
	"strings"
	"testing"

	"aquatint/sha"
)

// P3.1: the examples of FIPS 180-4, and of the chapter.
func TestKnown(t *testing.T) {
	cases := map[string]string{
		"":    "e3b0c44298fc1c149afbf4c8996fb92427ae41e4649b934ca495991b7852b855",
		"abc": "ba7816bf8f01cfea414140de5dae2223b00361a396177a9cb410ff61f20015ad",
		"abcdbcdecdefdefgefghfghighijhijkijkljklmklmnlmnomnopnopq": "248d6a61d20638b8e5c026930c3e6039a33ce45964ff2167f6ecedd419db06c1",
	}
	for s, want := range cases {
		if k := sha.Key([]byte(s)); k != want {
			t.Errorf("Key(%q) = %s", s, k)
		}
		if hex.EncodeToString(sha.Sum([]byte(s))) != want {
			t.Errorf("Sum(%q)", s)
		}
	}
}

// P3.1: each length about the edges of blocks, held against the library's.
func TestLengths(t *testing.T) {
	r := rand.New(rand.NewSource(4))
	for n := 0; n < 300; n++ {
		b := make([]byte, n)
		r.Read(b)
		want := sha256.Sum256(b)
		if !bytes.Equal(sha.Sum(b), want[:]) {
			t.Errorf("Sum of %d bytes", n)
		}
	}
	b := make([]byte, 100000)
	r.Read(b)
	if want := sha256.Sum256(b); !bytes.Equal(sha.Sum(b), want[:]) {
		t.Error("Sum of many bytes")
	}
}

// P3.1: which texts are keys.
func TestValid(t *testing.T) {
	key := sha.Key([]byte("x"))
	cases := map[string]bool{
		key: true, strings.Repeat("0", 64): true, strings.Repeat("f", 64): true,
		"": false, key[:63]: false, key[:62]: false, key + "0": false, key + "00": false,
		strings.Repeat("F", 64): false, strings.Repeat("g", 64): false, key[:63] + " ": false, strings.Repeat("é", 32): false,
	}
	for s, want := range cases {
		if sha.Valid(s) != want {
			t.Errorf("Valid(%q) = %v", s, !want)
		}
	}
}

// P3.2, P3.3: nothing is changed or shared; bytes alike have one key, others others.
func TestMemory(t *testing.T) {
	b := append(make([]byte, 0, 200), bytes.Repeat([]byte{7}, 60)...)
	behind := b[:200]
	first := sha.Sum(b)
	for i, x := range behind {
		if i < 60 && x != 7 || i >= 60 && x != 0 {
			t.Fatalf("changed at %d", i)
		}
	}
	first[0]++
	if bytes.Equal(first, sha.Sum(b)) {
		t.Error("shared")
	}
	if sha.Key(b) != sha.Key(bytes.Clone(b)) || sha.Key(b) == sha.Key(b[:59]) {
		t.Error("keys")
	}
}

package flate

import (
	"aquatint/api"
	"aquatint/bits"
	"aquatint/huff"
	"aquatint/lz"
)

const (
	maxBits     = 15 // of a code of signs or distances
	maxKindBits = 7  // of a code of lengths
)

// run is one symbol of the lists of lengths, with its further bits.
type run struct {
	symbol, more, bits int
}

// Deflate writes b as one block, of the three kinds the one with the fewest bits.
func Deflate(b []byte) ([]byte, api.Errno) {
	tokens, e := lz.Find(b)
	if e != api.OK {
		return nil, e
	}
	best := writeStored(b)
	for _, w := range []*bits.Writer{writeFixed(tokens), writeDynamic(tokens)} {
		if w.Bits() < best.Bits() {
			best = w
		}
	}
	return best.Bytes(), api.OK
}

// begin writes the three bits of the last block.
func begin(kind uint32) *bits.Writer {
	w := bits.NewWriter()
	w.Put(1, 1)
	w.Put(kind, 2)
	return w
}

// writeStored writes the bytes as they are.
func writeStored(b []byte) *bits.Writer {
	w := begin(stored)
	w.Align()
	w.Put(uint32(len(b)), 16)
	w.Put(uint32(len(b))^0xFFFF, 16)
	for _, x := range b {
		w.Put(uint32(x), 8)
	}
	return w
}

// writeFixed writes the tokens by the fixed codes.
func writeFixed(tokens []lz.Token) *bits.Writer {
	w := begin(fixed)
	lits, far := Fixed()
	writeTokens(w, tokens, codes{codesOf(lits), codesOf(far)})
	return w
}

// writeDynamic writes the tokens by codes of their own, which stand ahead of them.
func writeDynamic(tokens []lz.Token) *bits.Writer {
	w := begin(dynamic)
	lits, far := lengths(tokens)
	writeLengths(w, lits, far)
	writeTokens(w, tokens, codes{codesOf(lits), codesOf(far)})
	return w
}

// writeTokens writes the tokens and the end.
func writeTokens(w *bits.Writer, tokens []lz.Token, c codes) {
	for _, t := range tokens {
		if t.Len == 0 {
			writeCode(w, c.lits[t.Byte])
			continue
		}
		symbol, more, rest := Symbol(t.Len)
		writeCode(w, c.lits[symbol])
		w.Put(uint32(rest), more)
		symbol, more, rest = Distance(t.Dist)
		writeCode(w, c.dists[symbol])
		w.Put(uint32(rest), more)
	}
	writeCode(w, c.lits[end])
}

// writeCode writes one code.
func writeCode(w *bits.Writer, c huff.Code) {
	w.Code(c.Bits, c.Len)
}

// lengths gives the lengths of a block's own codes, no longer than they need to be told.
func lengths(tokens []lz.Token) ([]int, []int) {
	lits, far := make([]int, signs), make([]int, dists)
	lits[end] = 1
	for _, t := range tokens {
		if t.Len == 0 {
			lits[t.Byte]++
			continue
		}
		symbol, _, _ := Symbol(t.Len)
		lits[symbol]++
		symbol, _, _ = Distance(t.Dist)
		far[symbol]++
	}
	litLens, _ := huff.Lengths(lits, maxBits)
	farLens, _ := huff.Lengths(far, maxBits)
	farLens = farLens[:needed(farLens, 0)]
	if len(farLens) == 0 {
		farLens = []int{1}
	}
	return litLens[:needed(litLens, firstLen)], farLens
}

// needed tells how many of the lengths reach up to the last one that is not 0, least at the fewest.
func needed(lens []int, least int) int {
	n := len(lens)
	for n > least && lens[n-1] == 0 {
		n--
	}
	return n
}

// writeLengths writes how long the codes of a block are.
func writeLengths(w *bits.Writer, lits, far []int) {
	both := make([]int, 0, len(lits)+len(far))
	both = append(both, lits...)
	both = append(both, far...)
	l := runs(both)
	weights := make([]int, kinds)
	for _, r := range l {
		weights[r.symbol]++
	}
	lens, _ := huff.Lengths(weights, maxKindBits)
	inOrder := make([]int, kinds)
	for i, symbol := range order {
		inOrder[i] = lens[symbol]
	}
	told := inOrder[:needed(inOrder, 4)]
	w.Put(uint32(len(lits)-firstLen), 5)
	w.Put(uint32(len(far)-1), 5)
	w.Put(uint32(len(told)-4), 4)
	for _, n := range told {
		w.Put(uint32(n), 3)
	}
	c := codesOf(lens)
	for _, r := range l {
		writeCode(w, c[r.symbol])
		w.Put(uint32(r.bits), r.more)
	}
}

// runs tells a list of lengths by runs of those that are alike.
func runs(lens []int) []run {
	var out []run
	for at := 0; at < len(lens); {
		n := 1
		for at+n < len(lens) && lens[at+n] == lens[at] {
			n++
		}
		if lens[at] == 0 {
			out = zeroRun(out, n)
		} else {
			out = sameRun(out, lens[at], n)
		}
		at += n
	}
	return out
}

// zeroRun tells left zeros.
func zeroRun(out []run, left int) []run {
	for left >= 11 {
		n := min(left, 138)
		out = append(out, run{manyZeros, 7, n - 11})
		left -= n
	}
	if left >= 3 {
		return append(out, run{zeros, 3, left - 3})
	}
	for range left {
		out = append(out, run{})
	}
	return out
}

// sameRun tells one length, left times.
func sameRun(out []run, length, left int) []run {
	out = append(out, run{symbol: length})
	left--
	for left >= 3 {
		n := min(left, 6)
		out = append(out, run{again, 2, n - 3})
		left -= n
	}
	for range left {
		out = append(out, run{symbol: length})
	}
	return out
}

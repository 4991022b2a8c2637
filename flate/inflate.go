package flate

import (
	"aquatint/api"
	"aquatint/bits"
	"aquatint/huff"
)

// inflater is what is read, and what came out.
type inflater struct {
	in   *bits.Reader
	out  []byte
	most int
}

// decoders are those of a block; far is nil where it has no distances.
type decoders struct {
	lits, far *huff.Decoder
}

// Inflate gives the bytes that b tells, at most so many, and how many bytes of b were used.
func Inflate(b []byte, most int) ([]byte, int, api.Errno) {
	if most < 0 || most > api.MaxFlate {
		return nil, 0, api.ErrRange
	}
	f := &inflater{in: bits.NewReader(b), most: most}
	for {
		last, e := f.in.Get(1)
		if e != api.OK {
			return nil, 0, e
		}
		if e := f.block(); e != api.OK {
			return nil, 0, e
		}
		if last == 1 {
			return f.out, (f.in.At() + 7) / 8, api.OK
		}
	}
}

// block reads one block behind its first bit.
func (f *inflater) block() api.Errno {
	kind, e := f.in.Get(2)
	if e != api.OK {
		return e
	}
	switch kind {
	case stored:
		return f.stored()
	case fixed:
		lits, far := Fixed()
		return f.coded(lits, far)
	case dynamic:
		lits, far, e := f.lengths()
		if e != api.OK {
			return e
		}
		return f.coded(lits, far)
	}
	return api.ErrForm
}

// stored reads bytes as they are.
func (f *inflater) stored() api.Errno {
	f.in.Align()
	n, e := f.in.Get(16)
	if e != api.OK {
		return e
	}
	turned, e := f.in.Get(16)
	if e != api.OK {
		return e
	}
	if n^turned != 0xFFFF {
		return api.ErrForm
	}
	for range n {
		x, e := f.in.Get(8)
		if e != api.OK {
			return e
		}
		if e := f.add(byte(x)); e != api.OK {
			return e
		}
	}
	return api.OK
}

// add lets one byte come out.
func (f *inflater) add(x byte) api.Errno {
	if len(f.out) == f.most {
		return api.ErrLarge
	}
	f.out = append(f.out, x)
	return api.OK
}

// coded reads the symbols of a block with these lengths of codes, up to the end.
func (f *inflater) coded(litLens, farLens []int) api.Errno {
	d, e := newDecoders(litLens, farLens)
	if e != api.OK {
		return e
	}
	for {
		symbol, e := d.lits.Next(f.in)
		switch {
		case e != api.OK:
			return e
		case symbol < end:
			e = f.add(byte(symbol))
		case symbol == end:
			return api.OK
		case symbol > lastLen:
			e = api.ErrForm
		default:
			e = f.copy(symbol, d.far)
		}
		if e != api.OK {
			return e
		}
	}
}

// newDecoders gives the decoders of a block. Of distances, and of nothing else, there may be none, or one alone.
func newDecoders(litLens, farLens []int) (decoders, api.Errno) {
	if litLens[end] == 0 {
		return decoders{}, api.ErrForm
	}
	lits, e := complete(litLens)
	if e != api.OK {
		return decoders{}, e
	}
	sum, count := 0, 0
	for _, n := range farLens {
		sum += n
		if n > 0 {
			count++
		}
	}
	switch {
	case count == 0:
		return decoders{lits: lits}, api.OK
	case count == 1 && sum == 1:
		far, e := huff.New(farLens)
		return decoders{lits, far}, e
	}
	far, e := complete(farLens)
	return decoders{lits, far}, e
}

// complete gives a decoder of codes that leave nothing over.
func complete(lens []int) (*huff.Decoder, api.Errno) {
	sum, e := huff.Kraft(lens)
	if e != api.OK {
		return nil, e
	}
	if sum != full {
		return nil, api.ErrForm
	}
	return huff.New(lens)
}

// copy reads what stands behind the symbol of a length, and lets the bytes come out once more.
func (f *inflater) copy(symbol int, far *huff.Decoder) api.Errno {
	length, more := symbolLength(symbol)
	rest, e := f.in.Get(more)
	if e != api.OK {
		return e
	}
	length += int(rest)
	if far == nil {
		return api.ErrRange
	}
	symbol, e = far.Next(f.in)
	if e != api.OK {
		return e
	}
	if symbol >= dists {
		return api.ErrForm
	}
	dist, more := symbolDistance(symbol)
	rest, e = f.in.Get(more)
	if e != api.OK {
		return e
	}
	dist += int(rest)
	if dist > len(f.out) {
		return api.ErrRange
	}
	for range length {
		if e := f.add(f.out[len(f.out)-dist]); e != api.OK {
			return e
		}
	}
	return api.OK
}

// lengths reads how long a block's own codes are.
func (f *inflater) lengths() ([]int, []int, api.Errno) {
	var counts [3]int
	for i, width := range [3]int{5, 5, 4} {
		n, e := f.in.Get(width)
		if e != api.OK {
			return nil, nil, e
		}
		counts[i] = int(n)
	}
	lits, far, told := counts[0]+firstLen, counts[1]+1, counts[2]+4
	if lits > signs || far > dists {
		return nil, nil, api.ErrForm
	}
	lens := make([]int, kinds)
	for i := range told {
		n, e := f.in.Get(3)
		if e != api.OK {
			return nil, nil, e
		}
		lens[order[i]] = int(n)
	}
	d, e := complete(lens)
	if e != api.OK {
		return nil, nil, e
	}
	both, e := f.runs(d, lits+far)
	if e != api.OK {
		return nil, nil, e
	}
	return both[:lits], both[lits:], api.OK
}

// runs reads so many lengths that are told by runs.
func (f *inflater) runs(d *huff.Decoder, count int) ([]int, api.Errno) {
	var lens []int
	for len(lens) < count {
		symbol, e := d.Next(f.in)
		if e != api.OK {
			return nil, e
		}
		length, least, more := symbol, 1, 0
		switch symbol {
		case again:
			if len(lens) == 0 {
				return nil, api.ErrForm
			}
			length, least, more = lens[len(lens)-1], 3, 2
		case zeros:
			length, least, more = 0, 3, 3
		case manyZeros:
			length, least, more = 0, 11, 7
		}
		rest, e := f.in.Get(more)
		if e != api.OK {
			return nil, e
		}
		n := least + int(rest)
		if len(lens)+n > count {
			return nil, api.ErrForm
		}
		for range n {
			lens = append(lens, length)
		}
	}
	return lens, api.OK
}

package png

import (
	"bytes"
	"slices"

	"aquatint/api"
	"aquatint/num"
)

const (
	signature = "\x89PNG\r\n\x1a\n"
	maxLength = 1<<31 - 1
	headLen   = 13
	maxColors = 768
)

// Chunk is one piece of a file.
type Chunk struct {
	Type string
	Data []byte
}

// Chunks gives the chunks of a file, to its end.
func Chunks(b []byte) ([]Chunk, api.Errno) {
	if !bytes.HasPrefix(b, []byte(signature)) {
		return nil, api.ErrForm
	}
	var out []Chunk
	for at := len(signature); at < len(b); {
		c, next, e := readChunk(b, at)
		if e != api.OK {
			return nil, e
		}
		out = append(out, c)
		at = next
	}
	return out, api.OK
}

// readChunk reads the chunk that begins at a byte of b: it, and where the next one begins.
func readChunk(b []byte, at int) (Chunk, int, api.Errno) {
	length, e := num.ReadBig(b, at, 4)
	switch {
	case e != api.OK:
		return Chunk{}, 0, e
	case length > maxLength:
		return Chunk{}, 0, api.ErrForm
	}
	at += 4
	if len(b)-at < 4 {
		return Chunk{}, 0, api.ErrShort
	}
	if !letters(b[at : at+4]) {
		return Chunk{}, 0, api.ErrForm
	}
	end := at + 4 + length
	if len(b) < end+4 {
		return Chunk{}, 0, api.ErrShort
	}
	sum, e := num.ReadBig(b, end, 4)
	if e != api.OK {
		return Chunk{}, 0, e
	}
	if sum != int(num.Crc(b[at:end])) {
		return Chunk{}, 0, api.ErrSum
	}
	return Chunk{string(b[at : at+4]), bytes.Clone(b[at+4 : end])}, end + 4, api.OK
}

// letters tells whether all bytes are letters.
func letters(b []byte) bool {
	for _, x := range b {
		if !(x >= 'a' && x <= 'z' || x >= 'A' && x <= 'Z') {
			return false
		}
	}
	return true
}

// writeChunk adds a chunk to a file.
func writeChunk(out []byte, kind string, data []byte) ([]byte, api.Errno) {
	length, e := num.Big(len(data), 4)
	if e != api.OK {
		return nil, e
	}
	body := slices.Concat([]byte(kind), data)
	sum, e := num.Big(int(num.Crc(body)), 4)
	if e != api.OK {
		return nil, e
	}
	return slices.Concat(out, length, body, sum), api.OK
}

// inOrder tells whether the chunks stand as they must.
func inOrder(l []Chunk) bool {
	last := len(l) - 1
	if last < 0 || l[0].Type != "IHDR" || len(l[0].Data) != headLen || l[last].Type != "IEND" || len(l[last].Data) != 0 {
		return false
	}
	colored := l[0].Data[9] != 0 && l[0].Data[9] != 4
	palettes, pieces := 0, 0
	for i, c := range l[1:last] {
		switch c.Type {
		case "IHDR", "IEND":
			return false
		case "PLTE":
			palettes++
			if pieces > 0 || palettes > 1 || !colored || !palette(c.Data) {
				return false
			}
		case "IDAT":
			pieces++
			// l[i] is the chunk ahead of c.
			if pieces > 1 && l[i].Type != "IDAT" {
				return false
			}
		default:
			if c.Type[0] <= 'Z' {
				return false
			}
		}
	}
	return pieces > 0
}

// palette tells whether b may be colours of a palette.
func palette(b []byte) bool {
	return len(b) > 0 && len(b)%3 == 0 && len(b) <= maxColors
}

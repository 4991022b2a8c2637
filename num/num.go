// Package num: numbers as bytes, sums (chapter 1).
package num

import "aquatint/api"

const (
	maxWidth = 6
	adlerMod = 65521
	digits   = "0123456789abcdef"
)

// crcSteps has the CRC of each half byte: a table of whole bytes would be sixteen times as large.
var crcSteps = [16]uint32{
	0x00000000, 0x1DB71064, 0x3B6E20C8, 0x26D930AC, 0x76DC4190, 0x6B6B51F4, 0x4DB26158, 0x5005713C,
	0xEDB88320, 0xF00F9344, 0xD6D6A3E8, 0xCB61B38C, 0x9B64C2B0, 0x86D3D2D4, 0xA00AE278, 0xBDBDF21C,
}

// Big gives n in width bytes, the greatest first.
func Big(n, width int) ([]byte, api.Errno) {
	if !fits(n, width) {
		return nil, api.ErrRange
	}
	b := make([]byte, width)
	for i := range b {
		b[width-1-i] = byte(n >> (8 * i))
	}
	return b, api.OK
}

// Little gives n in width bytes, the least first.
func Little(n, width int) ([]byte, api.Errno) {
	if !fits(n, width) {
		return nil, api.ErrRange
	}
	b := make([]byte, width)
	for i := range b {
		b[i] = byte(n >> (8 * i))
	}
	return b, api.OK
}

// fits tells whether n can be written in width bytes.
func fits(n, width int) bool {
	return width >= 1 && width <= maxWidth && n >= 0 && n>>(8*width) == 0
}

// ReadBig reads width bytes of b from at on, the greatest first.
func ReadBig(b []byte, at, width int) (int, api.Errno) {
	if e := readable(b, at, width); e != api.OK {
		return 0, e
	}
	n := 0
	for i := range width {
		n = n<<8 | int(b[at+i])
	}
	return n, api.OK
}

// ReadLittle reads width bytes of b from at on, the least first.
func ReadLittle(b []byte, at, width int) (int, api.Errno) {
	if e := readable(b, at, width); e != api.OK {
		return 0, e
	}
	n := 0
	for i := range width {
		n |= int(b[at+i]) << (8 * i)
	}
	return n, api.OK
}

// readable tells whether width bytes stand in b from at on.
func readable(b []byte, at, width int) api.Errno {
	if width < 1 || width > maxWidth || at < 0 || at > len(b) {
		return api.ErrRange
	}
	if len(b)-at < width {
		return api.ErrShort
	}
	return api.OK
}

// Crc is the CRC-32 of IEEE.
func Crc(b []byte) uint32 {
	c := ^uint32(0)
	for _, x := range b {
		c ^= uint32(x)
		c = c>>4 ^ crcSteps[c&15]
		c = c>>4 ^ crcSteps[c&15]
	}
	return ^c
}

// Adler is the check sum of RFC 1950.
func Adler(b []byte) uint32 {
	first, second := uint32(1), uint32(0)
	for _, x := range b {
		first = (first + uint32(x)) % adlerMod
		second = (second + first) % adlerMod
	}
	return second<<16 | first
}

// Hex writes two digits a byte.
func Hex(b []byte) string {
	out := make([]byte, 0, 2*len(b))
	for _, x := range b {
		out = append(out, digits[x>>4], digits[x&15])
	}
	return string(out)
}

// Unhex gives the bytes whose Hex s is.
func Unhex(s string) ([]byte, bool) {
	if len(s)%2 != 0 {
		return nil, false
	}
	out := make([]byte, 0, len(s)/2)
	for i := 0; i < len(s); i += 2 {
		high, low := digit(s[i]), digit(s[i+1])
		if high < 0 || low < 0 {
			return nil, false
		}
		out = append(out, byte(high<<4|low))
	}
	return out, true
}

// digit is what a digit of Hex stands for, or -1.
func digit(c byte) int {
	switch {
	case c >= '0' && c <= '9':
		return int(c - '0')
	case c >= 'a' && c <= 'f':
		return int(c-'a') + 10
	}
	return -1
}

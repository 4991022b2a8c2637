package fsys

import (
	"aquatint/api"
	"aquatint/num"
)

// tableBytes gives the bytes of a table with these files.
func tableBytes(files map[string]file) []byte {
	out := []byte{byte(len(files) >> 8), byte(len(files))}
	for _, name := range names(files) {
		x := files[name]
		out = append(out, byte(len(name)))
		out = append(out, name...)
		out = append(out, byte(x.size>>24), byte(x.size>>16), byte(x.size>>8), byte(x.size))
		for _, k := range x.blocks {
			out = append(out, byte(k>>8), byte(k))
		}
	}
	return out
}

// readTable gives the files of a table, if b is one of a disk with so many blocks.
func readTable(b []byte, count int) (map[string]file, bool) {
	n, e := num.ReadBig(b, 0, 2)
	if e != api.OK || n > api.MaxFiles {
		return nil, false
	}
	files := map[string]file{}
	taken := make([]bool, count)
	at, last := 2, ""
	for range n {
		name, x, next, ok := readEntry(b, at)
		// The empty name is none, so that it can stand ahead of the first one.
		if !ok || name <= last || !take(taken, x.blocks) {
			return nil, false
		}
		files[name] = x
		at, last = next, name
	}
	return files, zero(b[at:])
}

// take marks the blocks of a file, if all are there and not taken yet.
func take(taken []bool, blocks []int) bool {
	for _, k := range blocks {
		if k >= len(taken) || taken[k] {
			return false
		}
		taken[k] = true
	}
	return true
}

// readEntry reads one file of a table: its name, it, and where the next one begins.
func readEntry(b []byte, at int) (string, file, int, bool) {
	length, e := num.ReadBig(b, at, 1)
	at++
	if e != api.OK || len(b)-at < length || !Name(string(b[at:at+length])) {
		return "", file{}, 0, false
	}
	name := string(b[at : at+length])
	at += length
	size, e := num.ReadBig(b, at, 4)
	at += 4
	if e != api.OK || size > maxSize {
		return "", file{}, 0, false
	}
	x := file{size: size}
	for range blocksFor(size) {
		k, e := num.ReadBig(b, at, 2)
		if e != api.OK {
			return "", file{}, 0, false
		}
		x.blocks = append(x.blocks, k)
		at += 2
	}
	return name, x, at, true
}

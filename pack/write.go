package pack

import (
	"bytes"
	"maps"
	"slices"

	"aquatint/api"
	"aquatint/diff"
	"aquatint/num"
	"aquatint/obj"
	"aquatint/sha"
	"aquatint/zlib"
)

const maxBases = 4 // that are tried

// member is an object on its way into a pack.
type member struct {
	raster api.Raster
	isTile bool
	depth  int
}

// Write gives a pack of the objects, tiles told by tiles, none deeper than depth.
func Write(objs [][]byte, depth int) ([]byte, api.Errno) {
	if depth < 0 || depth > api.MaxDepth {
		return nil, api.ErrRange
	}
	byKey, e := gather(objs)
	if e != api.OK {
		return nil, e
	}
	keys := slices.Sorted(maps.Keys(byKey))
	out := append([]byte(sign), byte(len(keys)>>8), byte(len(keys)))
	members := make([]member, 0, len(keys))
	var index []byte
	for _, key := range keys {
		m := member{}
		m.raster, m.isTile = obj.AsTile(byKey[key])
		b, base, e := pickEntry(members, m, byKey[key], depth)
		if e != api.OK {
			return nil, e
		}
		if base >= 0 {
			m.depth = members[base].depth + 1
		}
		members = append(members, m)
		index, e = indexed(index, key, len(out), b)
		if e != api.OK {
			return nil, e
		}
		out = append(out, b...)
	}
	out = slices.Concat(out, fan(keys), index)
	sum, e := num.Big(int(num.Crc(out)), sumLen)
	if e != api.OK {
		return nil, e
	}
	return append(out, sum...), api.OK
}

// gather gives the objects by their keys.
func gather(objs [][]byte) (map[string][]byte, api.Errno) {
	for _, b := range objs {
		if _, e := obj.Kind(b); e != api.OK {
			return nil, e
		}
	}
	byKey := map[string][]byte{}
	for _, b := range objs {
		key := sha.Key(b)
		if old, ok := byKey[key]; ok && !bytes.Equal(old, b) {
			return nil, api.ErrTwin
		}
		byKey[key] = b
	}
	if len(byKey) > api.MaxFiles {
		return nil, api.ErrLarge
	}
	return byKey, api.OK
}

// pickEntry gives the entry of an object behind the members, and the place of its base, -1 where it is whole.
func pickEntry(members []member, m member, b []byte, depth int) ([]byte, int, api.Errno) {
	best, e := zlib.Pack(b)
	if e != api.OK {
		return nil, 0, e
	}
	kind, base := whole, -1
	tried := 0
	for i := len(members) - 1; i >= 0 && m.isTile && tried < maxBases; i-- {
		x := members[i]
		if !x.isTile || x.raster.Shape != m.raster.Shape || x.depth >= depth {
			continue
		}
		tried++
		k, d, e := diff.Best(x.raster, m.raster)
		if e != api.OK {
			return nil, 0, e
		}
		if len(d) < len(best) {
			best, kind, base = d, k, i
		}
	}
	out := []byte{byte(kind)}
	if base >= 0 {
		back := len(members) - base
		out = append(out, byte(back>>8), byte(back))
	}
	length, e := num.Big(len(best), 4)
	if e != api.OK {
		return nil, 0, e
	}
	return slices.Concat(out, length, best), base, api.OK
}

// indexed adds to the index what it tells of an entry.
func indexed(index []byte, key string, at int, b []byte) ([]byte, api.Errno) {
	id, _ := num.Unhex(key)
	place, e := num.Big(at, 4)
	if e != api.OK {
		return nil, e
	}
	sum, e := num.Big(int(num.Crc(b)), 4)
	if e != api.OK {
		return nil, e
	}
	return slices.Concat(index, id, place, sum), api.OK
}

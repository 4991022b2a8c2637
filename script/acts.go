package script

import (
	"strconv"

	"aquatint/api"
	"aquatint/world"
)

const (
	actBytes = 4
	mostActs = 300
)

// Pic gives a picture by a rule.
func Pic(x, y, z int) api.Raster {
	x, y, z = max(0, x), max(0, y), max(0, z)
	s := api.Shape{W: 1 + x%12, H: 1 + y%10, Chan: 1 + z%4, Depth: 8}
	if z%16 > 11 {
		s.Depth = 16
	}
	b := make([]byte, s.W*s.H*s.Chan*s.Depth/8)
	for i := range b {
		// A byte's numbers wrap round just as they must.
		b[i] = byte(x)*byte(i) + byte(y)*byte(i/7) + byte(z)
	}
	return api.Raster{Shape: s, Pix: b}
}

// Acts gives an act for each four bytes.
func Acts(b []byte) []world.Act {
	n := min(len(b)/actBytes, mostActs)
	out := make([]world.Act, 0, n)
	for i := range n {
		c := b[i*actBytes : (i+1)*actBytes]
		out = append(out, act(int(c[0])%16, int(c[1]), int(c[2]), int(c[3])))
	}
	return out
}

// act gives the act of four numbers.
func act(k, x, y, z int) world.Act {
	switch {
	case k <= 5:
		return world.Act{Kind: world.Commit, Name: branch(x), Other: "u", Pic: Pic(3+y%2, 7, z)}
	case k == 6:
		return world.Act{Kind: world.Branch, Name: "b", Key: x % 8}
	case k == 7:
		return world.Act{Kind: world.Tag, Name: "t" + strconv.Itoa(y%4), Key: x % 8}
	case k == 8 && y%2 == 1:
		return world.Act{Kind: world.Delete, Name: "t0", N: 1}
	case k == 8:
		return world.Act{Kind: world.Delete, Name: "b"}
	case k <= 10:
		a := world.Act{Kind: world.Merge, Name: branch(x), Other: branch(x + 1)}
		if y > 99 {
			a.Pic = Pic(3, 7, z)
		}
		return a
	case k == 14 && z > 199:
		return world.Act{Kind: world.Fall, Mask: []byte{byte(y)}}
	case k == 14:
		return world.Act{Kind: world.Plan, N: 1 + x%40, Mask: []byte{byte(y), byte(z)}}
	case k == 15:
		return world.Act{Kind: world.Open}
	}
	return look(k, x, y, z%2 == 1)
}

// look gives the acts that do one thing or another.
func look(k, x, y int, odd bool) world.Act {
	switch {
	case k == 11 && odd:
		return world.Act{Kind: world.Diff, N: x % 8, M: y % 8}
	case k == 11:
		return world.Act{Kind: world.Log, Name: "a"}
	case k == 12 && odd:
		return world.Act{Kind: world.Repack, N: x % 6}
	case k == 12:
		return world.Act{Kind: world.Checkout, Key: x % 8}
	case odd:
		return world.Act{Kind: world.Fsck}
	}
	return world.Act{Kind: world.Collect}
}

// branch is b of an odd number, else a.
func branch(x int) string {
	if x%2 == 1 {
		return "b"
	}
	return "a"
}

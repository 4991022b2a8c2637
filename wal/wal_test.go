package wal_test

import (
	"bytes"
	"math"
	"math/rand"
	"slices"
	"testing"

	"aquatint/api"
	"aquatint/disk"
	"aquatint/wal"
)

// sector is one filled with x.
func sector(x byte) []byte { return bytes.Repeat([]byte{x}, api.Sector) }

// padded is a sector that begins with these bytes.
func padded(b ...byte) []byte { return append(slices.Clone(b), make([]byte, api.Sector-len(b))...) }

// fresh is a formatted disk with its log.
func fresh(t *testing.T, n, ring int) (*disk.Disk, *wal.Log) {
	t.Helper()
	d, _ := disk.New(n)
	if e := wal.Format(d, ring); e != api.OK {
		t.Fatal(e)
	}
	l, redone, e := wal.Open(d)
	if e != api.OK || redone {
		t.Fatal(e, redone)
	}
	return d, l
}

// holds tells whether a sector has these bytes.
func holds(d *disk.Disk, k int, want []byte) bool {
	b, e := d.Read(k)
	return e == api.OK && bytes.Equal(b, want)
}

// P15.1: what Format writes, and the rings that may be.
func TestFormat(t *testing.T) {
	d, _ := disk.New(300)
	d.Write(1, sector(9))
	d.Write(5, sector(5))
	if e := wal.Format(d, 290); e != api.OK || d.Pending() != 0 || d.Writes() != 4 {
		t.Fatal(e)
	}
	if !holds(d, 0, padded('A', 'Q', 1, 34, 0, 0, 0, 0, 0, 1, 0, 0)) || !holds(d, 1, padded()) || !holds(d, 5, sector(5)) {
		t.Error("the sectors")
	}
	for ring, want := range map[int]api.Errno{0: api.ErrRange, -1: api.ErrRange, 1: api.OK, 296: api.OK, 297: api.ErrRange, math.MaxInt: api.ErrRange, math.MinInt: api.ErrRange} {
		if e := wal.Format(d, ring); e != want {
			t.Errorf("Format(%d): %d", ring, e)
		}
	}
	d.Crash(nil)
	if wal.Format(d, 0) != api.ErrRange || wal.Format(d, 5) != api.ErrDown {
		t.Error("Format while it is down")
	}
	d.Reboot()
	d.CrashAt(2, nil)
	if wal.Format(d, 5) != api.ErrDown {
		t.Error("a fall within Format")
	}
}

// P15.3, P15.1: numbers of a log.
func TestNumbers(t *testing.T) {
	_, l := fresh(t, 20, 7)
	if l.Ring() != 7 || l.Home() != 9 || l.Seq() != 1 {
		t.Error(l.Ring(), l.Home(), l.Seq())
	}
	for n, want := range map[int]int{math.MinInt: 0, -1: 0, 0: 0, 1: 2, 2: 3, 63: 64, 64: 65, 65: 67, 128: 130, 129: 132, 4000: 4063} {
		if l.Need(n) != want {
			t.Errorf("Need(%d) = %d", n, l.Need(n))
		}
	}
}

// P15.2: a change, sector by sector.
func TestCommit(t *testing.T) {
	d, l := fresh(t, 12, 5)
	writes := d.Writes()
	puts := []wal.Put{{9, sector(3)}, {7, sector(4)}}
	if e := l.Commit(puts); e != api.OK || l.Seq() != 2 || d.Pending() != 0 || d.Writes() != writes+7 {
		t.Fatal(e)
	}
	want := map[int][]byte{0: padded('A', 'Q', 0, 5, 0, 0, 0, 0, 0, 2, 0, 3), 1: padded('A', 'C', 0, 0, 0, 0, 0, 1, 0, 0, 0, 2), 2: padded(0, 9, 0, 7), 3: sector(3), 4: sector(4), 9: sector(3), 7: sector(4), 5: padded(), 8: padded(), 10: padded()}
	for k, b := range want {
		if !holds(d, k, b) {
			t.Errorf("sector %d", k)
		}
	}
	if e := l.Commit([]wal.Put{{8, sector(5)}, {11, sector(6)}}); e != api.OK || l.Seq() != 3 {
		t.Fatal(e)
	}
	want = map[int][]byte{0: padded('A', 'Q', 0, 5, 0, 0, 0, 0, 0, 3, 0, 1), 1: padded('A', 'C', 0, 0, 0, 0, 0, 2, 0, 3, 0, 2), 5: padded(0, 8, 0, 11), 6: sector(5), 2: sector(6), 3: sector(3), 8: sector(5), 11: sector(6)}
	for k, b := range want {
		if !holds(d, k, b) {
			t.Errorf("around the ring's end: sector %d", k)
		}
	}
	o, redone, e := wal.Open(d)
	if e != api.OK || redone || o.Seq() != 3 || o.Ring() != 5 {
		t.Error("opened again", e, redone)
	}
	if e := o.Commit([]wal.Put{{7, sector(1)}}); e != api.OK || !holds(d, 3, padded(0, 7)) || !holds(d, 4, sector(1)) {
		t.Error("where the next change lies")
	}
}

// P15.2: changes of more than one descriptor.
func TestMany(t *testing.T) {
	d, l := fresh(t, 400, 140)
	var puts []wal.Put
	for i := range 130 {
		puts = append(puts, wal.Put{At: 399 - i, Data: sector(byte(i))})
	}
	if e := l.Commit(puts); e != api.OK {
		t.Fatal(e)
	}
	first, second, third := padded(), padded(), padded(1, 15, 1, 14)
	for i := range 64 {
		first[2*i], first[2*i+1] = byte((399-i)>>8), byte(399-i)
		second[2*i], second[2*i+1] = byte((335-i)>>8), byte(335-i)
	}
	if !holds(d, 2, first) || !holds(d, 3, second) || !holds(d, 4, third) || !holds(d, 5, sector(0)) || !holds(d, 134, sector(129)) {
		t.Error("descriptors")
	}
	for i := range 130 {
		if !holds(d, 399-i, sector(byte(i))) {
			t.Errorf("sector %d", 399-i)
		}
	}
}

// P15.2: a change of just one descriptor.
func TestFull(t *testing.T) {
	d, l := fresh(t, 200, 70)
	var puts []wal.Put
	for i := range 64 {
		puts = append(puts, wal.Put{At: 100 + i, Data: sector(byte(1 + i))})
	}
	writes := d.Writes()
	if e := l.Commit(puts); e != api.OK || d.Writes() != writes+1+64+1+64+1 || !holds(d, 3, sector(1)) || !holds(d, 66, sector(64)) || !holds(d, 67, padded()) {
		t.Error("64 puts", e)
	}
	if b, _ := d.Read(0); b[11] != 65 {
		t.Error("pos", b[11])
	}
}

// P15.2: changes that may not be write nothing.
func TestCommitWrong(t *testing.T) {
	d, l := fresh(t, 20, 4)
	writes := d.Writes()
	good, short := wal.Put{At: 7, Data: sector(1)}, wal.Put{At: 9, Data: make([]byte, 255)}
	many := []wal.Put{{6, sector(1)}, {7, sector(1)}, {8, sector(1)}, {9, sector(1)}}
	cases := []struct {
		puts []wal.Put
		e    api.Errno
	}{
		{nil, api.OK}, {[]wal.Put{{5, sector(1)}}, api.ErrRange}, {[]wal.Put{{20, sector(1)}}, api.ErrRange}, {[]wal.Put{{-1, sector(1)}}, api.ErrRange},
		{[]wal.Put{{math.MaxInt, nil}}, api.ErrRange}, {[]wal.Put{{math.MinInt, nil}}, api.ErrRange},
		{[]wal.Put{good, good}, api.ErrRange}, {[]wal.Put{short, good, good}, api.ErrRange}, {[]wal.Put{short, {0, nil}}, api.ErrRange},
		{[]wal.Put{good, short}, api.ErrForm}, {[]wal.Put{{9, sector(1)[:0]}}, api.ErrForm}, {[]wal.Put{{9, make([]byte, 257)}}, api.ErrForm},
		{many, api.ErrLog}, {append(slices.Clone(many), wal.Put{At: 10}), api.ErrForm},
	}
	for i, c := range cases {
		if e := l.Commit(c.puts); e != c.e {
			t.Errorf("case %d: %d, want %d", i, e, c.e)
		}
	}
	if d.Writes() != writes || l.Seq() != 1 {
		t.Error("something was written")
	}
	if e := l.Commit(many[:3]); e != api.OK {
		t.Error("three puts", e)
	}
	d.Crash(nil)
	if l.Commit(nil) != api.OK || l.Commit(many) != api.ErrLog || l.Commit([]wal.Put{good}) != api.ErrDown {
		t.Error("while it is down")
	}
	if l, redone, e := wal.Open(d); l != nil || redone || e != api.ErrDown {
		t.Error("Open while it is down", e)
	}
}

// P15.1: heads that are none.
func TestOpenWrong(t *testing.T) {
	good := padded('A', 'Q', 0, 5, 0, 0, 0, 0, 0, 7, 0, 4)
	d, _ := disk.New(12)
	cases := []struct {
		at int
		x  byte
		e  api.Errno
	}{{-1, 0, api.OK}, {0, 'B', api.ErrForm}, {1, 'C', api.ErrForm}, {3, 0, api.ErrForm}, {3, 9, api.ErrForm}, {3, 8, api.OK}, {2, 1, api.ErrForm}, {11, 5, api.ErrForm}, {3, 4, api.ErrForm},
		{10, 1, api.ErrForm}, {12, 1, api.ErrForm}, {255, 1, api.ErrForm}, {4, 255, api.OK}, {9, 0, api.OK}, {11, 0, api.OK}}
	for i, c := range cases {
		b := slices.Clone(good)
		if c.at >= 0 {
			b[c.at] = c.x
		}
		d.Write(0, b)
		d.Flush()
		l, redone, e := wal.Open(d)
		if e != c.e || redone || (l == nil) != (e != api.OK) {
			t.Errorf("case %d: %d", i, e)
		}
	}
	empty, _ := disk.New(9)
	if l, _, e := wal.Open(empty); l != nil || e != api.ErrForm {
		t.Errorf("an empty disk: %d", e)
	}
}

// P15.1: marks that are one are done again, others are not.
func TestMark(t *testing.T) {
	cases := []struct {
		name string
		mark []byte
		desc []byte
		want bool
	}{
		{"good", padded('A', 'C', 0, 0, 0, 0, 0, 1, 0, 0, 0, 2), padded(0, 9, 0, 7), true},
		{"one put", padded('A', 'C', 0, 0, 0, 0, 0, 1, 0, 0, 0, 1), padded(0, 9), true},
		{"a sector twice", padded('A', 'C', 0, 0, 0, 0, 0, 1, 0, 0, 0, 2), padded(0, 9, 0, 9), true},
		{"sign", padded('A', 'Q', 0, 0, 0, 0, 0, 1, 0, 0, 0, 2), padded(0, 9, 0, 7), false},
		{"seq above", padded('A', 'C', 0, 0, 0, 0, 0, 2, 0, 0, 0, 2), padded(0, 9, 0, 7), false},
		{"seq below", padded('A', 'C', 0, 0, 0, 0, 0, 0, 0, 0, 0, 2), padded(0, 9, 0, 7), false},
		{"pos", padded('A', 'C', 0, 0, 0, 0, 0, 1, 0, 1, 0, 2), padded(0, 9, 0, 7), false},
		{"no puts", padded('A', 'C', 0, 0, 0, 0, 0, 1, 0, 0, 0, 0), padded(0, 9, 0, 7), false},
		{"too many", padded('A', 'C', 0, 0, 0, 0, 0, 1, 0, 0, 0, 5), padded(0, 9, 0, 7, 0, 8, 0, 10, 0, 11), false},
		{"far too many", padded('A', 'C', 0, 0, 0, 0, 0, 1, 0, 0, 255, 255), padded(0, 9, 0, 7), false},
		{"as many as go", padded('A', 'C', 0, 0, 0, 0, 0, 1, 0, 0, 0, 4), padded(0, 9, 0, 7, 0, 8, 0, 10), true},
		{"something behind", padded('A', 'C', 0, 0, 0, 0, 0, 1, 0, 0, 0, 2, 0, 1), padded(0, 9, 0, 7), false},
		{"not at home", padded('A', 'C', 0, 0, 0, 0, 0, 1, 0, 0, 0, 2), padded(0, 9, 0, 6), false},
		{"beyond the end", padded('A', 'C', 0, 0, 0, 0, 0, 1, 0, 0, 0, 2), padded(0, 12, 0, 7), false},
	}
	for _, c := range cases {
		d, _ := fresh(t, 12, 5)
		d.Write(1, c.mark)
		d.Write(2, c.desc)
		for i := range 4 {
			d.Write(3+i, sector(byte(50+i)))
		}
		d.Flush()
		writes := d.Writes()
		l, redone, e := wal.Open(d)
		if e != api.OK || redone != c.want || d.Pending() != 0 {
			t.Errorf("%s: %v, %d", c.name, redone, e)
			continue
		}
		if !redone && (d.Writes() != writes || l.Seq() != 1 || !holds(d, 9, padded())) {
			t.Errorf("%s: something was written", c.name)
		}
		if redone && l.Seq() != 2 {
			t.Errorf("%s: seq %d", c.name, l.Seq())
		}
		if c.name == "good" && (!holds(d, 9, sector(50)) || !holds(d, 7, sector(51)) || !holds(d, 0, padded('A', 'Q', 0, 5, 0, 0, 0, 0, 0, 2, 0, 3))) {
			t.Errorf("%s: sectors", c.name)
		}
		if c.name == "a sector twice" && !holds(d, 9, sector(51)) {
			t.Errorf("%s: in order", c.name)
		}
		if _, again, e := wal.Open(d); again || e != api.OK {
			t.Errorf("%s: twice", c.name)
		}
	}
}

// state tells the first bytes of the sectors at home.
func state(t *testing.T, d *disk.Disk, home int) []byte {
	t.Helper()
	var out []byte
	for k := home; k < d.Sectors(); k++ {
		b, e := d.Read(k)
		if e != api.OK || !bytes.Equal(b, sector(b[0])) {
			t.Fatalf("sector %d is torn: %d", k, e)
		}
		out = append(out, b[0])
	}
	return out
}

// P15.5: a fall at each write of a Commit, with each mask, and at each write of the Open behind it.
func TestFalls(t *testing.T) {
	base, l := fresh(t, 16, 6)
	l.Commit([]wal.Put{{9, sector(1)}, {10, sector(2)}, {12, sector(3)}})
	before := state(t, base, 8)
	puts := []wal.Put{{10, sector(7)}, {13, sector(8)}, {9, sector(9)}}
	after := []byte{0, 9, 7, 0, 3, 8, 0, 0}
	kinds := map[string]int{}
	for at := 1; at <= 10; at++ {
		for mask := range 16 {
			d := base.Copy()
			d.CrashAt(at, []byte{byte(mask)})
			l, _, _ := wal.Open(d)
			e := l.Commit(puts)
			if e != api.OK && (e != api.ErrDown || l.Seq() != 2) {
				t.Fatalf("fall %d: %d", at, e)
			}
			d.Reboot()
			for again := range 6 {
				for second := range 8 {
					x := d.Copy()
					if again > 0 {
						x.CrashAt(again, []byte{byte(second)})
						if l, redone, e := wal.Open(x); e == api.ErrDown {
							if l != nil || redone {
								t.Fatal("P0.3: something beside an error")
							}
							x.Reboot()
						}
						x.CrashAt(again, []byte{byte(7 - second)})
						if _, _, e := wal.Open(x); e == api.ErrDown {
							x.Reboot()
						}
					}
					x.CrashAt(0, nil)
					o, _, f := wal.Open(x)
					if f != api.OK {
						t.Fatalf("fall %d, %d: %d", at, again, f)
					}
					got := state(t, x, 8)
					isNew := bytes.Equal(got, after)
					if !isNew && (e == api.OK || !bytes.Equal(got, before)) {
						t.Fatalf("fall %d, mask %x, %d, %x: %d", at, mask, again, second, got)
					}
					if isNew {
						kinds["new"]++
					} else {
						kinds["old"]++
					}
					if o.Commit([]wal.Put{{15, sector(99)}}) != api.OK || !holds(x, 15, sector(99)) {
						t.Fatal("a Commit behind it")
					}
				}
			}
		}
	}
	if len(kinds) != 2 {
		t.Error(kinds)
	}
}

// P15.5: many changes and falls by chance, with a ring that is gone round often.
func TestChance(t *testing.T) {
	r := rand.New(rand.NewSource(25))
	for range 60 {
		ring := 3 + r.Intn(8)
		d, l := fresh(t, ring+14, ring)
		now := make([]byte, 12)
		for range 60 {
			next := slices.Clone(now)
			var puts []wal.Put
			for _, k := range r.Perm(12)[:1+r.Intn(ring-1)] {
				next[k] = byte(r.Intn(256))
				puts = append(puts, wal.Put{At: l.Home() + k, Data: sector(next[k])})
			}
			mask := make([]byte, 3)
			r.Read(mask)
			d.CrashAt(r.Intn(40), mask)
			e := l.Commit(puts)
			for !d.Up() {
				d.Reboot()
				d.CrashAt(r.Intn(20), mask)
				if o, _, f := wal.Open(d); f == api.OK {
					l = o
				}
			}
			d.CrashAt(0, nil)
			got := state(t, d, l.Home())
			if !bytes.Equal(got, next) && (e == api.OK || !bytes.Equal(got, now)) {
				t.Fatalf("%d, was %d, to be %d", got, now, next)
			}
			now = got
		}
	}
}

// P15.4: the puts are neither changed nor kept.
func TestMemory(t *testing.T) {
	d, l := fresh(t, 12, 4)
	puts := []wal.Put{{8, sector(1)}, {7, sector(2)}}
	l.Commit(puts)
	puts[0].Data[0] = 9
	if !holds(d, 8, sector(1)) || !bytes.Equal(puts[1].Data, sector(2)) || puts[0].At != 8 {
		t.Error("kept")
	}
}

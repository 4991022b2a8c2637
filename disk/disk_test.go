package disk_test

import (
	"bytes"
	"math"
	"math/rand"
	"testing"

	"aquatint/api"
	"aquatint/disk"
)

// sector is one filled with x.
func sector(x byte) []byte { return bytes.Repeat([]byte{x}, api.Sector) }

// newDisk is a new disk of n sectors.
func newDisk(t *testing.T, n int) *disk.Disk {
	t.Helper()
	d, e := disk.New(n)
	if e != api.OK {
		t.Fatal(e)
	}
	return d
}

// reads tells the first byte of each sector, which must be filled with it.
func reads(t *testing.T, d *disk.Disk) []byte {
	t.Helper()
	var out []byte
	for k := range d.Sectors() {
		b, e := d.Read(k)
		if e != api.OK || !bytes.Equal(b, sector(b[0])) {
			t.Fatalf("sector %d: %d", k, e)
		}
		out = append(out, b[0])
	}
	return out
}

// P14.1: how many sectors there may be.
func TestNew(t *testing.T) {
	for n, want := range map[int]api.Errno{4: api.OK, 4096: api.OK, 100: api.OK, 3: api.ErrRange, 0: api.ErrRange, -1: api.ErrRange, 4097: api.ErrRange, math.MaxInt: api.ErrRange, math.MinInt: api.ErrRange} {
		d, e := disk.New(n)
		if e != want || (d == nil) != (e != api.OK) {
			t.Errorf("New(%d): %d", n, e)
		}
		if e == api.OK && (d.Sectors() != n || !d.Up() || d.Writes() != 0 || d.Pending() != 0) {
			t.Errorf("New(%d)", n)
		}
	}
	if !bytes.Equal(reads(t, newDisk(t, 5)), make([]byte, 5)) {
		t.Error("a new disk is not 0")
	}
}

// P14.2: reads and writes, good ones and wrong ones.
func TestReadWrite(t *testing.T) {
	d := newDisk(t, 4)
	if e := d.Write(3, sector(7)); e != api.OK || d.Writes() != 1 || d.Pending() != 1 {
		t.Error("a write")
	}
	d.Write(3, sector(8))
	if !bytes.Equal(reads(t, d), []byte{0, 0, 0, 8}) || d.Pending() != 2 {
		t.Error("two writes")
	}
	for _, k := range []int{-1, 4, math.MaxInt, math.MinInt} {
		if b, e := d.Read(k); b != nil || e != api.ErrRange {
			t.Errorf("Read(%d): %d", k, e)
		}
		if e := d.Write(k, nil); e != api.ErrRange {
			t.Errorf("Write(%d): %d", k, e)
		}
	}
	for _, n := range []int{0, 255, 257} {
		if e := d.Write(0, make([]byte, n)); e != api.ErrForm {
			t.Errorf("Write of %d bytes: %d", n, e)
		}
	}
	if d.Writes() != 2 || d.Pending() != 2 {
		t.Error("wrong writes count")
	}
	if d.Flush() != api.OK || d.Pending() != 0 || d.Writes() != 2 {
		t.Error("Flush")
	}
	d.Crash(nil)
	if d.Up() {
		t.Error("it is Up")
	}
	if b, e := d.Read(-1); b != nil || e != api.ErrDown {
		t.Error("Read while down")
	}
	if d.Write(-1, nil) != api.ErrDown || d.Flush() != api.ErrDown || d.Writes() != 2 {
		t.Error("Write, Flush while down")
	}
	d.Reboot()
	if !d.Up() || !bytes.Equal(reads(t, d), []byte{0, 0, 0, 8}) {
		t.Error("what was flushed")
	}
}

// P14.3: a fall keeps those pending writes whose bits are 1, in order.
func TestCrash(t *testing.T) {
	d := newDisk(t, 4)
	d.Write(0, sector(1))
	d.Flush()
	d.Write(0, sector(2))
	d.Write(1, sector(3))
	d.Crash([]byte{2})
	d.Reboot()
	if !bytes.Equal(reads(t, d), []byte{1, 3, 0, 0}) {
		t.Errorf("%d", reads(t, d))
	}
	for i := range 20 {
		d.Write(i%2, sector(byte(100+i)))
	}
	d.Crash([]byte{0x10, 0xC0})
	if d.Pending() != 0 {
		t.Error("something is pending")
	}
	d.Crash([]byte{255})
	d.Reboot()
	if !bytes.Equal(reads(t, d), []byte{114, 115, 0, 0}) {
		t.Errorf("%d", reads(t, d))
	}
	d.Write(2, sector(1))
	d.Write(2, sector(2))
	d.Crash([]byte{1})
	d.Reboot()
	if b, _ := d.Read(2); b[0] != 1 {
		t.Error("the earlier one of two")
	}
}

// P14.2, P14.3: a fall that is told ahead.
func TestCrashAt(t *testing.T) {
	d := newDisk(t, 4)
	mask := []byte{0b101}
	d.Write(3, sector(9))
	d.CrashAt(2, mask)
	mask[0] = 0
	if d.Write(0, sector(1)) != api.OK || d.Write(9, nil) != api.ErrRange || d.Write(1, sector(2)) != api.ErrDown {
		t.Fatal("the second write")
	}
	if d.Up() || d.Writes() != 3 || d.Pending() != 0 {
		t.Error("the fall")
	}
	d.Reboot()
	if !bytes.Equal(reads(t, d), []byte{0, 2, 0, 9}) {
		t.Errorf("%d", reads(t, d))
	}
	for range 10 {
		if d.Write(0, sector(5)) != api.OK {
			t.Fatal("it falls again")
		}
	}
	d.CrashAt(1, nil)
	d.CrashAt(2, nil)
	if d.Write(0, sector(6)) != api.OK {
		t.Error("what was told ahead is not forgotten")
	}
	d.Crash(nil)
	d.Reboot()
	if d.Write(0, sector(6)) != api.ErrDown {
		t.Error("a Crash by hand changes what is told")
	}
	d.Reboot()
	for _, n := range []int{0, -1, math.MinInt, 1<<40 + 1, math.MaxInt} {
		d.CrashAt(1, nil)
		d.CrashAt(n, nil)
		if d.Write(0, sector(7)) != api.OK || d.Write(0, sector(7)) != api.OK {
			t.Errorf("CrashAt(%d)", n)
		}
	}
	d.CrashAt(1<<40, nil)
	if d.Write(0, sector(7)) != api.OK {
		t.Error("CrashAt(2^40)")
	}
}

// P14.4: bits that turn.
func TestTurn(t *testing.T) {
	d := newDisk(t, 4)
	if !d.Turn(1, 0) || !d.Turn(1, 8*api.Sector-1) || !d.Turn(1, 11) {
		t.Error("Turn")
	}
	b, _ := d.Read(1)
	want := make([]byte, api.Sector)
	want[0], want[1], want[255] = 1, 8, 128
	if !bytes.Equal(b, want) {
		t.Errorf("% x", b)
	}
	for _, c := range [][2]int{{-1, 0}, {4, 0}, {0, -1}, {0, 8 * api.Sector}, {math.MaxInt, 0}, {0, math.MinInt}} {
		if d.Turn(c[0], c[1]) {
			t.Errorf("Turn(%d, %d)", c[0], c[1])
		}
	}
	d.Write(2, sector(1))
	if d.Turn(1, 0) {
		t.Error("while something is pending")
	}
	d.Crash(nil)
	if !d.Turn(1, 11) || d.Up() {
		t.Error("while it is down")
	}
	d.Reboot()
	want[1] = 0
	if b, _ := d.Read(1); !bytes.Equal(b, want) || d.Writes() != 1 {
		t.Error("it is not durable")
	}
}

// P14.4, P14.5: a copy has all, and shares nothing.
func TestCopy(t *testing.T) {
	d := newDisk(t, 4)
	d.Write(0, sector(1))
	d.Flush()
	d.Write(1, sector(2))
	d.CrashAt(2, []byte{1})
	c := d.Copy()
	if c.Sectors() != 4 || c.Writes() != 2 || c.Pending() != 1 || !c.Up() || !bytes.Equal(reads(t, c), []byte{1, 2, 0, 0}) {
		t.Error("the copy lacks something")
	}
	d.Write(2, sector(3))
	d.Turn(0, 1)
	if c.Pending() != 1 || !bytes.Equal(reads(t, c), []byte{1, 2, 0, 0}) {
		t.Error("shared")
	}
	if c.Write(3, sector(4)) != api.OK || c.Write(3, sector(4)) != api.ErrDown {
		t.Error("the fall that was told is not copied")
	}
	if e := c.Copy(); e.Up() {
		t.Error("a copy of one that is down")
	}
	c.Reboot()
	if !bytes.Equal(reads(t, c), []byte{1, 2, 0, 0}) || !bytes.Equal(reads(t, d), []byte{1, 2, 3, 0}) {
		t.Error("shared behind the fall")
	}
	x := newDisk(t, 4)
	for i := range 3 {
		x.Write(i, sector(1))
	}
	y := x.Copy()
	x.Write(3, sector(7))
	y.Write(3, sector(8))
	for _, z := range []*disk.Disk{x, y} {
		z.Crash([]byte{8})
		z.Reboot()
	}
	if !bytes.Equal(reads(t, x), []byte{0, 0, 0, 7}) || !bytes.Equal(reads(t, y), []byte{0, 0, 0, 8}) {
		t.Error("pending writes are shared")
	}
	d.Flush()
	d.Turn(0, 0)
	e := d.Copy()
	d.Turn(0, 1)
	if b, _ := e.Read(0); b[0] != 0 {
		t.Error("a bit that turns is shared")
	}
}

// P14.5: lists are neither kept nor shared.
func TestMemory(t *testing.T) {
	d := newDisk(t, 4)
	b := sector(1)
	d.Write(0, b)
	b[0] = 9
	x, _ := d.Read(0)
	x[1] = 9
	if y, _ := d.Read(0); !bytes.Equal(y, sector(1)) {
		t.Error("shared while pending")
	}
	d.Flush()
	x, _ = d.Read(0)
	x[1] = 9
	if y, _ := d.Read(0); !bytes.Equal(y, sector(1)) {
		t.Error("shared")
	}
}

// model is a disk by the chapter's words, of one byte a sector.
type model struct {
	old, now []byte
	pending  [][2]int
	writes   int
	at       int
	mask     []byte
	up       bool
}

// fall loses what the mask does not keep.
func (m *model) fall(mask []byte) {
	for i, w := range m.pending {
		if i/8 < len(mask) && mask[i/8]&(1<<(i%8)) != 0 {
			m.old[w[0]] = byte(w[1])
		}
	}
	m.pending, m.up = nil, false
	m.now = bytes.Clone(m.old)
}

// P14.2, P14.3, P14.6: calls by chance, held against the model.
func TestModel(t *testing.T) {
	r := rand.New(rand.NewSource(24))
	for range 300 {
		d := newDisk(t, 6)
		m := &model{old: make([]byte, 6), now: make([]byte, 6), up: true, at: -1}
		for range 120 {
			mask := make([]byte, r.Intn(4))
			r.Read(mask)
			switch r.Intn(12) {
			case 0:
				want := api.OK
				if !m.up {
					want = api.ErrDown
				} else {
					m.old, m.pending = bytes.Clone(m.now), nil
				}
				if e := d.Flush(); e != want {
					t.Fatalf("Flush: %d", e)
				}
			case 1:
				n := r.Intn(12)
				d.CrashAt(n, mask)
				m.at, m.mask = -1, mask
				if n > 0 {
					m.at = m.writes + n
				}
			case 2:
				d.Crash(mask)
				if m.up {
					m.fall(mask)
				}
			case 3:
				d.Reboot()
				m.up = true
			default:
				k, x, want := r.Intn(6), r.Intn(256), api.OK
				if !m.up {
					want = api.ErrDown
				} else {
					m.writes++
					m.pending = append(m.pending, [2]int{k, x})
					m.now[k] = byte(x)
					if m.writes == m.at {
						m.fall(m.mask)
						want = api.ErrDown
					}
				}
				if e := d.Write(k, sector(byte(x))); e != want {
					t.Fatalf("Write: %d, want %d", e, want)
				}
			}
			if d.Up() != m.up || d.Writes() != m.writes || d.Pending() != len(m.pending) {
				t.Fatal("Up, Writes, Pending")
			}
			if m.up && !bytes.Equal(reads(t, d), m.now) {
				t.Fatalf("%d, want %d", reads(t, d), m.now)
			}
		}
	}
}

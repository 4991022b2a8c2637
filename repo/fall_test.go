package repo_test

import (
	"maps"
	"math/rand"
	"slices"
	"testing"

	"aquatint/api"
	"aquatint/disk"
	"aquatint/pix"
	"aquatint/refs"
	"aquatint/repo"
)

// command is one that hangs on nothing but the repository.
type command func(r *repo.Repo) api.Errno

// commands are a row of them that has all kinds.
func commands() []command {
	com := func(branch string, p api.Raster) command {
		return func(r *repo.Repo) api.Errno {
			_, e := r.Commit(branch, "u", "", p)
			return e
		}
	}
	at := func(r *repo.Repo, branch string) string {
		k, _ := refs.Find(r.Refs(), false, branch)
		return k
	}
	merge := func(into, from string, by api.Raster) command {
		return func(r *repo.Repo) api.Errno {
			_, e := r.Merge(into, from, "u", "", by)
			return e
		}
	}
	collect := func(r *repo.Repo) api.Errno {
		_, e := r.Collect()
		return e
	}
	return []command{
		com("a", row("000")),
		func(r *repo.Repo) api.Errno { return r.Branch("b", at(r, "a")) },
		com("a", row("100")),
		com("b", row("020")),
		merge("a", "b", api.Raster{}),
		func(r *repo.Repo) api.Errno { return r.Repack(4) },
		com("a", row("130")),
		com("b", row("040")),
		merge("a", "b", row("xyz")),
		merge("b", "a", api.Raster{}),
		func(r *repo.Repo) api.Errno { return r.Tag("t", at(r, "b")) },
		com("c", row("999")),
		func(r *repo.Repo) api.Errno { return r.Delete(false, "c") },
		func(r *repo.Repo) api.Errno { return r.Repack(2) },
		com("c", row("888")),
		func(r *repo.Repo) api.Errno { return r.Delete(false, "c") },
		collect,
		func(r *repo.Repo) api.Errno { return r.Delete(false, "a") },
		func(r *repo.Repo) api.Errno { return r.Delete(false, "b") },
		func(r *repo.Repo) api.Errno { return r.Delete(true, "t") },
		collect,
	}
}

// reopen opens a disk that fell, while it goes on falling at some writes.
func reopen(t *testing.T, d *disk.Disk, falls int, mask byte) *repo.Repo {
	t.Helper()
	for i := falls; i > 0; i-- {
		d.Reboot()
		d.CrashAt(i, []byte{mask, mask ^ 255})
		repo.Open(d)
	}
	d.CrashAt(0, nil)
	d.Reboot()
	return open(t, d)
}

// P24.8: a fall at each write of each command, with masks, and falls within the openings behind it.
func TestFalls(t *testing.T) {
	r := rand.New(rand.NewSource(33))
	base := fresh(t, 160, 14, 12)
	met := map[string]int{}
	for n, c := range commands() {
		before := state(t, base)
		whole := open(t, base.FS().Disk().Copy())
		writes := whole.FS().Disk().Writes()
		ok(t, c(whole))
		after := state(t, whole)
		writes = whole.FS().Disk().Writes() - writes
		for at := 1; at <= writes+1; at++ {
			for range 4 {
				mask := make([]byte, 4)
				r.Read(mask)
				d := base.FS().Disk().Copy()
				x := open(t, d)
				d.CrashAt(at, mask)
				e := c(x)
				if e != api.OK && e != api.ErrDown {
					t.Fatalf("command %d: %d", n, e)
				}
				if e == api.ErrDown && !slices.Equal(x.Refs(), base.Refs()) {
					t.Fatal("beside an error the refs are others")
				}
				got := state(t, reopen(t, d, r.Intn(5), mask[0]))
				switch {
				case got == after && after != before:
					met["after"]++
				case e == api.OK && got != after, got != before:
					t.Fatalf("command %d, fall %d, mask %x: neither as ahead nor as behind", n, at, mask)
				default:
					met["before"]++
				}
			}
		}
		ok(t, c(base))
	}
	if len(met) != 2 {
		t.Error(met)
	}
}

// P24.9, P24.10, P24.11: commands by chance: each commit that a ref reaches shows its picture, always.
func TestPictures(t *testing.T) {
	r := rand.New(rand.NewSource(34))
	for range 12 {
		x := fresh(t, 200, 16, 14)
		pictures := map[string]api.Raster{}
		for range 60 {
			names := []string{"a", "b"}
			branch, other := names[r.Intn(2)], names[r.Intn(2)]
			p := row("abc"[:1+r.Intn(3)])
			p.Pix[r.Intn(len(p.Pix))] = byte(r.Intn(4))
			full := x.FS().Used() + x.FS().Free()
			var e api.Errno
			switch r.Intn(10) {
			case 0, 1, 2, 3:
				var k string
				if k, e = x.Commit(branch, "u", "", p); e == api.OK {
					pictures[k] = p
				}
			case 4:
				if l := slices.Sorted(maps.Keys(pictures)); len(l) > 0 {
					e = x.Branch(branch, l[r.Intn(len(l))])
				}
			case 5, 6:
				var m repo.Merged
				if m, e = x.Merge(branch, other, "u", "", p); e == api.OK {
					if _, there := pictures[m.Key]; !there {
						pictures[m.Key], _ = x.Picture(m.Key)
					}
				}
			case 7:
				e = x.Repack(1 + r.Intn(5))
			case 8:
				_, e = x.Collect()
			default:
				e = x.Delete(false, branch)
			}
			if e == api.ErrLog || e == api.ErrSum || e == api.ErrForm || e == api.ErrTwin {
				t.Fatal(e)
			}
			if l, e := x.Fsck(); len(l) != 0 || e != api.OK {
				t.Fatal("Fsck", l, e)
			}
			if x.FS().Used()+x.FS().Free() != full || x.FS().Free() < 0 {
				t.Fatal("room")
			}
			for _, ref := range x.Refs() {
				l, e := x.Log(ref.Name)
				if e != api.OK {
					t.Fatal(e)
				}
				for _, c := range l {
					if q, e := x.Picture(c.Key); e != api.OK || !pix.Same(q, pictures[c.Key]) {
						t.Fatal("a picture", e)
					}
				}
			}
		}
	}
}

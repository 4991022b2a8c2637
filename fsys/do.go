package fsys

import (
	"bytes"
	"slices"

	"aquatint/api"
	"aquatint/wal"
)

// draft is a file as the changes so far make it. Where it is told anew its bytes stand in data, and it has no blocks yet.
type draft struct {
	file
	anew bool
	data []byte
}

// Do makes all changes at one blow.
func (f *FS) Do(l []Change) api.Errno {
	drafts := map[string]draft{}
	for name, x := range f.files {
		drafts[name] = draft{file: x}
	}
	for _, c := range l {
		if e := f.step(drafts, c); e != api.OK {
			return e
		}
	}
	files, fresh, e := f.place(drafts)
	if e != api.OK {
		return e
	}
	table := tableBytes(files)
	if len(table) > len(f.table) {
		return api.ErrSpace
	}
	table = append(table, make([]byte, len(f.table)-len(table))...)
	puts := f.puts(table)
	if f.log.Need(len(puts)) > f.log.Ring() {
		return api.ErrLog
	}
	if e := f.write(fresh); e != api.OK {
		return e
	}
	if e := f.log.Commit(puts); e != api.OK {
		return e
	}
	f.files, f.table = files, table
	return api.OK
}

// step makes one change in the drafts.
func (f *FS) step(drafts map[string]draft, c Change) api.Errno {
	if !Name(c.Name) || c.Kind == Rename && !Name(c.To) {
		return api.ErrName
	}
	x, there := drafts[c.Name]
	switch c.Kind {
	case Create:
		if there {
			return api.ErrExists
		}
		return tell(drafts, c.Name, c.Data)
	case Put:
		return tell(drafts, c.Name, c.Data)
	case Append, Rename, Delete:
		if !there {
			return api.ErrNone
		}
	default:
		return api.ErrRange
	}
	switch c.Kind {
	case Append:
		old, e := f.draftBytes(x)
		if e != api.OK {
			return e
		}
		return tell(drafts, c.Name, slices.Concat(old, c.Data))
	case Rename:
		if c.To == c.Name {
			return api.OK
		}
		if _, ok := drafts[c.To]; ok {
			return api.ErrExists
		}
		drafts[c.To] = x
	}
	delete(drafts, c.Name)
	return api.OK
}

// draftBytes gives what a draft holds: its blocks are read, if it has not been told anew.
func (f *FS) draftBytes(x draft) ([]byte, api.Errno) {
	if x.anew {
		return x.data, api.OK
	}
	return f.bytes(x.file)
}

// tell makes a draft of these bytes.
func tell(drafts map[string]draft, name string, data []byte) api.Errno {
	_, there := drafts[name]
	if len(data) > maxSize || !there && len(drafts) >= api.MaxFiles {
		return api.ErrLarge
	}
	drafts[name] = draft{file{size: len(data)}, true, data}
	return api.OK
}

// block is one that is to be written.
type block struct {
	number int
	data   []byte
}

// place gives the files of the drafts, and the blocks that are to be written, rising.
// A block that some file has now is not taken: a fall must find it as it is.
func (f *FS) place(drafts map[string]draft) (map[string]file, []block, api.Errno) {
	taken := make([]bool, f.count)
	for _, x := range f.files {
		take(taken, x.blocks)
	}
	files := map[string]file{}
	var fresh []block
	next := 0
	for _, name := range names(drafts) {
		x := drafts[name]
		if !x.anew {
			files[name] = x.file
			continue
		}
		for at := 0; at < x.size; at += api.Sector {
			for next < f.count && taken[next] {
				next++
			}
			if next == f.count {
				return nil, nil, api.ErrSpace
			}
			b := make([]byte, api.Sector)
			copy(b, x.data[at:])
			fresh = append(fresh, block{next, b})
			x.blocks = append(x.blocks, next)
			next++
		}
		files[name] = x.file
	}
	return files, fresh, api.OK
}

// puts gives the sectors of the table that are to be others.
func (f *FS) puts(table []byte) []wal.Put {
	var out []wal.Put
	for i := range f.meta {
		b := table[i*api.Sector : (i+1)*api.Sector]
		if !bytes.Equal(b, f.table[i*api.Sector:(i+1)*api.Sector]) {
			out = append(out, wal.Put{At: f.log.Home() + 1 + i, Data: b})
		}
	}
	return out
}

// write writes blocks, and makes them durable.
func (f *FS) write(fresh []block) api.Errno {
	if len(fresh) == 0 {
		return api.OK
	}
	for _, b := range fresh {
		if e := f.disk.Write(f.sector(b.number), b.data); e != api.OK {
			return e
		}
	}
	return f.disk.Flush()
}

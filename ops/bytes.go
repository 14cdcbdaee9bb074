package ops

import (
	"strings"

	"lockgate/api"
	"lockgate/inode"
)

// file is the one to which names lead.
func (d *draft) file(names []string) (thing, api.Errno) {
	x, e := d.walk(names)
	if e == api.OK && x.Kind == api.Folder {
		e = api.ErrDir
	}
	return x, e
}

// tell tells some of a file's bytes.
func (d *draft) tell(a asked) api.Reply {
	x, e := d.file(a.path)
	if e != api.OK {
		return failed(e)
	}
	from := min(a.At, x.Size)
	s, e := d.bytes(x, from, from+min(a.N, x.Size-from))
	return api.Reply{Err: e, Data: s}
}

// zeros are so many bytes 0.
func zeros(n int) string { return strings.Repeat("\x00", n) }

// write puts bytes into a file.
func (d *draft) write(a asked) api.Reply {
	x, e := d.file(a.path)
	if e != api.OK {
		return failed(e)
	}
	from := min(a.At, x.Size)
	return d.change(x, max(x.Size, a.At+len(a.Data)), from, zeros(a.At-from)+a.Data)
}

// truncate gives a file so many bytes.
func (d *draft) truncate(a asked) api.Reply {
	x, e := d.file(a.path)
	if e != api.OK {
		return failed(e)
	}
	// Of bytes that are cut off those in the last sector that stays are 0 from now on.
	end := min(x.Size, (a.N+api.SectorSize-1)/api.SectorSize*api.SectorSize)
	from := min(a.N, x.Size)
	return d.change(x, a.N, from, zeros(max(a.N, end)-from))
}

// change gives a file so many bytes, which are others from a place on: s. The file itself is written in any case, of its bytes those alone.
func (d *draft) change(x thing, size, from int, s string) api.Reply {
	more, e := d.takeFor(x, size, 0)
	if e != api.OK {
		return failed(e)
	}
	was, x := x, d.resize(x, size, more)
	for _, p := range inode.Pieces(from, from+len(s)) {
		n, old, ok := p.To-p.From, zeros(api.SectorSize), true
		if p.Index < len(was.Data) && n < api.SectorSize {
			old, ok = d.sector(was.Data[p.Index])
		}
		if !ok {
			return failed(api.ErrBad)
		}
		now := old[:p.From] + s[:n] + old[p.To:]
		d.lay(x.Data[p.Index], inode.Cut(now[:min(len(now), size-p.Index*api.SectorSize)])[0])
		s = s[n:]
	}
	d.keep(x)
	return api.Reply{}
}

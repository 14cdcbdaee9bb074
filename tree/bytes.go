package tree

import "lockgate/api"

// read tells some of a file's bytes.
func (t *Tree) read(a asked) api.Reply {
	x := t.things[a.thing]
	if t.kind(a.thing) == api.Folder {
		return api.Reply{Err: api.ErrDir}
	}
	rest := x.data[min(a.At, len(x.data)):]
	return api.Reply{Data: rest[:min(a.N, len(rest))]}
}

// change gives a file other bytes: so many, which are what a closure makes of those that it has, and of bytes 0.
func (t *Tree) change(number, size int, put func(b []byte)) api.Reply {
	x := t.things[number]
	switch {
	case t.kind(number) == api.Folder:
		return api.Reply{Err: api.ErrDir}
	case more(len(x.data), size) > t.free:
		return api.Reply{Err: api.ErrFull}
	}
	b := make([]byte, size)
	copy(b, x.data)
	put(b)
	x.data = string(b)
	t.set(number, x)
	return api.Reply{}
}

// write puts bytes into a file.
func (t *Tree) write(a asked) api.Reply {
	size := max(len(t.things[a.thing].data), a.At+len(a.Data))
	return t.change(a.thing, size, func(b []byte) { copy(b[a.At:], a.Data) })
}

// truncate gives a file so many bytes.
func (t *Tree) truncate(a asked) api.Reply {
	return t.change(a.thing, a.N, func([]byte) {})
}

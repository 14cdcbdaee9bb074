package tree

import (
	"lockgate/api"
	"lockgate/entry"
)

// asked is a call, with the names of its paths, and the number of the thing to which the first one leads.
type asked struct {
	api.Call
	path, to []string
	thing    int
}

// right tells whether a call's numbers may be.
func right(c api.Call) bool {
	switch c.Op {
	case api.OpRead:
		return c.At >= 0 && c.N >= 0 && c.N <= api.MaxSize
	case api.OpWrite:
		return c.At >= 0
	case api.OpTruncate:
		return c.N >= 0
	}
	return c.Op >= api.OpCreate && c.Op <= api.OpStatfs
}

// tooMany tells whether a call asks for more bytes than a file may have.
func tooMany(c api.Call) bool {
	switch c.Op {
	case api.OpWrite:
		// Without a sum: far off it would wrap round.
		return len(c.Data) > api.MaxSize-c.At
	case api.OpTruncate:
		return c.N > api.MaxSize
	}
	return false
}

// names are a path's; false, if it is none, or has fewer than least.
func names(path string, least int) ([]string, bool) {
	l, ok := entry.Split(path)
	return l, ok && len(l) >= least
}

// paths puts the names of a call's paths beside it.
func paths(c api.Call) (asked, bool) {
	a, ok, toOK := asked{Call: c}, true, true
	switch c.Op {
	case api.OpSync, api.OpStatfs: // whatever their paths are
	case api.OpLink, api.OpRename:
		a.path, ok = names(c.Path, 1)
		a.to, toOK = names(c.To, 1)
	case api.OpCreate, api.OpMkdir, api.OpUnlink:
		a.path, ok = names(c.Path, 1)
	default:
		a.path, ok = names(c.Path, 0)
	}
	return a, ok && toOK
}

// ask is a call, looked at as far as it goes without a tree.
func ask(c api.Call) (asked, api.Errno) {
	a, ok := paths(c)
	switch {
	case !ok || !right(c):
		return asked{}, api.ErrArg
	case tooMany(c):
		return asked{}, api.ErrSize
	}
	return a, api.OK
}

package ops

import (
	"lockgate/api"
	"lockgate/entry"
)

// asked is a call, and the names of its paths.
type asked struct {
	api.Call
	path, to []string
}

// Paths of which not even that they are paths is asked.
const whatever = -1

// leastNames are how many a call's paths must have.
func leastNames(op int) (path, to int) {
	switch op {
	case api.OpSync, api.OpStatfs:
		return whatever, whatever
	case api.OpLink, api.OpRename:
		return 1, 1
	case api.OpCreate, api.OpMkdir, api.OpUnlink:
		return 1, whatever
	}
	return 0, whatever
}

// split tells a path's names, and whether they are as many as they must be.
func split(path string, least int) ([]string, bool) {
	l, ok := entry.Split(path)
	return l, least == whatever || ok && len(l) >= least
}

// numbers tells what is wrong with those of a call.
func numbers(c api.Call) api.Errno {
	arg, size := c.Op < api.OpCreate || c.Op > api.OpStatfs, false
	switch c.Op {
	case api.OpRead:
		arg = c.At < 0 || c.N < 0 || c.N > api.MaxSize
	case api.OpWrite:
		arg, size = c.At < 0, c.At > api.MaxSize-len(c.Data)
	case api.OpTruncate:
		arg, size = c.N < 0, c.N > api.MaxSize
	}
	switch {
	case arg:
		return api.ErrArg
	case size:
		return api.ErrSize
	}
	return api.OK
}

// ask is a call, looked at as far as it goes without a disk.
func ask(c api.Call) (asked, api.Errno) {
	least, leastTo := leastNames(c.Op)
	path, ok := split(c.Path, least)
	to, okTo := split(c.To, leastTo)
	if !ok || !okTo {
		return asked{}, api.ErrArg
	}
	return asked{c, path, to}, numbers(c)
}

package view

import (
	"lockgate/api"
	"lockgate/pack"
)

// two is a number that Check keeps small, as bytes.
func two(n int) string { return pack.Two(uint16(n)) }

// eight is a number that Check keeps from 0 on, as bytes.
func eight(n int) string { return pack.Eight(uint64(n)) }

// mark is what stands for whether a member is ready.
func mark(ready bool) string {
	if ready {
		return two(1)
	}
	return two(0)
}

// Bytes is a view as bytes.
func Bytes(v api.View) (string, api.Errno) {
	if e := Check(v); e != api.OK {
		return "", e
	}
	s := two(v.Nodes) + eight(v.Epoch)
	for _, n := range v.Incs {
		s += eight(n)
	}
	s += two(len(v.Members))
	for _, m := range v.Members {
		s += two(m.Node) + eight(m.Inc) + mark(m.Ready)
	}
	s += two(len(v.Dead))
	for _, d := range v.Dead {
		s += two(d.Node) + eight(d.Inc)
	}
	return s, api.OK
}

// row is a list of what so many readings tell. Of more than there may be not even these are read, so that a wrong number costs nothing.
func row[T any](many, most int, read func() T) []T {
	if many > most {
		return nil
	}
	l := make([]T, many)
	for i := range l {
		l[i] = read()
	}
	return l
}

// Read is the view whose bytes s is.
func Read(s string) (api.View, api.Errno) {
	r := pack.Read(s)
	count := func() int { return r.Eight(api.MaxEpoch) }
	dead := func() api.Member { return api.Member{Node: r.Two(), Inc: count()} }
	member := func() api.Member {
		m := dead()
		m.Ready = r.Two() == 1
		return m
	}
	v := api.View{Nodes: r.Two(), Epoch: count()}
	v.Incs = row(v.Nodes, api.MaxNodes, count)
	v.Members = row(r.Two(), api.MaxNodes, member)
	v.Dead = row(r.Two(), api.MaxDead, dead)
	// Written anew it shows at once whether it may be, and whether all of s was read, and nothing else was meant by it.
	again, e := Bytes(v)
	if e != api.OK || again != s {
		return api.View{}, api.ErrForm
	}
	return v, api.OK
}

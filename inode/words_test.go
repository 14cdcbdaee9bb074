package inode_test

import (
	"encoding/binary"
	"math"
	"slices"

	"lockgate/api"
)

// far are numbers that nothing of an inode may have.
var far = []int{math.MinInt, math.MinInt + 1, -1 << 40, -65536, -1001, -513, -512, -3, -2, -1, 65536, 65537, 1 << 31, 1 << 32, 1<<32 + 1, 1<<32 + 2, 1 << 40, math.MaxInt - 1, math.MaxInt}

// needs is how many sectors so many bytes need, counted one by one, for few bytes.
func needs(size int) int {
	n := 0
	for 512*n < size {
		n++
	}
	return n
}

// mayBe tells whether an inode may be, by the chapter's words.
func mayBe(n api.Inode) bool {
	if n.Kind != 1 && n.Kind != 2 || n.Links < 1 || n.Links > 1000 || n.Kind == 2 && n.Links != 1 || n.Size < 0 || n.Size > 6144 || len(n.Data) != needs(n.Size) {
		return false
	}
	there := map[int]bool{}
	for _, sector := range n.Data {
		if sector < 0 || sector > 65535 || there[sector] {
			return false
		}
		there[sector] = true
	}
	return true
}

// written are an inode's bytes, also of one that may not be.
func written(n api.Inode) string {
	b := binary.BigEndian.AppendUint16([]byte("LGI1"), uint16(n.Kind))
	b = binary.BigEndian.AppendUint16(b, uint16(n.Links))
	b = binary.BigEndian.AppendUint32(b, uint32(n.Size))
	for _, sector := range n.Data {
		b = binary.BigEndian.AppendUint32(b, uint32(sector))
	}
	return string(b)
}

// readAs is what inode these bytes are, by the chapter's words.
func readAs(s string) (api.Inode, bool) {
	if len(s) < 12 || len(s)%4 != 0 || s[:4] != "LGI1" {
		return api.Inode{}, false
	}
	n := api.Inode{Kind: int(binary.BigEndian.Uint16([]byte(s[4:]))), Links: int(binary.BigEndian.Uint16([]byte(s[6:]))), Size: int(binary.BigEndian.Uint32([]byte(s[8:])))}
	for i := 12; i < len(s); i += 4 {
		n.Data = append(n.Data, int(binary.BigEndian.Uint32([]byte(s[i:]))))
	}
	if n.Size > 6144 || !mayBe(n) {
		return api.Inode{}, false
	}
	return n, true
}

// same tells whether two inodes are the same.
func same(a, b api.Inode) bool {
	return a.Kind == b.Kind && a.Links == b.Links && a.Size == b.Size && slices.Equal(a.Data, b.Data)
}

// rising are n numbers from one on.
func rising(from, n int) []int {
	l := make([]int, n)
	for i := range l {
		l[i] = from + i
	}
	return l
}

// file and folder are inodes of so many bytes.
func file(links, size int) api.Inode {
	return api.Inode{Kind: 1, Links: links, Size: size, Data: rising(300, needs(size))}
}

func folder(size int) api.Inode {
	return api.Inode{Kind: 2, Links: 1, Size: size, Data: rising(300, needs(size))}
}

// right are inodes that may be: with sizes and sectors at the edges.
func right() []api.Inode {
	var l []api.Inode
	for _, size := range []int{0, 1, 2, 255, 256, 511, 512, 513, 1023, 1024, 1025, 5632, 5633, 6143, 6144} {
		l = append(l, file(1, size), file(2, size), file(999, size), file(1000, size), folder(size))
	}
	for _, data := range [][]int{{0}, {65535}, {255}, {256}} {
		l = append(l, api.Inode{Kind: 1, Links: 3, Size: 512, Data: data}, api.Inode{Kind: 2, Links: 1, Size: 1, Data: data})
	}
	for _, data := range [][]int{{0, 65535}, {65535, 0}, {9, 8}, {256, 1}} {
		l = append(l, api.Inode{Kind: 1, Links: 3, Size: 1000, Data: data})
	}
	return append(l, api.Inode{Kind: 1, Links: 1, Size: 6144, Data: []int{11, 3, 65535, 0, 1, 2, 512, 256, 257, 4, 9, 65534}})
}

// draws are numbers that look like chance, the same at each run.
type draws uint64

func (d *draws) next() uint32 {
	*d = *d*6364136223846793005 + 1442695040888963407
	return uint32(*d >> 32)
}

func (d *draws) below(n int) int { return int(d.next()>>1) % n }

// text is one of n bytes, drawn or all alike.
func (d *draws) text(n int) string {
	b := make([]byte, n)
	alike := d.below(3) == 0
	for i := range b {
		if b[i] = byte(d.next()); alike {
			b[i] = []byte{0, 0, 255}[n%3]
		}
	}
	return string(b)
}

// inode is one that may be, drawn.
func (d *draws) inode() api.Inode {
	n := file(1+d.below(1000), d.below(6145))
	if d.below(3) == 0 {
		n = folder(n.Size)
	}
	from, step := d.below(60000), 1+d.below(400)
	for i := range n.Data {
		n.Data[i] = from + i*step
	}
	return n
}

package inode_test

import (
	"bytes"
	"math"
	"slices"
	"testing"

	"lazaret/api"
	"lazaret/inode"
)

// What the calls must answer, told by the chapter's words; nodes at all edges; and what holds the one against the other.

// extremes: numbers near the ends of their type, with which a sum could run over, or that look like another one in fewer bytes.
func extremes() []int {
	var l []int
	for _, x := range []int{math.MinInt, math.MinInt / 2, math.MinInt32, -1 << 32, 1 << 16, 1 << 31, 1 << 32, 1 << 62, math.MaxInt - 8192} {
		for _, y := range []int{0, 1, 2, 3, 64, 99, 128, 256, 8192} {
			l = append(l, x+y)
		}
	}
	return append(l, math.MaxInt-1, math.MaxInt32, math.MaxUint32, -2, -64, -128, -255, -256, -8192, 127, 128, 255, 257, 258, 65535)
}

// The edges that a part of a node has.
func numbers() []int    { return []int{-1, 0, 1, 64, 65} }
func kinds() []int      { return []int{0, 1, 2, 3, 4} }
func linkCounts() []int { return []int{-1, 0, 1, 99, 100} }
func copyCounts() []int { return []int{0, 1, 2, 3} }
func sizes() []int      { return []int{-1, 0, 1, 255, 256, 8191, 8192, 8193} }

func hole() api.Ptr { return api.Ptr{A: -1, B: -1} }

// sums: zeros, those that are zeros but for one byte, and others.
func sums() []api.Sum {
	return []api.Sum{{}, {0: 1}, {31: 1}, api.Sum(bytes.Repeat([]byte{255}, 32)), api.Sum(pattern(32))}
}

// pattern: n bytes, none of them 0, and none like its neighbours.
func pattern(n int) []byte {
	b := make([]byte, n)
	for i := range b {
		b[i] = byte(1 + (7*i+3)%250)
	}
	return b
}

// rightRoots: some right pointers, at the edges of what they may be; none like another one.
func rightRoots() []api.Ptr {
	l := []api.Ptr{hole()}
	for _, x := range [][2]int{{0, -1}, {30, -1}, {4095, -1}, {0, 1}, {1, 0}, {30, 40}, {0, 4095}, {4095, 4094}, {255, 256}} {
		for _, s := range sums() {
			l = append(l, api.Ptr{A: x[0], B: x[1], Sum: s})
		}
	}
	return l
}

// wrongRoots: pointers that aren't right, for one reason each.
func wrongRoots() []api.Ptr {
	l := []api.Ptr{{}}
	for _, s := range sums() {
		if s != (api.Sum{}) {
			l = append(l, api.Ptr{A: -1, B: -1, Sum: s})
		}
		for _, n := range []int{0, 30, 4095} {
			l = append(l, api.Ptr{A: n, B: n, Sum: s}, api.Ptr{A: -1, B: n, Sum: s})
		}
		for _, n := range []int{-2, 4096, 4097, math.MinInt, math.MaxInt, math.MaxUint32, 1<<32 + 30, -1 << 32} {
			l = append(l, api.Ptr{A: n, B: -1, Sum: s}, api.Ptr{A: n, B: 30, Sum: s}, api.Ptr{A: 30, B: n, Sum: s}, api.Ptr{A: -1, B: n, Sum: s})
		}
	}
	return l
}

// rights: nodes that are right, at the edges of what each part may be; none like another one.
func rights() []api.Inode {
	var l []api.Inode
	for _, kind := range []int{1, 2, 3} {
		for _, copies := range []int{1, 2} {
			if kind != 1 && copies == 1 {
				continue
			}
			for _, links := range []int{0, 1, 98, 99} {
				for _, size := range []int{0, 1, 127, 128, 129, 255, 256, 257, 4096, 8191, 8192} {
					for i, root := range rightRoots() {
						number := 1 + (links+size+17*i)%64
						l = append(l, api.Inode{Number: number, Kind: kind, Links: links, Stem: api.Stem{Root: root, Size: size, Copies: copies}})
					}
				}
			}
		}
	}
	return l
}

// some: a few right nodes, of all kinds: without bytes, and with as many as may be.
func some() []api.Inode {
	root := api.Ptr{A: 258, B: 4095, Sum: api.Sum(pattern(32))}
	return []api.Inode{
		{Number: 1, Kind: 2, Links: 1, Stem: api.Stem{Root: hole(), Size: 0, Copies: 2}},
		{Number: 64, Kind: 1, Links: 0, Stem: api.Stem{Root: hole(), Size: 0, Copies: 1}},
		{Number: 2, Kind: 1, Links: 99, Stem: api.Stem{Root: root, Size: 8192, Copies: 1}},
		{Number: 63, Kind: 1, Links: 1, Stem: api.Stem{Root: root, Size: 300, Copies: 2}},
		{Number: 7, Kind: 3, Links: 98, Stem: api.Stem{Root: api.Ptr{A: 4095, B: -1}, Size: 240, Copies: 2}},
		{Number: 33, Kind: 2, Links: 0, Stem: api.Stem{Root: root, Size: 8191, Copies: 2}},
	}
}

// wrong: a node that isn't right, and why not.
type wrong struct {
	why string
	n   api.Inode
}

// wrongs: right nodes of which one part alone isn't what it may be.
func wrongs() []wrong {
	var l []wrong
	for _, was := range some() {
		with := func(why string, how func(n *api.Inode)) {
			n := was
			how(&n)
			l = append(l, wrong{why, n})
		}
		for _, x := range append(extremes(), -1, 0, 65, 66) {
			with("number", func(n *api.Inode) { n.Number = x })
		}
		for _, x := range append(extremes(), -1, 0, 4, 5) {
			with("kind", func(n *api.Inode) { n.Kind = x })
		}
		for _, x := range append(extremes(), -1, 100, 101) {
			with("links", func(n *api.Inode) { n.Links = x })
		}
		for _, x := range append(extremes(), -1, 0, 3, 4) {
			with("copies", func(n *api.Inode) { n.Stem.Copies = x })
		}
		for _, x := range append(extremes(), -1, 8193, 8194, 8192+256, 16384) {
			with("size", func(n *api.Inode) { n.Stem.Size = x })
		}
		for _, x := range wrongRoots() {
			with("root", func(n *api.Inode) { n.Stem.Root = x })
		}
		if was.Kind != 1 {
			with("once", func(n *api.Inode) { n.Stem.Copies = 1 })
		}
	}
	// Some of the extremes may be a part after all, as 128 bytes.
	return slices.DeleteFunc(l, func(x wrong) bool { return x.why == "size" && x.n.Stem.Size >= 0 && x.n.Stem.Size <= 8192 })
}

func within(x, from, to int) bool { return x >= from && x <= to }

func rightRoot(p api.Ptr) bool {
	if p.A == -1 && p.B == -1 {
		return bytes.Equal(p.Sum[:], make([]byte, 32))
	}
	return within(p.A, 0, 4095) && (p.B == -1 || within(p.B, 0, 4095) && p.A != p.B)
}

// right: is it a node as the chapter says?
func right(n api.Inode) bool {
	if !within(n.Number, 1, 64) || !within(n.Kind, 1, 3) || !within(n.Links, 0, 99) {
		return false
	}
	if n.Kind != 1 && n.Stem.Copies != 2 {
		return false
	}
	return rightRoot(n.Stem.Root) && within(n.Stem.Size, 0, 8192) && within(n.Stem.Copies, 1, 2)
}

// four: a number's bytes, as far as there is room.
func four(n int) []byte { return []byte{byte(n), byte(n >> 8), byte(n >> 16), byte(n >> 24)} }

// bytesOf: a node's, right or not, as far as its parts have room.
func bytesOf(n api.Inode) [64]byte {
	b := []byte{byte(n.Kind), byte(n.Links), byte(n.Stem.Copies), 0}
	b = slices.Concat(b, four(n.Stem.Size), four(n.Stem.Root.A), four(n.Stem.Root.B), n.Stem.Root.Sum[:], make([]byte, 16))
	return [64]byte(b)
}

// fits: has each part of a node room where it stands, and isn't it taken for another one there?
func fits(n api.Inode) bool {
	if !within(n.Kind, 0, 255) || !within(n.Links, 0, 255) || !within(n.Stem.Copies, 0, 255) || !within(n.Stem.Size, 0, math.MaxUint32) {
		return false
	}
	return within(n.Stem.Root.A, -1, math.MaxUint32-1) && within(n.Stem.Root.B, -1, math.MaxUint32-1)
}

func putOf(n api.Inode) ([64]byte, api.Errno) {
	if !right(n) {
		return [64]byte{}, api.ErrArg
	}
	return bytesOf(n), api.OK
}

// number: the one that stands in four bytes.
func number(b []byte) int {
	return int(b[0]) + 256*int(b[1]) + 65536*int(b[2]) + 16777216*int(b[3])
}

// side: the sector that stands in four bytes, or none.
func side(b []byte) int {
	if bytes.Equal(b, []byte{255, 255, 255, 255}) {
		return -1
	}
	return number(b)
}

func takeOf(b [64]byte, as int) (api.Inode, api.Errno) {
	if !within(as, 1, 64) {
		return api.Inode{}, api.ErrArg
	}
	if bytes.Equal(b[:], make([]byte, 64)) {
		return api.Inode{}, api.ErrNoEnt
	}
	root := api.Ptr{A: side(b[8:12]), B: side(b[12:16]), Sum: api.Sum(b[16:48])}
	n := api.Inode{Number: as, Kind: int(b[0]), Links: int(b[1]), Stem: api.Stem{Root: root, Size: number(b[4:8]), Copies: int(b[2])}}
	if b[3] != 0 || !bytes.Equal(b[48:], make([]byte, 16)) || !right(n) {
		return api.Inode{}, api.ErrForm
	}
	return n, api.OK
}

func statOf(n api.Inode, blocks int) (api.Stat, api.Errno) {
	if !right(n) || blocks < 0 {
		return api.Stat{}, api.ErrArg
	}
	return api.Stat{Number: n.Number, Kind: n.Kind, Copies: n.Stem.Copies, Links: n.Links, Size: n.Stem.Size, Blocks: blocks}, api.OK
}

func newOf(as, kind int) (api.Inode, api.Errno) {
	if !within(as, 1, 64) || !within(kind, 1, 3) {
		return api.Inode{}, api.ErrArg
	}
	copies := 2
	if kind == 1 {
		copies = 1
	}
	return api.Inode{Number: as, Kind: kind, Links: 0, Stem: api.Stem{Root: hole(), Size: 0, Copies: copies}}, api.OK
}

// checkNode: what is answered of a node, and of its bytes, by all calls that take it.
func checkNode(t *testing.T, n api.Inode) {
	t.Helper()
	was := n
	if got := inode.Right(n); got != right(was) {
		t.Errorf("%+v: right: %v", n, got)
	}
	want, code := putOf(n)
	if b, e := inode.Put(n); b != want || e != code {
		t.Errorf("put %+v: %x %v, not %x %v", n, b, e, want, code)
	}
	for _, blocks := range []int{-1, 0, 1, math.MaxInt} {
		checkStat(t, n, blocks)
	}
	if n != was {
		t.Errorf("%+v became %+v", was, n)
	}
}

func checkStat(t *testing.T, n api.Inode, blocks int) {
	t.Helper()
	want, code := statOf(n, blocks)
	if s, e := inode.Stat(n, blocks); s != want || e != code {
		t.Errorf("stat %+v with %d: %+v %v, not %+v %v", n, blocks, s, e, want, code)
	}
}

// checkTake: what is taken of bytes, by a number; and what was taken is put as these.
func checkTake(t *testing.T, b [64]byte, as int) {
	t.Helper()
	was := b
	want, code := takeOf(b, as)
	n, e := inode.Take(b, as)
	if n != want || e != code {
		t.Errorf("take %x as %d: %+v %v, not %+v %v", b, as, n, e, want, code)
	}
	if b != was {
		t.Errorf("%x became %x", was, b)
	}
	if e != api.OK {
		return
	}
	if back, e := inode.Put(n); back != b || e != api.OK {
		t.Errorf("%x is taken, and put as %x %v", b, back, e)
	}
}

func checkNew(t *testing.T, as, kind int) {
	t.Helper()
	want, code := newOf(as, kind)
	if n, e := inode.New(as, kind); n != want || e != code {
		t.Errorf("new %d of kind %d: %+v %v, not %+v %v", as, kind, n, e, want, code)
	}
}

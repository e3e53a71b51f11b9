package folder_test

import (
	"bytes"
	"fmt"
	"math"
	"slices"
	"testing"

	"lazaret/api"
	"lazaret/disk"
	"lazaret/ptr"
	"lazaret/remap"
	"lazaret/vol"
)

// Tables and their nodes' bytes, laid on volumes, and read there, by the chapters' words, with nothing of the packages stem, flow, inode, table and entry.

var hole = api.Ptr{A: -1, B: -1}

// empty: a table of no bytes.
func empty() api.Stem { return api.Stem{Root: hole, Copies: 2} }

// laid: where a stem's nodes and its leaves are.
type laid struct {
	stem          api.Stem
	nodes, leaves []api.Ptr
}

// planted: a table on a new volume, flushed; and where its blocks are (at 0), and those of all its nodes.
func planted(t *testing.T, q int, x plain) (api.Vol, api.Stem, [65]laid) {
	t.Helper()
	v := fresh(t, q)
	var l [65]laid
	b := make([]byte, len(x.shape()))
	for number, n := range x.at {
		raw := n.bad
		if n.kind > 0 {
			l[number] = grow(t, &v, n.b, n.keeps())
			raw = recordOf(n.kind, n.links, l[number].stem)
		}
		if number > 0 && 64*number <= len(b) {
			copy(b[64*(number-1):], raw[:])
		}
	}
	l[0] = grow(t, &v, b, x.copies)
	flush(t, &v)
	return v, l[0].stem, l
}

// grow: a stem of bytes.
func grow(t *testing.T, v *api.Vol, b []byte, copies int) laid {
	t.Helper()
	var l laid
	for _, x := range leavesOf(b) {
		l.leaves = append(l.leaves, add(t, v, x, copies))
	}
	level := l.leaves
	for len(level) > 1 {
		var above []api.Ptr
		for parts := range slices.Chunk(level, 3) {
			p := hole
			if slices.ContainsFunc(parts, func(p api.Ptr) bool { return p != hole }) {
				b, e := ptr.Node(parts...)
				if e != api.OK {
					t.Fatal(e)
				}
				p = add(t, v, b, 2)
				l.nodes = append(l.nodes, p)
			}
			above = append(above, p)
		}
		level = above
	}
	l.stem = api.Stem{Root: hole, Size: len(b), Copies: copies}
	if len(level) > 0 {
		l.stem.Root = level[0]
	}
	return l
}

// stands: each node of the table is that data's, and each tree is as layer 10 says of its bytes.
func stands(t *testing.T, v api.Vol, s api.Stem, x plain) {
	t.Helper()
	shape := x.shape()
	if s.Size != len(shape) || s.Copies != x.copies {
		t.Fatalf("the table: %s, not of %d bytes, %d times", toldStem(s), len(shape), x.copies)
	}
	b := append(bytesAt(t, v, s), make([]byte, 64*64)...)
	for number := 1; number <= 64; number++ {
		raw, n := [64]byte(b[64*(number-1):]), x.at[number]
		if n.kind == 0 {
			if raw != n.bad {
				t.Fatalf("%d: % x, not % x", number, raw, n.bad)
			}
			continue
		}
		s := stemOf(raw)
		if raw != recordOf(n.kind, n.links, s) || s.Size != len(n.b) || s.Copies != n.keeps() {
			t.Fatalf("%d: % x, not of kind %d, %d links, %d bytes", number, raw, n.kind, n.links, len(n.b))
		}
		if got := bytesAt(t, v, s); !bytes.Equal(got, n.b) {
			t.Fatalf("%d: the bytes % x, not % x", number, got, n.b)
		}
	}
}

// bytesAt: the bytes of a stem, whose tree must be as layer 10 says: there are just as many blocks as these ask for.
func bytesAt(t *testing.T, v api.Vol, s api.Stem) []byte {
	t.Helper()
	depth, wide := 0, 128
	for ; wide < s.Size; wide *= 3 {
		depth++
	}
	var from func(p api.Ptr, depth, wide int) []byte
	from = func(p api.Ptr, depth, wide int) []byte {
		if p == hole {
			return make([]byte, wide)
		}
		x, e := vol.Get(&v, p)
		if e != api.OK {
			t.Fatalf("%s: %v", toldStem(s), e)
		}
		if depth == 0 {
			if x == (api.Block{}) || (p.B == -1) != (s.Copies == 1) {
				t.Fatalf("%s: the leaf at %d and %d", toldStem(s), p.A, p.B)
			}
			return x[:]
		}
		parts, e := ptr.Parts(x)
		if e != api.OK || p.B == -1 || parts == [3]api.Ptr{hole, hole, hole} {
			t.Fatalf("%s: the node at %d and %d: %v", toldStem(s), p.A, p.B, e)
		}
		var b []byte
		for _, part := range parts {
			b = append(b, from(part, depth-1, wide/3)...)
		}
		return b
	}
	b := from(s.Root, depth, wide)
	if len(bytes.Trim(b[s.Size:], "\x00")) > 0 || s.Size == 0 && s.Root != hole {
		t.Fatalf("%s: something stands behind its bytes", toldStem(s))
	}
	return b[:s.Size]
}

// recordOf: the bytes of a node, as layer 13 says.
func recordOf(kind, links int, s api.Stem) [64]byte {
	b := [64]byte{byte(kind), byte(links), byte(s.Copies)}
	for i := range 4 {
		b[4+i], b[8+i], b[12+i] = byte(s.Size>>(8*i)), byte(s.Root.A>>(8*i)), byte(s.Root.B>>(8*i))
	}
	copy(b[16:48], s.Root.Sum[:])
	return b
}

// stemOf: what the bytes of a node say of its stem.
func stemOf(b [64]byte) api.Stem {
	number := func(at int) int {
		return int(int32(uint32(b[at]) | uint32(b[at+1])<<8 | uint32(b[at+2])<<16 | uint32(b[at+3])<<24))
	}
	return api.Stem{Root: api.Ptr{A: number(8), B: number(12), Sum: api.Sum(b[16:48])}, Size: number(4), Copies: int(b[2])}
}

// leavesOf: bytes in blocks; what is left over of the last one is zeros.
func leavesOf(b []byte) []api.Block {
	var l []api.Block
	for piece := range slices.Chunk(b, 128) {
		var x api.Block
		copy(x[:], piece)
		l = append(l, x)
	}
	return l
}

// levels: what the blocks of a stem of these bytes stand for, from the leaves up to the root: of each the bytes beneath it without the zeros at their end.
func levels(b []byte) [][]string {
	var level []string
	for _, x := range leavesOf(b) {
		level = append(level, string(x[:]))
	}
	l := [][]string{level}
	for wide := 128; len(level) > 1; wide *= 3 {
		var above []string
		for three := range slices.Chunk(level, 3) {
			s := ""
			for i, part := range three {
				s += string(make([]byte, i*wide-len(s))) + part
			}
			above = append(above, s)
		}
		l, level = append(l, above), above
	}
	for _, level := range l {
		for i, s := range level {
			level[i] = string(bytes.TrimRight([]byte(s), "\x00"))
		}
	}
	return l
}

// sectors: how many a stem of these bytes asks for.
func sectors(b []byte, copies int) int {
	n := 0
	for depth, level := range levels(b) {
		for _, s := range level {
			if s != "" && depth == 0 {
				n += copies
			} else if s != "" {
				n += 2
			}
		}
	}
	return n
}

// anew: how many blocks a stem of bytes has that one of the bytes was doesn't have: so many must be laid at least.
func anew(b, was []byte) int {
	old, n := levels(was), 0
	for depth, level := range levels(b) {
		for i, s := range level {
			if s != "" && (depth >= len(old) || i >= len(old[depth]) || old[depth][i] != s) {
				n++
			}
		}
	}
	return n
}

func add(t *testing.T, v *api.Vol, b api.Block, copies int) api.Ptr {
	t.Helper()
	p, e := vol.Add(v, b, copies)
	if e != api.OK {
		t.Fatal(copies, e)
	}
	return p
}

func fresh(t *testing.T, q int) api.Vol {
	t.Helper()
	v, e := vol.New(q)
	if e != api.OK {
		t.Fatal(q, e)
	}
	return v
}

func flush(t *testing.T, v *api.Vol) {
	t.Helper()
	if e := disk.Flush(&v.Disk); e != api.OK {
		t.Fatal(e)
	}
}

// hit: sectors, wherever they stand by now, rot (1), can't be read (2), or can't be written (3).
func hit(t *testing.T, v *api.Vol, kind int, at ...int) {
	t.Helper()
	for _, n := range at {
		if e := disk.Hit(&v.Disk, remap.At(v.Map, n), kind, (n*11)%128, 1<<(n%8)); e != api.OK {
			t.Fatal(n, kind, e)
		}
	}
}

// unread: the same volume, in which no copy of that block can be read.
func unread(t *testing.T, v api.Vol, p api.Ptr) api.Vol {
	t.Helper()
	v = copied(v)
	hit(t, &v, 1+p.A%2, sectorsOf(p)...)
	return v
}

// sectorsOf: a pointer's.
func sectorsOf(p api.Ptr) []int {
	return slices.DeleteFunc([]int{p.A, p.B}, func(at int) bool { return at == -1 })
}

// crowded: the same volume, in which so many sectors of each region are free, the last ones, and no others are in use.
func crowded(v api.Vol, room [2]int) api.Vol {
	v = copied(v)
	for r, left := range room {
		for i := (r+1)*v.Space.Size - 1; i >= r*v.Space.Size; i-- {
			if v.Space.State[i] != api.Free {
				continue
			}
			if left--; left < 0 {
				v.Space.State[i] = api.Leaving
			}
		}
	}
	return v
}

// down: the same volume without power.
func down(v api.Vol) api.Vol {
	v = copied(v)
	v.Disk.Down = true
	return v
}

// room: how much stands behind lists that are handed in; no call may change it.
const room = 3

// roomy: the same volume in lists of their own, with something in the room behind them.
func roomy(v api.Vol) api.Vol {
	v = copied(v)
	for i := range room {
		v.Disk.Sectors = append(v.Disk.Sectors, api.Sector{Data: api.Block{byte(i)}, NoRead: true})
		v.Disk.Cache = append(v.Disk.Cache, api.Write{Data: api.Block{9, byte(i)}})
		v.Map.Pairs = append(v.Map.Pairs, api.Pair{From: 700 + i, To: -i})
		v.Space.State = append(v.Space.State, 9)
	}
	v.Disk.Sectors = v.Disk.Sectors[:len(v.Disk.Sectors)-room]
	v.Disk.Cache = v.Disk.Cache[:len(v.Disk.Cache)-room]
	v.Map.Pairs = v.Map.Pairs[:len(v.Map.Pairs)-room]
	v.Space.State = v.Space.State[:len(v.Space.State)-room]
	return v
}

// whole: what stands in a volume's lists, and in the room behind them, in lists of its own.
func whole(v api.Vol) api.Vol {
	v.Disk.Sectors = v.Disk.Sectors[:len(v.Disk.Sectors)+room]
	v.Disk.Cache = v.Disk.Cache[:len(v.Disk.Cache)+room]
	v.Map.Pairs = v.Map.Pairs[:len(v.Map.Pairs)+room]
	v.Space.State = v.Space.State[:len(v.Space.State)+room]
	return copied(v)
}

// copied: the same volume in lists of their own.
func copied(v api.Vol) api.Vol {
	v.Disk.Sectors, v.Disk.Cache = slices.Clone(v.Disk.Sectors), slices.Clone(v.Disk.Cache)
	v.Map.Pairs, v.Space.State = slices.Clone(v.Map.Pairs), slices.Clone(v.Space.State)
	return v
}

// spoil: makes other lists of those that a call changed.
func spoil(v, old api.Vol) {
	if !sameDisk(v.Disk, old.Disk) {
		for i := range v.Disk.Cache {
			v.Disk.Cache[i].Data[5] ^= 0x55
		}
	}
	if !slices.Equal(v.Map.Pairs, old.Map.Pairs) {
		clear(v.Map.Pairs)
	}
	if !sameSpace(v.Space, old.Space) {
		for i := range v.Space.State {
			v.Space.State[i] ^= 0x40
		}
	}
}

func sameDisk(a, b api.Disk) bool {
	return a.Fuse == b.Fuse && a.Down == b.Down && slices.Equal(a.Sectors, b.Sectors) && slices.Equal(a.Cache, b.Cache)
}

func sameSpace(a, b api.Space) bool {
	return a.At == b.At && a.Size == b.Size && bytes.Equal(a.State, b.State)
}

func same(a, b api.Vol) bool {
	return sameDisk(a.Disk, b.Disk) && a.Map.Gen == b.Map.Gen && slices.Equal(a.Map.Pairs, b.Map.Pairs) && sameSpace(a.Space, b.Space)
}

func toldStem(s api.Stem) string {
	return fmt.Sprintf("stem of %d bytes, %d times, from %d and %d on", s.Size, s.Copies, s.Root.A, s.Root.B)
}

// extremes: numbers far from all that are right, or that look like one in fewer bytes.
func extremes() []int {
	l := []int{-8192, -129, -128, -65, -64, -63, -3, -2, -1, 8193, 8194, 8320, 16384, 65536, 65537, math.MaxInt - 1, math.MaxInt}
	for _, x := range []int{math.MinInt, math.MinInt / 2, math.MinInt32, -1 << 32, 1 << 31, 1 << 32, 1 << 58, 1 << 62, math.MaxInt - 8192} {
		for _, y := range []int{0, 1, 2, 3, 64, 65, 128, 4096} {
			l = append(l, x+y)
		}
	}
	return l
}

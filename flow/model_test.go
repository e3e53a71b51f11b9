package flow_test

import (
	"bytes"
	"fmt"
	"math"
	"slices"
	"testing"

	"lazaret/api"
	"lazaret/disk"
	"lazaret/flow"
	"lazaret/ptr"
	"lazaret/remap"
	"lazaret/space"
	"lazaret/stem"
	"lazaret/vol"
)

// What the bytes of stems must be, told as plain data and by the chapters' words; and what holds the calls against it.

var hole = api.Ptr{A: -1, B: -1}

// plain: a stem as plain data.
type plain struct {
	b      []byte
	copies int
}

func (x plain) cut(size int) plain {
	b := make([]byte, size)
	copy(b, x.b)
	return plain{b, x.copies}
}

func (x plain) written(off int, b []byte) plain {
	if len(b) == 0 {
		return x
	}
	next := x.cut(max(len(x.b), off+len(b)))
	copy(next.b[off:], b)
	return next
}

func (x plain) filled(b []byte) plain { return plain{slices.Clone(b), x.copies} }

// leaves: its bytes in blocks; what is left over of the last one is zeros.
func (x plain) leaves() []api.Block {
	var l []api.Block
	for at := 0; at < len(x.b); at += 128 {
		var b api.Block
		copy(b[:], x.b[at:])
		l = append(l, b)
	}
	return l
}

func (x plain) holes() []int {
	var l []int
	for i, b := range x.leaves() {
		if b == (api.Block{}) {
			l = append(l, i)
		}
	}
	return l
}

// levels: what its blocks stand for, from the leaves up to the root: of each the bytes beneath it without the zeros at their end.
func (x plain) levels() [][]string {
	var level []string
	for _, b := range x.leaves() {
		level = append(level, string(b[:]))
	}
	l := [][]string{level}
	for wide := 128; len(level) > 1; wide *= 3 {
		var above []string
		for three := range slices.Chunk(level, 3) {
			s := ""
			for i, part := range three {
				s += string(make([]byte, i*wide-len(s))) + part
			}
			above = append(above, s)
		}
		l, level = append(l, above), above
	}
	for _, level := range l {
		for i, s := range level {
			level[i] = string(bytes.TrimRight([]byte(s), "\x00"))
		}
	}
	return l
}

// sectors: how many the stem asks for.
func (x plain) sectors() int {
	n := 0
	for depth, level := range x.levels() {
		for _, s := range level {
			if s != "" && depth == 0 {
				n += x.copies
			} else if s != "" {
				n += 2
			}
		}
	}
	return n
}

func (x plain) depth() int { return len(x.levels()) - 1 }

// anew: how many blocks the stem has, which is kept so many times, that the stem were was doesn't have: so many must be laid at least.
func (x plain) anew(was plain) (leaves, nodes int) {
	old := was.levels()
	for depth, level := range x.levels() {
		for i, s := range level {
			if s == "" || depth < len(old) && i < len(old[depth]) && old[depth][i] == s {
				continue
			}
			if depth == 0 {
				leaves++
			} else {
				nodes++
			}
		}
	}
	return leaves, nodes
}

// full: is there no room for what must be laid at least? What is there once is laid in the first region as long as that has room; nodes are laid twice.
func (x plain) full(was plain, room [2]int) bool {
	leaves, nodes := x.anew(was)
	if x.copies == 2 {
		return leaves+nodes > min(room[0], room[1])
	}
	return nodes > min(room[0], room[1]) || leaves+2*nodes > room[0]+room[1]
}

// roomFor: is there room for all leaves that a call may lay, each laid alone with its way, and for another way when the stem gets longer or shorter?
func (x plain) roomFor(was plain, leaves int, room [2]int) bool {
	depth := max(x.depth(), was.depth())
	return leaves*(1+depth)+depth <= min(room[0], room[1])
}

// touched: how many leaves have some of the bytes.
func touched(off, n int) int {
	if n == 0 {
		return 0
	}
	return (off+n-1)/128 - off/128 + 1
}

// answer: what a call answers, as far as it does.
type answer struct {
	b     []byte
	holes []int
	code  api.Errno
}

func (a answer) is(b answer) bool {
	return bytes.Equal(a.b, b.b) && slices.Equal(a.holes, b.holes) && a.code == b.code
}

// call: one of the calls with its arguments; what it makes of plain data, and answers; how many leaves it lays at most; and whether it must read the i-th one.
type call struct {
	name  string
	run   func(v *api.Vol, s *api.Stem) answer
	must  func(x plain) (plain, answer)
	lays  int
	reads func(x plain, i int) bool
}

// some: has the i-th leaf some of the bytes from lo to ahead of hi?
func some(i, lo, hi int) bool { return lo < hi && lo < 128*i+128 && hi > 128*i }

func reading(off, n int) call {
	return call{
		name: fmt.Sprintf("read %d, %d", off, n),
		run: func(v *api.Vol, s *api.Stem) answer {
			if s == nil {
				s = &api.Stem{}
			}
			b, e := flow.Read(v, *s, off, n)
			return answer{b: b, code: e}
		},
		must: func(x plain) (plain, answer) {
			if off < 0 || n < 0 {
				return x, answer{code: api.ErrArg}
			}
			if off >= len(x.b) {
				return x, answer{}
			}
			if n > len(x.b)-off {
				return x, answer{b: x.b[off:]}
			}
			return x, answer{b: x.b[off : off+n]}
		},
		reads: func(x plain, i int) bool {
			return off < len(x.b) && some(i, off, off+min(n, len(x.b)-off))
		},
	}
}

func writing(off int, b []byte) call {
	c := call{
		name: fmt.Sprintf("write %d, %d bytes %.8x", off, len(b), b),
		run: func(v *api.Vol, s *api.Stem) answer {
			return handing(b, func(b []byte) api.Errno { return flow.Write(v, s, off, b) })
		},
		must: func(x plain) (plain, answer) {
			if off < 0 {
				return x, answer{code: api.ErrArg}
			}
			if off > 8192 || off+len(b) > 8192 {
				return x, answer{code: api.ErrTooBig}
			}
			return x.written(off, b), answer{}
		},
		// Just leaves that have some of the bytes that stay beside those that are written.
		reads: func(x plain, i int) bool {
			end := off + len(b)
			return some(i, off, end) && (some(i, 0, min(off, len(x.b))) || some(i, end, len(x.b)))
		},
	}
	if off >= 0 && off <= 8192 {
		c.lays = touched(off, len(b))
	}
	return c
}

func cutting(size int) call {
	return call{
		name: fmt.Sprintf("cut %d", size),
		run:  func(v *api.Vol, s *api.Stem) answer { return answer{code: flow.Cut(v, s, size)} },
		must: func(x plain) (plain, answer) {
			if size < 0 {
				return x, answer{code: api.ErrArg}
			}
			if size > 8192 {
				return x, answer{code: api.ErrTooBig}
			}
			return x.cut(size), answer{}
		},
		lays: 1,
		// Just the one that some bytes of stay, and some go.
		reads: func(x plain, i int) bool { return some(i, 0, size) && some(i, size, len(x.b)) },
	}
}

func filling(b []byte) call {
	return call{
		name: fmt.Sprintf("fill %d bytes %.8x", len(b), b),
		run: func(v *api.Vol, s *api.Stem) answer {
			return handing(b, func(b []byte) api.Errno { return flow.Fill(v, s, b) })
		},
		must: func(x plain) (plain, answer) {
			if len(b) > 8192 {
				return x, answer{code: api.ErrTooBig}
			}
			return x.filled(b), answer{}
		},
		lays:  touched(0, len(b)),
		reads: func(plain, int) bool { return false },
	}
}

func holing() call {
	return call{
		name: "holes",
		run: func(v *api.Vol, s *api.Stem) answer {
			if s == nil {
				s = &api.Stem{}
			}
			l, e := flow.Holes(v, *s)
			return answer{holes: l, code: e}
		},
		must:  func(x plain) (plain, answer) { return x, answer{holes: x.holes()} },
		reads: func(plain, int) bool { return true },
	}
}

// handing: bytes are handed in with something in the room behind them: neither is changed, and neither is kept.
func handing(b []byte, do func(b []byte) api.Errno) answer {
	in := append(slices.Clone(b), "behind"...)
	was := slices.Clone(in)
	e := do(in[:len(b)])
	if !bytes.Equal(in, was) {
		panic("bytes that were handed in are changed")
	}
	for i := range in {
		in[i] ^= 0x5a
	}
	return answer{code: e}
}

// done: a call is done; another time it does the same. Lists that stood there, and the room behind them, stay as they were, and those that are new share nothing with them. Beside an error nothing else is answered, and stem and Space are as they were.
func done(t *testing.T, v api.Vol, s api.Stem, c call) (api.Vol, api.Stem, answer) {
	t.Helper()
	v = roomy(v)
	old, oldStem, was := v, s, whole(v)
	got := c.run(&v, &s)
	end, answered := copied(v), answer{slices.Clone(got.b), slices.Clone(got.holes), got.code}
	again, stemAgain := old, oldStem
	gotAgain := c.run(&again, &stemAgain)
	if !gotAgain.is(got) || !same(again, v) || stemAgain != s {
		t.Fatalf("%s of %s: another time %s, %s, not %s, %s", c.name, toldStem(oldStem), said(gotAgain), toldStem(stemAgain), said(got), toldStem(s))
	}
	if got.code != api.OK && (!got.is(answer{code: got.code}) || s != oldStem || !sameSpace(v.Space, old.Space)) {
		t.Fatalf("%s of %s: beside an error: %s, %s", c.name, toldStem(oldStem), said(got), toldStem(s))
	}
	spoil(v, old, got)
	if !same(whole(old), was) {
		t.Fatalf("%s of %s: lists that stood there, or the room behind them, are changed", c.name, toldStem(oldStem))
	}
	if !gotAgain.is(answered) || !same(again, end) {
		t.Fatalf("%s of %s: two answers share their lists", c.name, toldStem(oldStem))
	}
	return end, s, answered
}

// spoil: makes other lists of those that a call changed, and of those that it answered.
func spoil(v, old api.Vol, got answer) {
	for i := range got.b {
		got.b[i] ^= 0x33
	}
	for i := range got.holes {
		got.holes[i] += 77
	}
	if !sameDisk(v.Disk, old.Disk) {
		for i := range v.Disk.Cache {
			v.Disk.Cache[i].Data[5] ^= 0x55
		}
	}
	if !slices.Equal(v.Map.Pairs, old.Map.Pairs) {
		clear(v.Map.Pairs)
	}
	if !sameSpace(v.Space, old.Space) {
		for i := range v.Space.State {
			v.Space.State[i] ^= 0x40
		}
	}
}

// check: a call on a volume on which the stem stands, with power and good sectors: what it must do and answer, or that there is no room, where that may be. The answer is what there is then.
func check(t *testing.T, v api.Vol, s api.Stem, x plain, c call) (api.Vol, api.Stem, plain) {
	t.Helper()
	end, next, got := done(t, v, s, c)
	want, must := c.must(x)
	room := space.Room(v.Space)
	switch {
	case must.code == api.OK && want.full(x, room):
		must = answer{code: api.ErrNoSpace}
	case must.code == api.OK && got.code == api.ErrNoSpace && !want.roomFor(x, c.lays, room):
		must = got
	}
	if !got.is(must) {
		t.Fatalf("%s of %s: %s, not %s", c.name, toldStem(s), said(got), said(must))
	}
	if got.code != api.OK {
		want = x
	}
	holds(t, end, next, want)
	if used := space.Used(v.Space) - x.sectors() + want.sectors(); space.Used(end.Space) != used {
		t.Fatalf("%s of %s: %d are in use, not %d", c.name, toldStem(s), space.Used(end.Space), used)
	}
	if got.code == api.OK && bytes.Equal(x.b, want.b) && (next != s || !same(end, v)) {
		t.Fatalf("%s of %s: nothing had to be laid, but something is changed: %s", c.name, toldStem(s), toldStem(next))
	}
	// What stood there still does.
	old := end
	old.Space = v.Space
	stands(t, old, s, x)
	return end, next, want
}

// refused: a call answers an error, and nothing at all is changed.
func refused(t *testing.T, v api.Vol, s api.Stem, c call, code api.Errno) {
	t.Helper()
	if end, next, got := done(t, v, s, c); got.code != code || !same(end, v) || next != s {
		t.Fatalf("%s of %s: %s, %s, not %v", c.name, toldStem(s), said(got), toldStem(next), code)
	}
}

// holds: the stem, on the volume, is that data: its tree is, and all of it is read.
func holds(t *testing.T, v api.Vol, s api.Stem, x plain) {
	t.Helper()
	stands(t, v, s, x)
	if b, e := flow.Read(&v, s, 0, math.MaxInt); e != api.OK || !bytes.Equal(b, x.b) {
		t.Fatalf("%s: read: %v, %s, not %s", toldStem(s), e, told(b), told(x.b))
	}
	if l, e := flow.Holes(&v, s); e != api.OK || !slices.Equal(l, x.holes()) {
		t.Fatalf("%s: holes: %v, %v, not %v", toldStem(s), e, l, x.holes())
	}
}

// stands: the stem's tree is as layer 10 says of these bytes.
func stands(t *testing.T, v api.Vol, s api.Stem, x plain) {
	t.Helper()
	if s.Size != len(x.b) || s.Copies != x.copies || !stem.Right(s) {
		t.Fatalf("%s: not of %d bytes, %d times", toldStem(s), len(x.b), x.copies)
	}
	levels, leaves := x.levels(), x.leaves()
	var from func(p api.Ptr, depth, i int)
	from = func(p api.Ptr, depth, i int) {
		if i >= len(levels[depth]) || levels[depth][i] == "" {
			if p != hole {
				t.Fatalf("%s: depth %d, %d: a block of zeros", toldStem(s), depth, i)
			}
			return
		}
		b, e := vol.Get(&v, p)
		if e != api.OK {
			t.Fatalf("%s: depth %d, %d: %v", toldStem(s), depth, i, e)
		}
		if depth == 0 {
			if b != leaves[i] || (p.B == -1) != (x.copies == 1) {
				t.Fatalf("%s: leaf %d: %d and %d, %s", toldStem(s), i, p.A, p.B, told(b[:]))
			}
			return
		}
		parts, e := ptr.Parts(b)
		if e != api.OK || p.B == -1 {
			t.Fatalf("%s: depth %d, %d: no node that is there twice: %v", toldStem(s), depth, i, e)
		}
		for k, part := range parts {
			from(part, depth-1, 3*i+k)
		}
	}
	from(s.Root, len(levels)-1, 0)
}

// planted: such a tree on a new volume, laid by the chapters' words, with nothing of packages stem and flow, and flushed; and where its nodes and its leaves are.
func planted(t *testing.T, q int, x plain) (api.Vol, api.Stem, []api.Ptr, []api.Ptr) {
	t.Helper()
	v := fresh(t, q)
	var nodes, leaves []api.Ptr
	level := []api.Ptr{}
	for _, b := range x.leaves() {
		level = append(level, add(t, &v, b, x.copies))
	}
	leaves = level
	for len(level) > 1 {
		var above []api.Ptr
		for parts := range slices.Chunk(level, 3) {
			p := hole
			if slices.ContainsFunc(parts, func(p api.Ptr) bool { return p != hole }) {
				b, e := ptr.Node(parts...)
				if e != api.OK {
					t.Fatal(e)
				}
				p = add(t, &v, b, 2)
				nodes = append(nodes, p)
			}
			above = append(above, p)
		}
		level = above
	}
	s := api.Stem{Root: hole, Size: len(x.b), Copies: x.copies}
	if len(level) > 0 {
		s.Root = level[0]
	}
	flush(t, &v)
	return v, s, nodes, leaves
}

func add(t *testing.T, v *api.Vol, b api.Block, copies int) api.Ptr {
	t.Helper()
	p, e := vol.Add(v, b, copies)
	if e != api.OK {
		t.Fatal(copies, e)
	}
	return p
}

func fresh(t *testing.T, q int) api.Vol {
	t.Helper()
	v, e := vol.New(q)
	if e != api.OK {
		t.Fatal(q, e)
	}
	return v
}

func flush(t *testing.T, v *api.Vol) {
	t.Helper()
	if e := disk.Flush(&v.Disk); e != api.OK {
		t.Fatal(e)
	}
}

// empty: a stem of no bytes.
func empty(copies int) api.Stem { return api.Stem{Root: hole, Copies: copies} }

// noise: so many bytes, none of them zero, like no others of another number.
func noise(n, size int) []byte {
	b := make([]byte, size)
	for i := range b {
		b[i] = byte(1 + (n*31+i*7+i/128*13)%255)
	}
	return b
}

// holed: so many bytes, the leaves of which that are told so are zeros.
func holed(size int, zeros func(i int) bool) []byte {
	b := noise(1, size)
	for i := range b {
		if zeros(i / 128) {
			b[i] = 0
		}
	}
	return b
}

// hit: sectors, wherever they stand by now, rot (1), can't be read (2), or can't be written (3).
func hit(t *testing.T, v *api.Vol, kind int, at ...int) {
	t.Helper()
	for _, n := range at {
		if e := disk.Hit(&v.Disk, remap.At(v.Map, n), kind, (n*11)%128, 1<<(n%8)); e != api.OK {
			t.Fatal(n, kind, e)
		}
	}
}

// sectorsOf: a pointer's.
func sectorsOf(p api.Ptr) []int {
	return slices.DeleteFunc([]int{p.A, p.B}, func(at int) bool { return at == -1 })
}

// crowded: the same volume, in which so many sectors of each region are free, the last ones, and no others are in use.
func crowded(v api.Vol, room [2]int) api.Vol {
	v = copied(v)
	for r, left := range room {
		for i := (r+1)*v.Space.Size - 1; i >= r*v.Space.Size; i-- {
			if v.Space.State[i] != api.Free {
				continue
			}
			if left--; left < 0 {
				v.Space.State[i] = api.Leaving
			}
		}
	}
	return v
}

// room: how much stands behind lists that are handed in; no call may change it.
const room = 3

// roomy: the same volume in lists of their own, with something in the room behind them.
func roomy(v api.Vol) api.Vol {
	v = copied(v)
	for i := range room {
		v.Disk.Sectors = append(v.Disk.Sectors, api.Sector{Data: api.Block{byte(i)}, NoRead: true})
		v.Disk.Cache = append(v.Disk.Cache, api.Write{Data: api.Block{9, byte(i)}})
		v.Map.Pairs = append(v.Map.Pairs, api.Pair{From: 700 + i, To: -i})
		v.Space.State = append(v.Space.State, 9)
	}
	v.Disk.Sectors = v.Disk.Sectors[:len(v.Disk.Sectors)-room]
	v.Disk.Cache = v.Disk.Cache[:len(v.Disk.Cache)-room]
	v.Map.Pairs = v.Map.Pairs[:len(v.Map.Pairs)-room]
	v.Space.State = v.Space.State[:len(v.Space.State)-room]
	return v
}

// whole: a copy of the volume with all that stands in the room behind its lists.
func whole(v api.Vol) api.Vol {
	v.Disk.Sectors, v.Disk.Cache = v.Disk.Sectors[:cap(v.Disk.Sectors)], v.Disk.Cache[:cap(v.Disk.Cache)]
	v.Map.Pairs, v.Space.State = v.Map.Pairs[:cap(v.Map.Pairs)], v.Space.State[:cap(v.Space.State)]
	return copied(v)
}

// copied: the same volume in lists of their own.
func copied(v api.Vol) api.Vol {
	v.Disk.Sectors, v.Disk.Cache = slices.Clone(v.Disk.Sectors), slices.Clone(v.Disk.Cache)
	v.Map.Pairs, v.Space.State = slices.Clone(v.Map.Pairs), slices.Clone(v.Space.State)
	return v
}

func sameDisk(a, b api.Disk) bool {
	return a.Fuse == b.Fuse && a.Down == b.Down && slices.Equal(a.Sectors, b.Sectors) && slices.Equal(a.Cache, b.Cache)
}

func sameSpace(a, b api.Space) bool {
	return a.At == b.At && a.Size == b.Size && bytes.Equal(a.State, b.State)
}

func same(a, b api.Vol) bool {
	return sameDisk(a.Disk, b.Disk) && a.Map.Gen == b.Map.Gen && slices.Equal(a.Map.Pairs, b.Map.Pairs) && sameSpace(a.Space, b.Space)
}

func told(b []byte) string { return fmt.Sprintf("%d bytes %.12x", len(b), b) }

func toldStem(s api.Stem) string {
	return fmt.Sprintf("stem of %d bytes, %d times, from %d and %d on", s.Size, s.Copies, s.Root.A, s.Root.B)
}

func said(a answer) string { return fmt.Sprintf("%v, %s, %v", a.code, told(a.b), a.holes) }

// edges: numbers of bytes at all edges of leaves, of depths, and of what a stem may have.
func edges() []int {
	return []int{0, 1, 2, 127, 128, 129, 255, 256, 257, 383, 384, 385, 500, 1152, 1153, 3456, 3457, 8064, 8065, 8191, 8192}
}

// extremes: numbers far from all that are right, or that look like one in fewer bytes.
func extremes() []int {
	return []int{math.MinInt, math.MinInt + 1, math.MinInt + 128, math.MinInt / 2, math.MinInt32, -1 << 32, -1<<32 + 1, -8192, -129, -128, -127, -2, -1, 8193, 8194, 8320, 16384, 65536, 65537, math.MaxInt32, math.MaxUint32, 1 << 32, 1<<32 + 1, 1<<32 + 128, 1 << 62, math.MaxInt / 2, math.MaxInt - 8192, math.MaxInt - 128, math.MaxInt - 1, math.MaxInt}
}

package table_test

import (
	"bytes"
	"fmt"
	"math"
	"slices"
	"testing"

	"lazaret/api"
	"lazaret/disk"
	"lazaret/ptr"
	"lazaret/remap"
	"lazaret/space"
	"lazaret/stem"
	"lazaret/table"
	"lazaret/vol"
)

// What tables must be, told as plain data and by the chapters' words; and what holds the calls against it.

var hole = api.Ptr{A: -1, B: -1}

// record: what stands at a number: a node with its bytes, none, or bytes that say nothing.
type record struct {
	n   api.Inode
	raw [64]byte
}

// plain: a table as plain data: records by their numbers, of which as many bytes are there.
type plain struct {
	size, copies int
	at           [65]record
}

// of: a table of these nodes.
func of(nodes ...api.Inode) plain {
	x := plain{copies: 2}
	for _, n := range nodes {
		x = x.with(n)
	}
	return x
}

func (x plain) with(n api.Inode) plain {
	x.at[n.Number] = record{n, bytesOf(n)}
	x.size = max(x.size, 64*n.Number)
	return x
}

// without: that node is gone, and the table ends with its last one.
func (x plain) without(number int) plain {
	x.at[number] = record{}
	x.size = 64 * x.last(0)
	return x
}

// damaged: other bytes stand at a number, which say nothing.
func (x plain) damaged(number int, raw [64]byte) plain {
	x.at[number] = record{raw: raw}
	x.size = max(x.size, 64*number)
	return x
}

// sized: a table with so many bytes: those that it had more must have been zeros.
func (x plain) sized(size int) plain {
	x.size = size
	return x
}

// last: the greatest number of a node, but for one.
func (x plain) last(but int) int {
	for number := 64; number > 0; number-- {
		if number != but && x.at[number].n.Number > 0 {
			return number
		}
	}
	return 0
}

func (x plain) get(number int) (api.Inode, api.Errno) {
	if number < 1 || number > 64 {
		return api.Inode{}, api.ErrArg
	}
	switch r := x.at[number]; {
	case r.n.Number > 0:
		return r.n, api.OK
	case r.raw == [64]byte{}:
		return api.Inode{}, api.ErrNoEnt
	}
	return api.Inode{}, api.ErrDamage
}

func (x plain) next() (int, api.Errno) {
	for number := 1; number <= 64; number++ {
		switch _, e := x.get(number); e {
		case api.ErrNoEnt:
			return number, api.OK
		case api.ErrDamage:
			return 0, e
		}
	}
	return 0, api.ErrMany
}

func (x plain) list() ([]api.Inode, api.Errno) {
	var l []api.Inode
	for number := 1; number <= 64; number++ {
		switch n, e := x.get(number); e {
		case api.OK:
			l = append(l, n)
		case api.ErrDamage:
			return nil, e
		}
	}
	return l, api.OK
}

// cleared: what becomes of it where the node of a number is taken away. Of the records behind the last other node none may say nothing.
func (x plain) cleared(number int) (plain, api.Errno) {
	if _, e := x.get(number); e != api.OK {
		return x, e
	}
	for behind := x.last(number) + 1; behind <= 64; behind++ {
		if _, e := x.get(behind); e == api.ErrDamage {
			return x, e
		}
	}
	return x.without(number), api.OK
}

// bytes: its records, one behind the other.
func (x plain) bytes() []byte {
	var b []byte
	for _, r := range x.at[1:] {
		b = append(b, r.raw[:]...)
	}
	return append(b, make([]byte, 4096)...)[:x.size]
}

// bytesOf: a right node's, as layer 13 says.
func bytesOf(n api.Inode) [64]byte {
	b := [64]byte{byte(n.Kind), byte(n.Links), byte(n.Stem.Copies)}
	for i := range 4 {
		b[4+i] = byte(n.Stem.Size >> (8 * i))
		b[8+i] = byte(n.Stem.Root.A >> (8 * i))
		b[12+i] = byte(n.Stem.Root.B >> (8 * i))
	}
	copy(b[16:48], n.Stem.Root.Sum[:])
	return b
}

// leavesOf: bytes in blocks; what is left over of the last one is zeros.
func leavesOf(b []byte) []api.Block {
	var l []api.Block
	for piece := range slices.Chunk(b, 128) {
		var x api.Block
		copy(x[:], piece)
		l = append(l, x)
	}
	return l
}

// levels: what the blocks of a stem of these bytes stand for, from the leaves up to the root: of each the bytes beneath it without the zeros at their end.
func levels(b []byte) [][]string {
	var level []string
	for _, x := range leavesOf(b) {
		level = append(level, string(x[:]))
	}
	l := [][]string{level}
	for wide := 128; len(level) > 1; wide *= 3 {
		var above []string
		for three := range slices.Chunk(level, 3) {
			s := ""
			for i, part := range three {
				s += string(make([]byte, i*wide-len(s))) + part
			}
			above = append(above, s)
		}
		l, level = append(l, above), above
	}
	for _, level := range l {
		for i, s := range level {
			level[i] = string(bytes.TrimRight([]byte(s), "\x00"))
		}
	}
	return l
}

// sectors: how many a stem of these bytes asks for.
func sectors(b []byte, copies int) int {
	n := 0
	for depth, level := range levels(b) {
		for _, s := range level {
			if s != "" && depth == 0 {
				n += copies
			} else if s != "" {
				n += 2
			}
		}
	}
	return n
}

// anew: how many blocks a stem of bytes has that one of the bytes was doesn't have: so many must be laid at least.
func anew(b, was []byte) (leaves, nodes int) {
	old := levels(was)
	for depth, level := range levels(b) {
		for i, s := range level {
			if s == "" || depth < len(old) && i < len(old[depth]) && old[depth][i] == s {
				continue
			}
			if depth == 0 {
				leaves++
			} else {
				nodes++
			}
		}
	}
	return leaves, nodes
}

// full: is there no room for what must be laid at least? What is there once is laid in the first region as long as that has room; nodes are laid twice.
func (x plain) full(was plain, room [2]int) bool {
	leaves, nodes := anew(x.bytes(), was.bytes())
	if x.copies == 2 {
		return leaves+nodes > min(room[0], room[1])
	}
	return nodes > min(room[0], room[1]) || leaves+2*nodes > room[0]+room[1]
}

// roomFor: is there room for two leaves, each with its way, and for another way where the table gets longer or shorter? No call wants more.
func (x plain) roomFor(was plain, room [2]int) bool {
	depth := max(len(levels(x.bytes())), len(levels(was.bytes()))) - 1
	return 2*(1+depth)+depth <= min(room[0], room[1])
}

// answer: what a call answers, as far as it does.
type answer struct {
	n      api.Inode
	number int
	list   []api.Inode
	code   api.Errno
}

func (a answer) is(b answer) bool {
	return a.n == b.n && a.number == b.number && slices.Equal(a.list, b.list) && a.code == b.code
}

// call: one of the calls with its arguments; what it makes of plain data, and answers; and which leaves it must read.
type call struct {
	name  string
	run   func(v *api.Vol, s *api.Stem) answer
	must  func(x plain) (plain, answer)
	reads func(x plain) []int
}

// some: the stem that a pointer leads to, if there is one.
func some(s *api.Stem) api.Stem {
	if s == nil {
		return api.Stem{}
	}
	return *s
}

// leavesUpTo: the leaves of the records of all these numbers, as far as they are there.
func leavesUpTo(x plain, first, last int) []int {
	var l []int
	for i := (first - 1) / 2; i <= (last-1)/2 && 128*i < x.size; i++ {
		l = append(l, i)
	}
	return l
}

func getting(number int) call {
	return call{
		name: fmt.Sprintf("get %d", number),
		run: func(v *api.Vol, s *api.Stem) answer {
			n, e := table.Get(v, some(s), number)
			return answer{n: n, code: e}
		},
		must: func(x plain) (plain, answer) {
			n, e := x.get(number)
			return x, answer{n: n, code: e}
		},
		reads: func(x plain) []int {
			if 64*(number-1) >= x.size {
				return nil
			}
			return leavesUpTo(x, number, number)
		},
	}
}

func setting(n api.Inode) call {
	return call{
		name: "set " + toldNode(n),
		run:  func(v *api.Vol, s *api.Stem) answer { return answer{code: table.Set(v, s, n)} },
		must: func(x plain) (plain, answer) {
			if !rightNode(n) {
				return x, answer{code: api.ErrArg}
			}
			return x.with(n), answer{}
		},
		// Only where there are bytes of the leaf beside these.
		reads: func(x plain) []int {
			i, at := (n.Number-1)/2, (n.Number-1)%2
			if x.size > 128*i && (at == 1 || x.size > 128*i+64) {
				return []int{i}
			}
			return nil
		},
	}
}

func clearing(number int) call {
	return call{
		name: fmt.Sprintf("clear %d", number),
		run:  func(v *api.Vol, s *api.Stem) answer { return answer{code: table.Clear(v, s, number)} },
		must: func(x plain) (plain, answer) {
			next, e := x.cleared(number)
			return next, answer{code: e}
		},
		// Its own record; then all from the last other node on, to the end.
		reads: func(x plain) []int {
			l := getting(number).reads(x)
			if _, e := x.get(number); e == api.OK {
				l = append(l, leavesUpTo(x, max(1, x.last(number)), 64)...)
			}
			return l
		},
	}
}

func nexting() call {
	return call{
		name: "next",
		run: func(v *api.Vol, s *api.Stem) answer {
			n, e := table.Next(v, some(s))
			return answer{number: n, code: e}
		},
		must: func(x plain) (plain, answer) {
			n, e := x.next()
			return x, answer{number: n, code: e}
		},
		// All up to the first one that is no node's, which may be missing.
		reads: func(x plain) []int {
			if n, e := x.next(); e == api.OK {
				return leavesUpTo(x, 1, min(n, (x.size+63)/64))
			}
			return leavesUpTo(x, 1, 64)
		},
	}
}

func listing() call {
	return call{
		name: "list",
		run: func(v *api.Vol, s *api.Stem) answer {
			l, e := table.List(v, some(s))
			return answer{list: l, code: e}
		},
		must: func(x plain) (plain, answer) {
			l, e := x.list()
			return x, answer{list: l, code: e}
		},
		reads: func(x plain) []int { return leavesUpTo(x, 1, 64) },
	}
}

// done: a call is done; another time it does the same. Lists that stood there, and the room behind them, stay as they were, and those that are new share nothing with them. Beside an error nothing else is answered, and table and Space are as they were.
func done(t *testing.T, v api.Vol, s api.Stem, c call) (api.Vol, api.Stem, answer) {
	t.Helper()
	v = roomy(v)
	old, oldStem, was := v, s, whole(v)
	got := c.run(&v, &s)
	end, answered := copied(v), answer{got.n, got.number, slices.Clone(got.list), got.code}
	again, stemAgain := old, oldStem
	gotAgain := c.run(&again, &stemAgain)
	if !gotAgain.is(got) || !same(again, v) || stemAgain != s {
		t.Fatalf("%s of %s: another time %s, %s, not %s, %s", c.name, toldStem(oldStem), said(gotAgain), toldStem(stemAgain), said(got), toldStem(s))
	}
	if got.code != api.OK && (!got.is(answer{code: got.code}) || s != oldStem || !sameSpace(v.Space, old.Space)) {
		t.Fatalf("%s of %s: beside an error: %s, %s", c.name, toldStem(oldStem), said(got), toldStem(s))
	}
	spoil(v, old, got)
	if !same(whole(old), was) {
		t.Fatalf("%s of %s: lists that stood there, or the room behind them, are changed", c.name, toldStem(oldStem))
	}
	if !gotAgain.is(answered) || !same(again, end) {
		t.Fatalf("%s of %s: two answers share their lists", c.name, toldStem(oldStem))
	}
	return end, s, answered
}

// spoil: makes other lists of those that a call changed, and of the one that it answered.
func spoil(v, old api.Vol, got answer) {
	clear(got.list)
	if !sameDisk(v.Disk, old.Disk) {
		for i := range v.Disk.Cache {
			v.Disk.Cache[i].Data[5] ^= 0x55
		}
	}
	if !slices.Equal(v.Map.Pairs, old.Map.Pairs) {
		clear(v.Map.Pairs)
	}
	if !sameSpace(v.Space, old.Space) {
		for i := range v.Space.State {
			v.Space.State[i] ^= 0x40
		}
	}
}

// check: a call on a volume on which the table stands, with power and good sectors: what it must do and answer, or that there is no room, where that may be. The answer is what there is then.
func check(t *testing.T, v api.Vol, s api.Stem, x plain, c call) (api.Vol, api.Stem, plain) {
	t.Helper()
	end, next, got := done(t, v, s, c)
	want, must := c.must(x)
	room := space.Room(v.Space)
	switch {
	case must.code == api.OK && want.full(x, room):
		must = answer{code: api.ErrNoSpace}
	case must.code == api.OK && got.code == api.ErrNoSpace && !want.roomFor(x, room):
		must = got
	}
	if !got.is(must) {
		t.Fatalf("%s of %s: %s, not %s", c.name, toldStem(s), said(got), said(must))
	}
	if got.code != api.OK {
		want = x
	}
	changed := next != s || !same(end, v)
	if got.code == api.OK && changed && bytes.Equal(x.bytes(), want.bytes()) {
		t.Fatalf("%s of %s: nothing had to be laid, but something is changed: %s", c.name, toldStem(s), toldStem(next))
	}
	if !changed && bytes.Equal(x.bytes(), want.bytes()) {
		return end, next, want
	}
	holds(t, end, next, want)
	if used := space.Used(v.Space) - sectors(x.bytes(), x.copies) + sectors(want.bytes(), want.copies); space.Used(end.Space) != used {
		t.Fatalf("%s of %s: %d are in use, not %d", c.name, toldStem(s), space.Used(end.Space), used)
	}
	// What stood there still does.
	old := end
	old.Space = v.Space
	stands(t, old, s, x)
	return end, next, want
}

// refused: a call answers an error, and nothing at all is changed.
func refused(t *testing.T, v api.Vol, s api.Stem, c call, code api.Errno) {
	t.Helper()
	if end, next, got := done(t, v, s, c); got.code != code || !same(end, v) || next != s {
		t.Fatalf("%s of %s: %s, %s, not %v", c.name, toldStem(s), said(got), toldStem(next), code)
	}
}

// holds: the table, on the volume, is that data: its tree is, and what is got of every number, listed, and next.
func holds(t *testing.T, v api.Vol, s api.Stem, x plain) {
	t.Helper()
	stands(t, v, s, x)
	tells(t, v, s, x)
}

func tells(t *testing.T, v api.Vol, s api.Stem, x plain) {
	t.Helper()
	for number := 0; number <= 65; number++ {
		want, code := x.get(number)
		if n, e := table.Get(&v, s, number); n != want || e != code {
			t.Fatalf("%s: get of %d: %s, %v, not %s, %v", toldStem(s), number, toldNode(n), e, toldNode(want), code)
		}
	}
	want, code := x.list()
	if l, e := table.List(&v, s); !slices.Equal(l, want) || e != code {
		t.Fatalf("%s: list: %v, %v, not %v, %v", toldStem(s), l, e, want, code)
	}
	least, code := x.next()
	if n, e := table.Next(&v, s); n != least || e != code {
		t.Fatalf("%s: next: %d, %v, not %d, %v", toldStem(s), n, e, least, code)
	}
}

// stands: the table's tree is as layer 10 says of its bytes.
func stands(t *testing.T, v api.Vol, s api.Stem, x plain) {
	t.Helper()
	if s.Size != x.size || s.Copies != x.copies || !stem.Right(s) {
		t.Fatalf("%s: not of %d bytes, %d times", toldStem(s), x.size, x.copies)
	}
	levels, leaves := levels(x.bytes()), leavesOf(x.bytes())
	var from func(p api.Ptr, depth, i int)
	from = func(p api.Ptr, depth, i int) {
		if i >= len(levels[depth]) || levels[depth][i] == "" {
			if p != hole {
				t.Fatalf("%s: depth %d, %d: a block of zeros", toldStem(s), depth, i)
			}
			return
		}
		b, e := vol.Get(&v, p)
		if e != api.OK {
			t.Fatalf("%s: depth %d, %d: %v", toldStem(s), depth, i, e)
		}
		if depth == 0 {
			if b != leaves[i] || (p.B == -1) != (x.copies == 1) {
				t.Fatalf("%s: leaf %d: %d and %d, %x", toldStem(s), i, p.A, p.B, b)
			}
			return
		}
		parts, e := ptr.Parts(b)
		if e != api.OK || p.B == -1 {
			t.Fatalf("%s: depth %d, %d: no node that is there twice: %v", toldStem(s), depth, i, e)
		}
		for k, part := range parts {
			from(part, depth-1, 3*i+k)
		}
	}
	from(s.Root, len(levels)-1, 0)
}

// planted: a table on a new volume, flushed; and where its nodes and its leaves are.
func planted(t *testing.T, q int, x plain) (v api.Vol, s api.Stem, nodes, leaves []api.Ptr) {
	t.Helper()
	v = fresh(t, q)
	s, nodes, leaves = grow(t, &v, x.bytes(), x.copies)
	flush(t, &v)
	return v, s, nodes, leaves
}

// grow: a stem of bytes, laid by the chapters' words, with nothing of packages stem and flow.
func grow(t *testing.T, v *api.Vol, b []byte, copies int) (s api.Stem, nodes, leaves []api.Ptr) {
	t.Helper()
	for _, x := range leavesOf(b) {
		leaves = append(leaves, add(t, v, x, copies))
	}
	level := leaves
	for len(level) > 1 {
		var above []api.Ptr
		for parts := range slices.Chunk(level, 3) {
			p := hole
			if slices.ContainsFunc(parts, func(p api.Ptr) bool { return p != hole }) {
				b, e := ptr.Node(parts...)
				if e != api.OK {
					t.Fatal(e)
				}
				p = add(t, v, b, 2)
				nodes = append(nodes, p)
			}
			above = append(above, p)
		}
		level = above
	}
	s = api.Stem{Root: hole, Size: len(b), Copies: copies}
	if len(level) > 0 {
		s.Root = level[0]
	}
	return s, nodes, leaves
}

func add(t *testing.T, v *api.Vol, b api.Block, copies int) api.Ptr {
	t.Helper()
	p, e := vol.Add(v, b, copies)
	if e != api.OK {
		t.Fatal(copies, e)
	}
	return p
}

func fresh(t *testing.T, q int) api.Vol {
	t.Helper()
	v, e := vol.New(q)
	if e != api.OK {
		t.Fatal(q, e)
	}
	return v
}

func flush(t *testing.T, v *api.Vol) {
	t.Helper()
	if e := disk.Flush(&v.Disk); e != api.OK {
		t.Fatal(e)
	}
}

// empty: a table of no bytes.
func empty() api.Stem { return api.Stem{Root: hole, Copies: 2} }

// rightNode: is a node right, as layer 13 says?
func rightNode(n api.Inode) bool {
	p := n.Stem.Root
	sector := func(at int) bool { return at >= 0 && at < 4096 }
	root := p == hole || sector(p.A) && (p.B == -1 || sector(p.B) && p.B != p.A)
	return n.Number >= 1 && n.Number <= 64 && n.Kind >= 1 && n.Kind <= 3 && n.Links >= 0 && n.Links <= 99 &&
		root && n.Stem.Size >= 0 && n.Stem.Size <= 8192 && (n.Stem.Copies == 2 || n.Stem.Copies == 1 && n.Kind == 1)
}

// node: a right node of that number, of one kind or another; none like another one of the same number.
func node(number, k int) api.Inode {
	n := api.Inode{Number: number, Kind: 1 + k%3, Links: k % 100, Stem: api.Stem{Root: hole, Copies: 2}}
	if n.Kind == 1 {
		n.Stem.Copies = 1 + k/3%2
	}
	switch k % 5 {
	case 1:
		n.Stem.Root = api.Ptr{A: (k * 37) % 4096, B: -1}
	case 2:
		n.Stem.Root = api.Ptr{A: (k * 41) % 4095, B: 4095, Sum: api.Sum{byte(k), 31: 255}}
	case 3:
		n.Stem.Root = api.Ptr{A: 4095, B: (k * 43) % 4095, Sum: api.Sum(bytes.Repeat([]byte{byte(1 + k%255)}, 32))}
	}
	n.Stem.Size = (k * 129) % 8193
	return n
}

// nodes: of these numbers.
func nodes(k int, numbers ...int) []api.Inode {
	var l []api.Inode
	for _, number := range numbers {
		k++
		l = append(l, node(number, k))
	}
	return l
}

// upTo: the numbers from 1 to n.
func upTo(n int) []int {
	var l []int
	for i := range n {
		l = append(l, i+1)
	}
	return l
}

// noRecords: 64 bytes that are neither a node's nor no node's.
func noRecords() [][64]byte {
	l := [][64]byte{{0: 9}, {63: 1}, {8: 255, 9: 255}, {0: 1}}
	for _, at := range []int{0, 1, 2, 3, 7, 11, 15, 48, 63} {
		for _, n := range []api.Inode{node(1, 0), node(1, 2), node(1, 3)} {
			b := bytesOf(n)
			b[at] ^= 0x84
			l = append(l, b)
		}
	}
	return append(l, [64]byte(bytes.Repeat([]byte{255}, 64)))
}

// hit: sectors, wherever they stand by now, rot (1), can't be read (2), or can't be written (3).
func hit(t *testing.T, v *api.Vol, kind int, at ...int) {
	t.Helper()
	for _, n := range at {
		if e := disk.Hit(&v.Disk, remap.At(v.Map, n), kind, (n*11)%128, 1<<(n%8)); e != api.OK {
			t.Fatal(n, kind, e)
		}
	}
}

// sectorsOf: a pointer's.
func sectorsOf(p api.Ptr) []int {
	return slices.DeleteFunc([]int{p.A, p.B}, func(at int) bool { return at == -1 })
}

// crowded: the same volume, in which so many sectors of each region are free, the last ones, and no others are in use.
func crowded(v api.Vol, room [2]int) api.Vol {
	v = copied(v)
	for r, left := range room {
		for i := (r+1)*v.Space.Size - 1; i >= r*v.Space.Size; i-- {
			if v.Space.State[i] != api.Free {
				continue
			}
			if left--; left < 0 {
				v.Space.State[i] = api.Leaving
			}
		}
	}
	return v
}

// room: how much stands behind lists that are handed in; no call may change it.
const room = 3

// roomy: the same volume in lists of their own, with something in the room behind them.
func roomy(v api.Vol) api.Vol {
	v = copied(v)
	for i := range room {
		v.Disk.Sectors = append(v.Disk.Sectors, api.Sector{Data: api.Block{byte(i)}, NoRead: true})
		v.Disk.Cache = append(v.Disk.Cache, api.Write{Data: api.Block{9, byte(i)}})
		v.Map.Pairs = append(v.Map.Pairs, api.Pair{From: 700 + i, To: -i})
		v.Space.State = append(v.Space.State, 9)
	}
	v.Disk.Sectors = v.Disk.Sectors[:len(v.Disk.Sectors)-room]
	v.Disk.Cache = v.Disk.Cache[:len(v.Disk.Cache)-room]
	v.Map.Pairs = v.Map.Pairs[:len(v.Map.Pairs)-room]
	v.Space.State = v.Space.State[:len(v.Space.State)-room]
	return v
}

// whole: what stands in a volume's lists, and in the room behind them, in lists of its own.
func whole(v api.Vol) api.Vol {
	v.Disk.Sectors = v.Disk.Sectors[:len(v.Disk.Sectors)+room]
	v.Disk.Cache = v.Disk.Cache[:len(v.Disk.Cache)+room]
	v.Map.Pairs = v.Map.Pairs[:len(v.Map.Pairs)+room]
	v.Space.State = v.Space.State[:len(v.Space.State)+room]
	return copied(v)
}

// copied: the same volume in lists of their own.
func copied(v api.Vol) api.Vol {
	v.Disk.Sectors, v.Disk.Cache = slices.Clone(v.Disk.Sectors), slices.Clone(v.Disk.Cache)
	v.Map.Pairs, v.Space.State = slices.Clone(v.Map.Pairs), slices.Clone(v.Space.State)
	return v
}

func sameDisk(a, b api.Disk) bool {
	return a.Fuse == b.Fuse && a.Down == b.Down && slices.Equal(a.Sectors, b.Sectors) && slices.Equal(a.Cache, b.Cache)
}

func sameSpace(a, b api.Space) bool {
	return a.At == b.At && a.Size == b.Size && bytes.Equal(a.State, b.State)
}

func same(a, b api.Vol) bool {
	return sameDisk(a.Disk, b.Disk) && a.Map.Gen == b.Map.Gen && slices.Equal(a.Map.Pairs, b.Map.Pairs) && sameSpace(a.Space, b.Space)
}

func toldStem(s api.Stem) string {
	return fmt.Sprintf("stem of %d bytes, %d times, from %d and %d on", s.Size, s.Copies, s.Root.A, s.Root.B)
}

func toldNode(n api.Inode) string {
	return fmt.Sprintf("node %d, kind %d, %d links, %s", n.Number, n.Kind, n.Links, toldStem(n.Stem))
}

func said(a answer) string {
	return fmt.Sprintf("%v, %s, %d, %d nodes", a.code, toldNode(a.n), a.number, len(a.list))
}

// extremes: numbers far from all that are right, or that look like one in fewer bytes.
func extremes() []int {
	l := []int{-8192, -129, -128, -65, -64, -63, -3, -2, -1, 8193, 8194, 8320, 16384, 65536, 65537, math.MaxInt - 1, math.MaxInt}
	for _, x := range []int{math.MinInt, math.MinInt / 2, math.MinInt32, -1 << 32, 1 << 31, 1 << 32, 1 << 58, 1 << 62, math.MaxInt - 8192} {
		for _, y := range []int{0, 1, 2, 3, 64, 65, 128, 4096} {
			l = append(l, x+y)
		}
	}
	return l
}

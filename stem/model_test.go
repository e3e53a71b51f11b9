package stem_test

import (
	"bytes"
	"fmt"
	"math"
	"slices"
	"testing"

	"lazaret/api"
	"lazaret/disk"
	"lazaret/ptr"
	"lazaret/remap"
	"lazaret/sha"
	"lazaret/space"
	"lazaret/stem"
	"lazaret/vol"
)

// What stems must be, told as plain data and by the chapter's words; and what holds the calls against it.

var hole = api.Ptr{A: -1, B: -1}

// plain: a stem as plain data.
type plain struct {
	size, copies int
	leaves       []api.Block
}

// of: a stem of so many bytes that has these leaves; zeros, where there are none.
func of(size, copies int, leaves ...api.Block) plain {
	return plain{copies: copies, leaves: leaves}.resized(size)
}

func (x plain) resized(size int) plain {
	n := (size + 127) / 128
	l := slices.Clone(x.leaves)
	for len(l) < n {
		l = append(l, api.Block{})
	}
	return plain{size, x.copies, l[:n]}
}

func (x plain) laid(i int, b api.Block) plain {
	x.leaves = slices.Clone(x.leaves)
	x.leaves[i] = b
	return x
}

func (x plain) recopied(copies int) plain {
	x.copies = copies
	return x
}

// depth: the least one that has room for all leaves.
func (x plain) depth() int {
	depth, room := 0, 1
	for room < len(x.leaves) {
		depth, room = depth+1, 3*room
	}
	return depth
}

// spot: where a root stands in a tree: its depth, and the first leaf beneath it.
type spot struct{ depth, first int }

func (at spot) width() int {
	n := 1
	for range at.depth {
		n *= 3
	}
	return n
}

// parts: where the three parts of a node stand.
func (at spot) parts() []spot {
	w := at.width() / 3
	return []spot{{at.depth - 1, at.first}, {at.depth - 1, at.first + w}, {at.depth - 1, at.first + 2*w}}
}

// beneath: the leaves beneath a root that stands there, so many as there may be.
func (x plain) beneath(at spot) []api.Block {
	l := make([]api.Block, at.width())
	if at.first < len(x.leaves) {
		copy(l, x.leaves[at.first:])
	}
	return l
}

// spots: where the tree has roots that aren't holes, each ahead of its parts.
func (x plain) spots() []spot {
	var l []spot
	var from func(at spot)
	from = func(at spot) {
		if zeros(x.beneath(at)) {
			return
		}
		l = append(l, at)
		if at.depth > 0 {
			for _, part := range at.parts() {
				from(part)
			}
		}
	}
	from(spot{x.depth(), 0})
	return l
}

func zeros(l []api.Block) bool {
	return !slices.ContainsFunc(l, func(b api.Block) bool { return b != api.Block{} })
}

// kept: how often the block that stands there is.
func (x plain) kept(at spot) int {
	if at.depth > 0 {
		return 2
	}
	return x.copies
}

// sectors: how many the stem has.
func (x plain) sectors() int {
	n := 0
	for _, at := range x.spots() {
		n += x.kept(at)
	}
	return n
}

// anew: which blocks of the stem were was doesn't have: these must be laid, and no others.
func (x plain) anew(was plain) []spot {
	return slices.DeleteFunc(x.spots(), func(at spot) bool {
		return at.depth <= was.depth() && was.copies == x.copies && slices.Equal(x.beneath(at), was.beneath(at))
	})
}

// noRoom: is there a sector too few for the blocks that must be laid, where so many are free in the regions? What is there once is laid in the first region, as long as that has room; and a node is always laid last.
func (x plain) noRoom(was plain, room [2]int) bool {
	once, twice := 0, 0
	for _, at := range x.anew(was) {
		if x.kept(at) == 1 {
			once++
		} else {
			twice++
		}
	}
	if twice == 0 {
		return once > sum(room)
	}
	return once+twice > room[0] || twice > room[1]
}

// stands: the stem, on the volume, is that data, as the chapter says. The answer is all its pointers.
func stands(t *testing.T, v api.Vol, s api.Stem, want plain) []api.Ptr {
	t.Helper()
	if s.Size != want.size || s.Copies != want.copies {
		t.Fatalf("%s: not of the size %d and %d copies", toldStem(s), want.size, want.copies)
	}
	var l []api.Ptr
	grown(t, &v, s.Root, spot{want.depth(), 0}, want, &l)
	return l
}

// holds: it stands so, is walked so, and each leaf is read.
func holds(t *testing.T, v api.Vol, s api.Stem, want plain) {
	t.Helper()
	l := stands(t, v, s, want)
	if got, e := stem.Walk(&v, s); e != api.OK || !slices.Equal(got, l) || !stem.Right(s) {
		t.Fatalf("%s: walked: %v %s, not %s", toldStem(s), e, toldPtrs(got), toldPtrs(l))
	}
	for i := range want.leaves {
		if b, e := stem.Leaf(&v, s, i); b != want.leaves[i] || e != api.OK {
			t.Fatalf("%s: leaf %d: %x.. %v, not %x..", toldStem(s), i, b[:2], e, want.leaves[i][:2])
		}
	}
	for _, i := range []int{-1, len(want.leaves)} {
		if b, e := stem.Leaf(&v, s, i); b != (api.Block{}) || e != api.ErrArg {
			t.Fatalf("%s: leaf %d: %v", toldStem(s), i, e)
		}
	}
}

// grown: is the root that stands there as it must be? l: the pointers that were met.
func grown(t *testing.T, v *api.Vol, p api.Ptr, at spot, want plain, l *[]api.Ptr) {
	t.Helper()
	if zeros(want.beneath(at)) {
		if p != hole {
			t.Fatalf("%v: %s, and all leaves beneath it are zeros", at, toldPtrs([]api.Ptr{p}))
		}
		return
	}
	*l = append(*l, p)
	b, e := vol.Get(v, p)
	if e != api.OK || len(sectors(p)) != want.kept(at) {
		t.Fatalf("%v: %s, %v: not %d times", at, toldPtrs([]api.Ptr{p}), e, want.kept(at))
	}
	if at.depth == 0 {
		if b != want.leaves[at.first] {
			t.Fatalf("%v: %x.., not %x..", at, b[:2], want.leaves[at.first][:2])
		}
		return
	}
	parts, e := ptr.Parts(b)
	if e != api.OK {
		t.Fatalf("%v: no node: %x", at, b)
	}
	for i, part := range at.parts() {
		grown(t, v, parts[i], part, want, l)
	}
}

// shape: a tree in words, but for its sectors.
func shape(t *testing.T, v *api.Vol, p api.Ptr, depth int) string {
	t.Helper()
	if p == hole {
		return "-"
	}
	b, e := vol.Get(v, p)
	if e != api.OK {
		t.Fatal(e)
	}
	if depth == 0 {
		return fmt.Sprintf("%d:%x", len(sectors(p)), b[:8])
	}
	parts, e := ptr.Parts(b)
	if e != api.OK {
		t.Fatal(e)
	}
	s := fmt.Sprintf("%d(", len(sectors(p)))
	for _, part := range parts {
		s += shape(t, v, part, depth-1) + " "
	}
	return s + ")"
}

// plant: lays such a tree by the chapter's words, with nothing of package stem. Each pointer is told to alter (if there is one), and what that answers stands in its stead.
func plant(t *testing.T, v *api.Vol, x plain, alter func(at spot, p api.Ptr) api.Ptr) api.Stem {
	t.Helper()
	var root func(at spot) api.Ptr
	root = func(at spot) api.Ptr {
		p := hole
		if l := x.beneath(at); at.depth == 0 {
			p = add(t, v, l[0], x.copies)
		} else if !zeros(l) {
			var parts []api.Ptr
			for _, part := range at.parts() {
				parts = append(parts, root(part))
			}
			p = add(t, v, node(t, parts...), 2)
		}
		if alter != nil {
			p = alter(at, p)
		}
		return p
	}
	return api.Stem{Root: root(spot{x.depth(), 0}), Size: x.size, Copies: x.copies}
}

// planted: such a tree on a new volume, flushed, and where each of its pointers stands.
func planted(t *testing.T, q int, x plain) (api.Vol, api.Stem, map[spot]api.Ptr) {
	t.Helper()
	v, at := fresh(t, q), map[spot]api.Ptr{}
	s := plant(t, &v, x, func(where spot, p api.Ptr) api.Ptr {
		at[where] = p
		return p
	})
	flush(t, &v)
	return v, s, at
}

// answer: what a call answers, as far as it does.
type answer struct {
	block api.Block
	list  []api.Ptr
	code  api.Errno
}

func (a answer) is(b answer) bool {
	return a.block == b.block && slices.Equal(a.list, b.list) && a.code == b.code
}

// call: one of the calls with its arguments; what it makes of plain data (ok: its arguments may be); and whether it comes by a root that stands there.
type call struct {
	name string
	run  func(v *api.Vol, s *api.Stem) answer
	must func(x plain) (next plain, ok bool)
	by   func(x plain, at spot) bool
}

func there(x plain, i int) bool { return i >= 0 && i < len(x.leaves) }

// onWay: does the way to the leaf go by what stands there?
func onWay(at spot, i int) bool { return i >= at.first && i < at.first+at.width() }

func all(plain, spot) bool { return true }

func leafing(i int) call {
	return call{
		fmt.Sprintf("leaf %d", i),
		func(v *api.Vol, s *api.Stem) answer {
			if s == nil {
				s = &api.Stem{}
			}
			b, e := stem.Leaf(v, *s, i)
			return answer{block: b, code: e}
		},
		func(x plain) (plain, bool) { return x, there(x, i) },
		func(_ plain, at spot) bool { return onWay(at, i) },
	}
}

func laying(i int, b api.Block) call {
	return call{
		fmt.Sprintf("lay %d, %x..", i, b[:2]),
		func(v *api.Vol, s *api.Stem) answer { return answer{code: stem.Lay(v, s, i, b)} },
		func(x plain) (plain, bool) {
			if !there(x, i) {
				return x, false
			}
			return x.laid(i, b), true
		},
		func(_ plain, at spot) bool { return onWay(at, i) },
	}
}

func resizing(size int) call {
	return call{
		fmt.Sprintf("resize %d", size),
		func(v *api.Vol, s *api.Stem) answer { return answer{code: stem.Resize(v, s, size)} },
		func(x plain) (plain, bool) {
			if size < 0 || size > 8192 {
				return x, false
			}
			return x.resized(size), true
		},
		// By all that has leaves that go beneath it.
		func(x plain, at spot) bool {
			n := (size + 127) / 128
			return n < len(x.leaves) && at.first+at.width() > n
		},
	}
}

func recopying(copies int) call {
	return call{
		fmt.Sprintf("recopy %d", copies),
		func(v *api.Vol, s *api.Stem) answer { return answer{code: stem.Recopy(v, s, copies)} },
		func(x plain) (plain, bool) { return x.recopied(copies), copies == 1 || copies == 2 },
		all,
	}
}

func walking() call {
	return call{
		"walk",
		func(v *api.Vol, s *api.Stem) answer {
			if s == nil {
				s = &api.Stem{}
			}
			l, e := stem.Walk(v, *s)
			return answer{list: l, code: e}
		},
		func(x plain) (plain, bool) { return x, true },
		all,
	}
}

func dropping() call {
	return call{
		"drop",
		func(v *api.Vol, s *api.Stem) answer { return answer{code: stem.Drop(v, s)} },
		func(x plain) (plain, bool) { return x.resized(0), true },
		all,
	}
}

// done: a call is done; another time it does the same. Lists that stood there, and the room behind them, stay as they were, and those that are new share nothing with them. Beside an error nothing else is answered, and stem and Space are as they were.
func done(t *testing.T, v api.Vol, s api.Stem, c call) (api.Vol, api.Stem, answer) {
	t.Helper()
	v = roomy(v)
	old, oldStem, was := v, s, whole(v)
	got := c.run(&v, &s)
	end, answered := copied(v), answer{got.block, slices.Clone(got.list), got.code}
	again, stemAgain := old, oldStem
	gotAgain := c.run(&again, &stemAgain)
	if !gotAgain.is(got) || !same(again, v) || stemAgain != s {
		t.Fatalf("%s of %s: another time %s, %s, not %s, %s", c.name, toldStem(oldStem), said(gotAgain), toldStem(stemAgain), said(got), toldStem(s))
	}
	if got.code != api.OK && (!got.is(answer{code: got.code}) || s != oldStem || !sameSpace(v.Space, old.Space)) {
		t.Fatalf("%s of %s: beside an error: %s, %s", c.name, toldStem(oldStem), said(got), toldStem(s))
	}
	spoil(v, old, got.list)
	if !same(whole(old), was) {
		t.Fatalf("%s of %s: lists that stood there, or the room behind them, are changed", c.name, toldStem(oldStem))
	}
	if !gotAgain.is(answered) || !same(again, end) {
		t.Fatalf("%s of %s: two answers share their lists", c.name, toldStem(oldStem))
	}
	return end, s, answered
}

// spoil: makes other lists of those that a call changed, and of the one that it answered.
func spoil(v, old api.Vol, l []api.Ptr) {
	for i := range l {
		l[i].A ^= 0x555
	}
	if !slices.Equal(v.Disk.Sectors, old.Disk.Sectors) || !slices.Equal(v.Disk.Cache, old.Disk.Cache) {
		for i := range v.Disk.Sectors {
			v.Disk.Sectors[i].Data[5] ^= 0x55
		}
		for i := range v.Disk.Cache {
			v.Disk.Cache[i].Data[5] ^= 0x55
		}
	}
	if !slices.Equal(v.Map.Pairs, old.Map.Pairs) {
		for i := range v.Map.Pairs {
			v.Map.Pairs[i] = api.Pair{From: -5, To: -6}
		}
	}
	if !sameSpace(v.Space, old.Space) {
		for i := range v.Space.State {
			v.Space.State[i] ^= 0x40
		}
	}
}

// check: a call on a volume on which the stem stands, with power and good sectors: what it must do, or its error; the sectors that it takes are those of the blocks that weren't there, and those of the blocks that aren't needed are left; what stood there still does. The answer is what there is then.
func check(t *testing.T, v api.Vol, s api.Stem, x plain, c call) (api.Vol, api.Stem, plain) {
	t.Helper()
	end, next, got := done(t, v, s, c)
	want, ok := c.must(x)
	code := api.OK
	if !ok {
		code = api.ErrArg
	} else if want.noRoom(x, space.Room(v.Space)) {
		code = api.ErrNoSpace
	}
	if got.code != code {
		t.Fatalf("%s of %s: %v, not %v", c.name, toldStem(s), got.code, code)
	}
	if code != api.OK {
		want = x
	}
	holds(t, end, next, want)
	if used := space.Used(v.Space) - x.sectors() + want.sectors(); space.Used(end.Space) != used {
		t.Fatalf("%s of %s: %d are in use, not %d", c.name, toldStem(s), space.Used(end.Space), used)
	}
	taken := 0
	for _, at := range want.anew(x) {
		taken += want.kept(at)
	}
	if room := sum(space.Room(v.Space)) - sum(space.Room(end.Space)); room != taken {
		t.Fatalf("%s of %s: %d were taken, not %d", c.name, toldStem(s), room, taken)
	}
	if code == api.OK && len(want.anew(x)) == 0 && !sameDisk(end.Disk, v.Disk) {
		t.Fatalf("%s of %s: nothing had to be laid, but the disk is changed", c.name, toldStem(s))
	}
	old := end
	old.Space = v.Space
	stands(t, old, s, x)
	return end, next, want
}

// refused: a call answers an error, and nothing at all is changed.
func refused(t *testing.T, v api.Vol, s api.Stem, c call, code api.Errno) {
	t.Helper()
	if end, next, got := done(t, v, s, c); got.code != code || !same(end, v) || next != s {
		t.Fatalf("%s of %s: %s, %s, not %v", c.name, toldStem(s), said(got), toldStem(next), code)
	}
}

func sum(l [2]int) int { return l[0] + l[1] }

// sectors: of a pointer, as far as they aren't None.
func sectors(p api.Ptr) []int {
	return slices.DeleteFunc([]int{p.A, p.B}, func(at int) bool { return at == -1 })
}

// room: how much stands behind lists that are handed in; no call may change it.
const room = 3

// roomy: the same volume in lists of their own, with something in the room behind them.
func roomy(v api.Vol) api.Vol {
	v = copied(v)
	for i := range room {
		v.Disk.Sectors = append(v.Disk.Sectors, api.Sector{Data: block(900 + i), NoRead: true})
		v.Disk.Cache = append(v.Disk.Cache, api.Write{Data: block(800 + i)})
		v.Map.Pairs = append(v.Map.Pairs, api.Pair{From: 700 + i, To: -i})
		v.Space.State = append(v.Space.State, 9)
	}
	v.Disk.Sectors = v.Disk.Sectors[:len(v.Disk.Sectors)-room]
	v.Disk.Cache = v.Disk.Cache[:len(v.Disk.Cache)-room]
	v.Map.Pairs = v.Map.Pairs[:len(v.Map.Pairs)-room]
	v.Space.State = v.Space.State[:len(v.Space.State)-room]
	return v
}

// whole: a copy of the volume with all that stands in the room behind its lists.
func whole(v api.Vol) api.Vol {
	v.Disk.Sectors, v.Disk.Cache = v.Disk.Sectors[:cap(v.Disk.Sectors)], v.Disk.Cache[:cap(v.Disk.Cache)]
	v.Map.Pairs, v.Space.State = v.Map.Pairs[:cap(v.Map.Pairs)], v.Space.State[:cap(v.Space.State)]
	return copied(v)
}

// copied: the same volume in lists of their own.
func copied(v api.Vol) api.Vol {
	v.Disk.Sectors, v.Disk.Cache = slices.Clone(v.Disk.Sectors), slices.Clone(v.Disk.Cache)
	v.Map.Pairs, v.Space.State = slices.Clone(v.Map.Pairs), slices.Clone(v.Space.State)
	return v
}

func sameDisk(a, b api.Disk) bool {
	return a.Fuse == b.Fuse && a.Down == b.Down && slices.Equal(a.Sectors, b.Sectors) && slices.Equal(a.Cache, b.Cache)
}

func sameSpace(a, b api.Space) bool {
	return a.At == b.At && a.Size == b.Size && bytes.Equal(a.State, b.State)
}

func same(a, b api.Vol) bool {
	return sameDisk(a.Disk, b.Disk) && a.Map.Gen == b.Map.Gen && slices.Equal(a.Map.Pairs, b.Map.Pairs) && sameSpace(a.Space, b.Space)
}

func toldPtrs(l []api.Ptr) string {
	s := "["
	for _, p := range l {
		s += fmt.Sprintf(" %d,%d,%x..", p.A, p.B, p.Sum[:2])
	}
	return s + " ]"
}

func toldStem(s api.Stem) string {
	return fmt.Sprintf("stem of %d bytes, %d times, %s", s.Size, s.Copies, toldPtrs([]api.Ptr{s.Root}))
}

func said(a answer) string {
	return fmt.Sprintf("%v, block %x.., %s", a.code, a.block[:2], toldPtrs(a.list))
}

// block: a block like no other one of another number, and not of zeros.
func block(n int) api.Block {
	var b api.Block
	for i := range b {
		b[i] = byte(n>>(8*(i%3)) + i*7)
	}
	return b
}

// blocks: so many.
func blocks(n int) []api.Block {
	var l []api.Block
	for i := range n {
		l = append(l, block(i+1))
	}
	return l
}

func sumOf(b api.Block) api.Sum { return sha.Sum(b[:]) }

// fresh: a new volume.
func fresh(t *testing.T, q int) api.Vol {
	t.Helper()
	v, e := vol.New(q)
	if e != api.OK {
		t.Fatal(q, e)
	}
	return v
}

// empty: a stem of no bytes.
func empty(copies int) api.Stem { return api.Stem{Root: hole, Copies: copies} }

func add(t *testing.T, v *api.Vol, b api.Block, copies int) api.Ptr {
	t.Helper()
	p, e := vol.Add(v, b, copies)
	if e != api.OK {
		t.Fatal(copies, e)
	}
	return p
}

func node(t *testing.T, parts ...api.Ptr) api.Block {
	t.Helper()
	b, e := ptr.Node(parts...)
	if e != api.OK {
		t.Fatal(e)
	}
	return b
}

func flush(t *testing.T, v *api.Vol) {
	t.Helper()
	if e := disk.Flush(&v.Disk); e != api.OK {
		t.Fatal(e)
	}
}

// What may become of a sector.
const (
	rotten = 1 << iota // a byte is another one
	unread             // it can't be read
	unwrit             // it can't be written
)

// hit: all of that becomes of sectors, wherever they stand by now.
func hit(t *testing.T, v *api.Vol, how int, at ...int) {
	t.Helper()
	for _, n := range at {
		for kind := 1; kind <= 3; kind++ {
			if how>>(kind-1)&1 == 0 {
				continue
			}
			if e := disk.Hit(&v.Disk, remap.At(v.Map, n), kind, (n*11)%128, 1<<(n%8)); e != api.OK {
				t.Fatal(n, kind, e)
			}
		}
	}
}

// crowded: the same volume, in which so many sectors of each region are free, the last ones, and no others are in use.
func crowded(v api.Vol, room [2]int) api.Vol {
	v = copied(v)
	for r, left := range room {
		states := v.Space.State[r*v.Space.Size:][:v.Space.Size]
		for i := len(states) - 1; i >= 0; i-- {
			if states[i] != api.Free {
				continue
			}
			if left--; left < 0 {
				states[i] = api.Leaving
			}
		}
	}
	return v
}

// span: the numbers from the first one to the last one.
func span(first, last int) []int {
	var l []int
	for n := first; n <= last; n++ {
		l = append(l, n)
	}
	return l
}

// extremes: numbers far from all that are right, or that look like one in fewer bytes.
func extremes() []int {
	return []int{math.MinInt, math.MinInt + 1, math.MinInt + 128, math.MinInt / 2, math.MinInt32, -1 << 32, -1<<32 + 1, -8192, -129, -128, -127, -3, -2, -1, 8193, 8320, 65536, 65537, math.MaxInt32, math.MaxUint32, 1 << 32, 1<<32 + 1, 1<<32 + 2, 1<<32 + 128, 1 << 62, 1<<62 + 1, math.MaxInt / 2, math.MaxInt - 127, math.MaxInt - 1, math.MaxInt}
}

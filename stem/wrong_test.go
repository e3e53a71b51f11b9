package stem_test

import (
	"math"
	"testing"

	"lazaret/api"
	"lazaret/disk"
	"lazaret/ptr"
	"lazaret/remap"
	"lazaret/space"
	"lazaret/stem"
	"lazaret/vol"
)

// Stems and volumes that aren't as they must be, and trees that are hit.

// wrongStems: of a right one, each wrong in one thing alone.
func wrongStems(s api.Stem) []api.Stem {
	var l []api.Stem
	with := func(how func(x *api.Stem)) {
		x := s
		how(&x)
		l = append(l, x)
	}
	for _, root := range []api.Ptr{{A: -1, B: -1, Sum: api.Sum{31: 1}}, {A: -1, B: 5}, {A: -2, B: -1}, {A: 4096, B: -1}, {A: 28, B: 28}, {A: 28, B: -2}, {A: 28, B: 4096}, {A: math.MinInt, B: -1}, {A: 28, B: math.MaxInt}, {A: 1<<32 + 28, B: 1<<32 + 184}} {
		with(func(x *api.Stem) { x.Root = root })
	}
	for _, size := range extremes() {
		with(func(x *api.Stem) { x.Size = size })
	}
	for _, copies := range append(extremes(), -1, 0, 3, 4, 5) {
		if copies != 1 && copies != 2 {
			with(func(x *api.Stem) { x.Copies = copies })
		}
	}
	return l
}

// calls: all calls, with arguments that may be, for stems of four leaves, and such as may not.
func calls() []call {
	return []call{leafing(0), leafing(3), leafing(4), leafing(-1), laying(0, block(50)), laying(3, api.Block{}), laying(9, block(50)), resizing(0), resizing(130), resizing(400), resizing(8192), resizing(-1), resizing(8193), recopying(1), recopying(2), recopying(0), walking(), dropping()}
}

// A stem that isn't right: ErrArg, and nothing is changed, ahead of ErrDown, and of all that could come of its tree.
func TestWrongStems(t *testing.T) {
	t.Parallel()
	for _, n := range []int{0, 4} {
		v, s, _ := planted(t, 4, patterned(n, 2, func(int) bool { return true }))
		down := v
		down.Disk.Down = true
		for _, x := range wrongStems(s) {
			for _, c := range calls() {
				refused(t, v, x, c, api.ErrArg)
				refused(t, down, x, c, api.ErrArg)
			}
		}
	}
}

// Roots that are right, but not Mine: other sectors, ones that aren't in use, and ones that no region has.
func TestRootsOfOthers(t *testing.T) {
	v, s, _ := planted(t, 4, patterned(4, 2, func(int) bool { return true }))
	gone := add(t, &v, block(80), 2)
	kept := add(t, &v, block(81), 2)
	space.Settle(&v.Space)
	for _, p := range []api.Ptr{gone, kept} {
		if e := vol.Drop(&v, p); e != api.OK {
			t.Fatal(e)
		}
	}
	sum := s.Root.Sum
	for _, root := range []api.Ptr{
		gone, kept, {A: gone.A, B: -1, Sum: sum}, {A: s.Root.A, B: gone.B, Sum: sum}, {A: kept.A, B: s.Root.B, Sum: sum},
		{A: 140, B: 290, Sum: sum}, {A: s.Root.A, B: 290, Sum: sum}, {A: 140, B: s.Root.B, Sum: sum}, {A: 140, B: -1, Sum: sum},
		{A: 2, B: 158, Sum: sum}, {A: s.Root.A, B: 312, Sum: sum}, {A: 0, B: 1, Sum: sum}, {A: 332, B: 4095, Sum: sum}, {A: 4095, B: -1},
	} {
		x := s
		x.Root = root
		for _, size := range []int{0, 100, 400} {
			x.Size = size
			if !stem.Right(x) {
				t.Fatal(toldStem(x))
			}
			for _, c := range calls() {
				refused(t, v, x, c, api.ErrArg)
			}
		}
	}
}

// Volumes that aren't right: ErrArg of a stem without blocks too.
func TestWrongVolumes(t *testing.T) {
	good, s, _ := planted(t, 4, patterned(4, 2, func(int) bool { return true }))
	var l []api.Vol
	with := func(how func(v *api.Vol)) {
		v := copied(good)
		how(&v)
		l = append(l, v)
		v.Disk.Down = true
		l = append(l, v)
	}
	with(func(v *api.Vol) { *v = api.Vol{} })
	with(func(v *api.Vol) { v.Disk.Sectors = v.Disk.Sectors[1:] })
	with(func(v *api.Vol) { v.Disk.Sectors = nil })
	with(func(v *api.Vol) { v.Disk.Cache = []api.Write{{At: 332}} })
	with(func(v *api.Vol) { v.Disk.Cache = []api.Write{{At: -1}} })
	with(func(v *api.Vol) { v.Map.Gen = -1 })
	with(func(v *api.Vol) { v.Map.Gen = 1<<62 + 1 })
	with(func(v *api.Vol) { v.Map.Pairs = []api.Pair{{From: 28, To: 29}} })
	with(func(v *api.Vol) { v.Space = api.Space{} })
	with(func(v *api.Vol) { v.Space.State = v.Space.State[1:] })
	with(func(v *api.Vol) { v.Space.State[200] = 5 })
	with(func(v *api.Vol) { v.Space.At[0]++ })
	with(func(v *api.Vol) { v.Space.At[1]-- })
	with(func(v *api.Vol) { v.Space.Size, v.Space.State = 127, v.Space.State[:254] })
	with(func(v *api.Vol) { v.Space = fresh(t, 5).Space })
	for _, v := range l {
		for _, x := range []api.Stem{s, empty(1), {Root: hole, Size: 400, Copies: 2}} {
			for _, c := range calls() {
				old, next := copied(v), x
				if got := c.run(&old, &next); !got.is(answer{code: api.ErrArg}) || !same(old, v) || next != x {
					t.Errorf("%s: %s", c.name, said(got))
				}
			}
		}
	}
	for _, c := range calls() {
		x := empty(1)
		if got := c.run(nil, &x); !got.is(answer{code: api.ErrArg}) || x != empty(1) {
			t.Errorf("no volume: %s: %s", c.name, said(got))
		}
		v := copied(good)
		if got := c.run(&v, nil); !got.is(answer{code: api.ErrArg}) || !same(v, good) {
			t.Errorf("no stem: %s: %s", c.name, said(got))
		}
		if got := c.run(nil, nil); !got.is(answer{code: api.ErrArg}) {
			t.Errorf("nothing at all: %s: %s", c.name, said(got))
		}
	}
}

// treeCalls: what may be done to a stem of ten leaves, or more, by all of its ways.
func treeCalls(x plain) []call {
	l := []call{recopying(1), recopying(2), walking(), dropping()}
	for _, i := range []int{0, 2, 4, 8, 9} {
		l = append(l, leafing(i), laying(i, block(50)), laying(i, api.Block{}), laying(i, x.leaves[i]))
	}
	for _, size := range sizes() {
		l = append(l, resizing(size), resizing(size/2))
	}
	return l
}

// hitAt: of a tree of ten leaves what stands there is hit, or is another block; each call that comes by answers the error, and nothing is changed but what was made well on the way; each other one does what it must.
func hitAt(t *testing.T, v api.Vol, s api.Stem, x plain, at spot, code api.Errno) {
	t.Helper()
	for _, c := range treeCalls(x) {
		if c.by(x, at) {
			refused(t, v, s, c, code)
			// What can't be read is told ahead of what finds no room.
			for _, room := range []int{0, 1} {
				refused(t, crowded(v, [2]int{room, room}), s, c, code)
			}
			continue
		}
		end, next, got := done(t, v, s, c)
		want, _ := c.must(x)
		if got.code != api.OK || next.Size != want.size || next.Copies != want.copies {
			t.Fatalf("%v: %s: %s, %s", at, c.name, said(got), toldStem(next))
		}
		for i := range want.leaves {
			b, e := stem.Leaf(&end, next, i)
			bad := onWay(at, i)
			if bad && (b != api.Block{} || e != code) || !bad && (b != want.leaves[i] || e != api.OK) {
				t.Fatalf("%v: %s: leaf %d: %x.. %v", at, c.name, i, b[:2], e)
			}
		}
	}
}

// inner: where the nodes of a tree of ten leaves stand.
func inner() []spot { return []spot{{3, 0}, {2, 0}, {1, 0}, {1, 3}, {1, 6}, {2, 9}, {1, 9}} }

// Nodes both copies of which can't be read: ErrIO.
func TestNodesThatCanNotBeRead(t *testing.T) {
	t.Parallel()
	x := patterned(10, 1, func(int) bool { return true })
	for _, at := range inner() {
		for how, second := range []int{unread, unread, rotten, rotten | unread} {
			v, s, where := planted(t, 20, x)
			hit(t, &v, []int{unread, rotten, rotten, unread | unwrit}[how], where[at].A)
			hit(t, &v, second, where[at].B)
			hitAt(t, v, s, x, at, api.ErrIO)
		}
	}
}

// notNodes: blocks that have other bytes than a node's.
func notNodes(t *testing.T, p api.Ptr) []api.Block {
	good := node(t, p)
	l := []api.Block{block(60), {5: 1}}
	with := func(at int, b ...byte) {
		x := good
		copy(x[at:], b)
		l = append(l, x)
	}
	for _, at := range []int{120, 127} {
		with(at, 1)
	}
	with(0, 0xff, 0xff, 0xff, 0xff)
	with(4, good[0], good[1], good[2], good[3])
	with(0, 0, 16, 0, 0)
	with(4, 0, 16, 0, 0)
	with(40, 1, 0, 0, 0, 1, 0, 0, 0)
	with(79, 1)
	with(119, 1)
	with(80, 0xfe, 0xff, 0xff, 0xff)
	return l
}

// Nodes that have other bytes than a node's: ErrDamage. They stand twice, and their pointers fit them.
func TestNodesThatAreNone(t *testing.T) {
	t.Parallel()
	x := patterned(10, 1, func(int) bool { return true })
	for k, at := range inner() {
		for i := range notNodes(t, api.Ptr{A: 28, B: 180}) {
			if i%7 != k && k != 2 {
				continue
			}
			v := fresh(t, 20)
			s := plant(t, &v, x, func(where spot, p api.Ptr) api.Ptr {
				if where != at {
					return p
				}
				b, e := vol.Get(&v, p)
				if e != api.OK {
					t.Fatal(e)
				}
				parts, _ := ptr.Parts(b)
				return add(t, &v, notNodes(t, parts[0])[i], 2)
			})
			flush(t, &v)
			hitAt(t, v, s, x, at, api.ErrDamage)
		}
	}
}

// Nodes with a pointer that isn't Mine, on the way or beside it: ErrDamage.
func TestNodesWithPointersOfOthers(t *testing.T) {
	t.Parallel()
	x := patterned(10, 2, func(int) bool { return true })
	for k, at := range inner() {
		for nth, part := range at.parts() {
			for how := range 8 {
				if how%3 != (k+nth)%3 && k != 2 {
					continue
				}
				v := fresh(t, 20)
				var gone api.Ptr
				s := plant(t, &v, x, func(where spot, p api.Ptr) api.Ptr {
					if where != part || where.first > 9 {
						return p
					}
					gone = p
					sum := sumOf(block(61))
					return []api.Ptr{p, p, p, p, {A: 2, B: -1, Sum: sum}, {A: 4095, B: p.B, Sum: sum}, {A: 100, B: p.B, Sum: p.Sum}, {A: p.A, B: 300, Sum: p.Sum}}[how]
				})
				if part.first > 9 {
					continue
				}
				flush(t, &v)
				if how == 1 || how == 2 {
					space.Settle(&v.Space)
				}
				switch how {
				case 0, 1:
					vol.Drop(&v, gone)
				case 2:
					vol.Drop(&v, api.Ptr{A: gone.A, B: -1})
				case 3:
					vol.Drop(&v, api.Ptr{A: gone.B, B: -1})
				}
				hitAt(t, v, s, x, at, api.ErrDamage)
			}
		}
	}
}

// A stem that is told to be deeper than it is has a leaf where a node must be; one that is told to be less deep has a node for a leaf.
func TestOtherDepths(t *testing.T) {
	v, s, _ := planted(t, 4, of(100, 2, block(1)))
	s.Size = 300
	for _, c := range []call{leafing(0), leafing(2), laying(1, block(2)), laying(1, api.Block{}), resizing(256), resizing(100), resizing(0), recopying(1), recopying(2), walking(), dropping()} {
		refused(t, v, s, c, api.ErrDamage)
	}
	v, s, _ = planted(t, 4, of(300, 2, block(1)))
	s.Size = 100
	want, e := vol.Get(&v, s.Root)
	if _, _, got := done(t, v, s, leafing(0)); e != api.OK || !got.is(answer{block: want}) {
		t.Error(said(got))
	}
	if _, _, got := done(t, v, s, walking()); !got.is(answer{list: []api.Ptr{s.Root}}) {
		t.Error(said(got))
	}
}

// A stem whose leaf is there another number of times than it says: what is laid anew, or kept so many times, is as it says from then on.
func TestOtherCopies(t *testing.T) {
	for copies := 1; copies <= 2; copies++ {
		for _, x := range []plain{of(100, 3-copies, block(1)), of(300, 3-copies, block(1))} {
			v, s, _ := planted(t, 4, x)
			s.Copies = copies
			for _, c := range []call{laying(0, block(1)), recopying(copies)} {
				end, next, got := done(t, v, s, c)
				if got.code != api.OK {
					t.Fatal(said(got))
				}
				holds(t, end, next, x.recopied(copies))
			}
		}
	}
}

// Trees two of whose pointers have one sector: whatever is answered, beside an error all is as it was.
func TestSharedSectors(t *testing.T) {
	v := fresh(t, 4)
	p, q := add(t, &v, block(1), 2), add(t, &v, block(2), 2)
	for _, parts := range [][]api.Ptr{{p, p}, {p, p, p}, {p, q, p}, {p, {A: p.A, B: q.B, Sum: p.Sum}, q}, {{A: p.A, B: -1, Sum: p.Sum}, p}} {
		v := copied(v)
		s := api.Stem{Root: add(t, &v, node(t, parts...), 2), Size: 384, Copies: 2}
		for i, part := range parts {
			want := block(1)
			if part == q {
				want = block(2)
			}
			if _, _, got := done(t, v, s, leafing(i)); !got.is(answer{block: want}) {
				t.Error(said(got))
			}
		}
		for _, c := range []call{dropping(), resizing(0)} {
			refused(t, v, s, c, api.ErrDamage)
		}
		for _, c := range []call{recopying(1), recopying(2), resizing(256), resizing(100), laying(0, block(3)), laying(2, api.Block{}), walking()} {
			done(t, v, s, c)
		}
	}
}

// One copy of each node is hit, the first or the second one: all is as if nothing were, and a first one that was met is well again.
func TestOneCopyIsHit(t *testing.T) {
	t.Parallel()
	x := patterned(28, 2, func(i int) bool { return i%6 != 4 })
	good, s, at := planted(t, 40, x)
	for r := range 2 {
		for _, how := range []int{rotten, unread, rotten | unread} {
			v := copied(good)
			for _, p := range at {
				if p != hole {
					hit(t, &v, how, sectors(p)[r])
				}
			}
			for _, c := range treeCalls(x) {
				end, next, got := done(t, v, s, c)
				if got.code != api.OK {
					t.Fatalf("%s: %s", c.name, said(got))
				}
				want, _ := c.must(x)
				holds(t, end, next, want)
			}
			end, _, _ := done(t, v, s, walking())
			for where, p := range at {
				b, e := remap.Read(&end.Disk, end.Map, p.A)
				if where.depth > 0 && p != hole && (e != api.OK || !ptr.Fits(p, b)) {
					t.Fatalf("%v isn't well again", where)
				}
			}
		}
	}
}

// All of one region is hit in each way: what is kept twice is as if nothing were.
func TestOneRegionIsHit(t *testing.T) {
	t.Parallel()
	x := patterned(64, 2, func(i int) bool { return i%7 != 3 })
	good, s, _ := planted(t, 60, x)
	for r := range 2 {
		for _, how := range []int{rotten, unread, rotten | unread} {
			v := copied(good)
			hit(t, &v, how, span(v.Space.At[r], v.Space.At[r]+v.Space.Size-1)...)
			holds(t, v, s, x)
			for _, c := range []call{laying(0, block(300)), laying(63, block(301)), laying(5, x.leaves[5]), resizing(1200), resizing(128), recopying(1), dropping()} {
				want, _ := c.must(x)
				end, next, got := done(t, v, s, c)
				if got.code != api.OK {
					t.Fatalf("%s: %s", c.name, said(got))
				}
				flush(t, &end)
				holds(t, end, next, want)
			}
		}
	}
}

// A leaf that can't be read: its own reading, and its being kept more often, tell that; all else goes on, and it may be laid anew: as it was, too.
func TestLeavesThatCanNotBeRead(t *testing.T) {
	for copies := 1; copies <= 2; copies++ {
		x := patterned(10, copies, func(int) bool { return true })
		for _, i := range []int{0, 4, 9} {
			for _, how := range []int{rotten, unread, rotten | unread | unwrit} {
				v, s, at := planted(t, 20, x)
				hit(t, &v, how, sectors(at[spot{0, i}])...)
				refused(t, v, s, leafing(i), api.ErrIO)
				end, next, got := done(t, v, s, recopying(3-copies))
				if got.code != api.ErrIO || next != s || !sameSpace(end.Space, v.Space) {
					t.Fatal(said(got))
				}
				for _, b := range []api.Block{x.leaves[i], block(90), {}} {
					end, next, got := done(t, v, s, laying(i, b))
					if got.code != api.OK {
						t.Fatal(said(got))
					}
					holds(t, end, next, x.laid(i, b))
					if used := space.Used(end.Space); used != x.laid(i, b).sectors() {
						t.Fatal(used)
					}
				}
				for _, c := range []call{walking(), dropping(), resizing(0), resizing(128 * i), leafing((i + 1) % 10), recopying(copies)} {
					if _, _, got := done(t, v, s, c); got.code != api.OK {
						t.Fatalf("%s: %s", c.name, said(got))
					}
				}
			}
		}
	}
}

// taken: the sectors that were free, and are in use.
func taken(was, is api.Space) []int {
	var l []int
	for i, x := range is.State {
		if was.State[i] == api.Free && x == api.Fresh {
			l = append(l, is.At[i/is.Size]+i%is.Size)
		}
	}
	return l
}

// Sectors that can't be written, each alone, are replaced; where no spare one is left that is told, and all is as it was.
func TestSectorsThatCanNotBeWritten(t *testing.T) {
	t.Parallel()
	x := patterned(10, 1, func(int) bool { return true })
	good, s, _ := planted(t, 20, x)
	spare := span(len(good.Disk.Sectors)-20, len(good.Disk.Sectors)-1)
	for _, c := range []call{laying(0, block(70)), laying(9, api.Block{}), recopying(2), resizing(8192), resizing(500), resizing(130)} {
		want, _ := c.must(x)
		end, next, _ := check(t, good, s, x, c)
		l := taken(good.Space, end.Space)
		if len(l) == 0 {
			t.Fatal(c.name)
		}
		for _, at := range l {
			v := copied(good)
			hit(t, &v, unwrit, at)
			end, next, got := done(t, v, s, c)
			if got.code != api.OK || end.Map.Gen != 1 {
				t.Fatalf("%s, %d: %s", c.name, at, said(got))
			}
			holds(t, end, next, want)
			hit(t, &v, unwrit, spare...)
			end, next, got = done(t, v, s, c)
			if got.code != api.ErrSpares || next != s {
				t.Fatalf("%s, %d: %s", c.name, at, said(got))
			}
			holds(t, end, next, x)
			disk.Crash(&end.Disk)
			holds(t, end, next, x)
		}
		holds(t, end, next, want)
	}
}

package flow_test

import (
	"math"
	"slices"
	"testing"

	"lazaret/api"
	"lazaret/disk"
	"lazaret/flow"
	"lazaret/ptr"
	"lazaret/remap"
	"lazaret/space"
	"lazaret/vol"
)

// Stems and volumes that aren't as they must be, and trees that are hit.

// calls: all calls, with arguments that may be, for a stem of four leaves, and such as may not.
func calls() []call {
	return []call{
		reading(0, 0), reading(0, 500), reading(9000, 1), reading(-1, 5), reading(5, -1),
		writing(0, nil), writing(100, noise(2, 300)), writing(3, make([]byte, 5)), writing(-1, nil), writing(8192, noise(2, 1)), writing(9000, nil),
		cutting(0), cutting(100), cutting(400), cutting(3000), cutting(-1), cutting(8193),
		filling(nil), filling(noise(2, 300)), filling(noise(2, 8193)),
		holing(),
	}
}

// A stem that isn't right: ErrArg, ahead of all else, and nothing is changed.
func TestWrongStems(t *testing.T) {
	t.Parallel()
	for _, size := range []int{0, 400} {
		v, s, _, _ := planted(t, 4, plain{noise(1, size), 2})
		down := v
		down.Disk.Down = true
		var l []api.Stem
		with := func(how func(x *api.Stem)) {
			x := s
			how(&x)
			l = append(l, x)
		}
		for _, root := range []api.Ptr{{A: -1, B: -1, Sum: api.Sum{31: 1}}, {A: -1, B: 5}, {A: -2, B: -1}, {A: 4096, B: -1}, {A: 28, B: 28}, {A: 28, B: -2}, {A: 28, B: 4096}, {A: math.MinInt, B: -1}, {A: 28, B: math.MaxInt}} {
			with(func(x *api.Stem) { x.Root = root })
		}
		for _, n := range extremes() {
			with(func(x *api.Stem) { x.Size = n })
		}
		for _, n := range append(extremes(), 0, 3, 4) {
			with(func(x *api.Stem) { x.Copies = n })
		}
		for _, x := range l {
			for _, c := range calls() {
				refused(t, v, x, c, api.ErrArg)
				refused(t, down, x, c, api.ErrArg)
			}
		}
	}
}

// Roots that are right, but not Mine: sectors that aren't in use, or that no region has.
func TestRootsOfOthers(t *testing.T) {
	v, s, _, _ := planted(t, 4, plain{noise(1, 400), 2})
	gone, kept := add(t, &v, api.Block{80}, 2), add(t, &v, api.Block{81}, 2)
	space.Settle(&v.Space)
	for _, p := range []api.Ptr{gone, kept} {
		if e := vol.Drop(&v, p); e != api.OK {
			t.Fatal(e)
		}
	}
	swept := add(t, &v, api.Block{82}, 1)
	vol.Drop(&v, swept)
	space.Sweep(&v.Space)
	sum := s.Root.Sum
	for _, root := range []api.Ptr{
		gone, kept, swept, {A: gone.A, B: -1, Sum: sum}, {A: s.Root.A, B: gone.B, Sum: sum}, {A: kept.A, B: s.Root.B, Sum: sum},
		{A: 140, B: 290, Sum: sum}, {A: s.Root.A, B: 290, Sum: sum}, {A: 140, B: -1, Sum: sum}, {A: 2, B: 158, Sum: sum},
		{A: s.Root.A, B: 312, Sum: sum}, {A: 0, B: 1, Sum: sum}, {A: 332, B: 4095, Sum: sum}, {A: 4095, B: -1},
	} {
		for _, size := range []int{0, 100, 400} {
			for _, c := range calls() {
				refused(t, v, api.Stem{Root: root, Size: size, Copies: 2}, c, api.ErrArg)
			}
		}
	}
}

// Volumes that aren't right, and none at all: ErrArg of a stem without blocks too.
func TestWrongVolumes(t *testing.T) {
	good, s, _, _ := planted(t, 4, plain{noise(1, 400), 2})
	var l []api.Vol
	with := func(how func(v *api.Vol)) {
		v := copied(good)
		how(&v)
		l = append(l, v)
		v.Disk.Down = true
		l = append(l, v)
	}
	with(func(v *api.Vol) { *v = api.Vol{} })
	with(func(v *api.Vol) { v.Disk.Sectors = v.Disk.Sectors[1:] })
	with(func(v *api.Vol) { v.Disk.Sectors = nil })
	with(func(v *api.Vol) { v.Disk.Cache = []api.Write{{At: 332}} })
	with(func(v *api.Vol) { v.Map.Gen = -1 })
	with(func(v *api.Vol) { v.Map.Pairs = []api.Pair{{From: 28, To: 29}} })
	with(func(v *api.Vol) { v.Space = api.Space{} })
	with(func(v *api.Vol) { v.Space.State = v.Space.State[1:] })
	with(func(v *api.Vol) { v.Space.State[200] = 5 })
	with(func(v *api.Vol) { v.Space.At[0]++ })
	with(func(v *api.Vol) { v.Space.At[1]-- })
	with(func(v *api.Vol) { v.Space = fresh(t, 5).Space })
	stems := []api.Stem{s, empty(1), {Root: hole, Size: 400, Copies: 2}}
	for _, c := range calls() {
		for _, x := range stems {
			for _, v := range l {
				old, next := copied(v), x
				if got := c.run(&old, &next); !got.is(answer{code: api.ErrArg}) || !same(old, v) || next != x {
					t.Errorf("%s: %s", c.name, said(got))
				}
			}
			if got := c.run(nil, &x); !got.is(answer{code: api.ErrArg}) {
				t.Errorf("no volume: %s: %s", c.name, said(got))
			}
		}
		v := copied(good)
		if got := c.run(&v, nil); !got.is(answer{code: api.ErrArg}) || !same(v, good) {
			t.Errorf("no stem: %s: %s", c.name, said(got))
		}
		if got := c.run(nil, nil); !got.is(answer{code: api.ErrArg}) {
			t.Errorf("nothing at all: %s: %s", c.name, said(got))
		}
	}
	if e := flow.Write(&good, nil, 0, nil); e != api.ErrArg {
		t.Error(e)
	}
}

// goesOn: a call of which what can't be read is no matter: it does what it must; each byte is read, but for those of the leaves that can't be.
func goesOn(t *testing.T, v api.Vol, s api.Stem, x plain, c call, bad ...int) {
	t.Helper()
	end, next, got := done(t, v, s, c)
	want, must := c.must(x)
	if !got.is(must) || next.Size != len(want.b) || next.Copies != want.copies || space.Used(end.Space) != want.sectors() {
		t.Fatalf("%s: %s, %s, not %s", c.name, said(got), toldStem(next), said(must))
	}
	is, was := want.leaves(), x.leaves()
	for i := range is {
		b, e := flow.Read(&end, next, 128*i, 128)
		left := slices.Contains(bad, i) && i < len(was) && is[i] == was[i]
		switch {
		case e == api.OK && slices.Equal(b, want.b[128*i:min(len(want.b), 128*i+128)]):
		case left && e == api.ErrIO && len(b) == 0:
		default:
			t.Fatalf("%s: leaf %d: %s, %v", c.name, i, told(b), e)
		}
	}
}

// Leaves that can't be read: what asks for one of their bytes, or must keep some of them beside others, is told; all else goes on, and what is written over wholly is read again.
func TestLeavesThatCanNotBeRead(t *testing.T) {
	t.Parallel()
	for copies := 1; copies <= 2; copies++ {
		x := plain{noise(1, 1300), copies}
		good, s, _, leaves := planted(t, 20, x)
		list := append(mixed(), writing(0, noise(2, 1300)), writing(1280, noise(2, 20)), writing(1280, noise(2, 19)), writing(1281, noise(2, 400)), writing(1300, noise(2, 9)), writing(1408, noise(2, 9)),
			writing(0, x.b), writing(128, x.b[128:256]), writing(130, x.b[130:250]), cutting(1280), cutting(1299), cutting(1300), cutting(1301), cutting(129), cutting(127), filling(x.b))
		for i := range 11 {
			list = append(list, reading(128*i, 128), reading(128*i+127, 1), reading(128*i+128, 500), reading(0, 128*i), writing(128*i, noise(2, 1)), writing(128*i, noise(2, 128)), writing(128*i, make([]byte, 128)))
		}
		for k, bad := range [][]int{{0}, {1}, {5}, {9}, {10}, {0, 10}, {3, 4, 5}, {0, 1, 2, 3, 4, 5, 6, 7, 8, 9, 10}} {
			v := copied(good)
			for _, i := range bad {
				hit(t, &v, 1+(k+copies)%2, sectorsOf(leaves[i])...)
			}
			for _, c := range list {
				if slices.ContainsFunc(bad, func(i int) bool { return c.reads(x, i) }) {
					refused(t, v, s, c, api.ErrIO)
					// That is told ahead of no room.
					refused(t, crowded(v, [2]int{}), s, c, api.ErrIO)
					continue
				}
				goesOn(t, v, s, x, c, bad...)
			}
		}
	}
}

// beneath: has the call to do with any leaf from the first one to ahead of the last one? (It lays it, reads it, or takes it away.)
func beneath(x plain, c call, first, last int) bool {
	want, _ := c.must(x)
	was, is := x.leaves(), want.leaves()
	for i := first; i < min(last, len(was)); i++ {
		if c.reads(x, i) || i >= len(is) || is[i] != was[i] {
			return true
		}
	}
	return false
}

// failed: a call answers an error, beside which stem and Space are as they were, and so is all that may be read.
func failed(t *testing.T, v api.Vol, s api.Stem, c call, code api.Errno) {
	t.Helper()
	end, _, got := done(t, v, s, c)
	if got.code != code {
		t.Fatalf("%s of %s: %s, not %v", c.name, toldStem(s), said(got), code)
	}
	for at := 0; at < s.Size; at += 128 {
		b, e := flow.Read(&v, s, at, 128)
		if is, f := flow.Read(&end, s, at, 128); !slices.Equal(b, is) || e != f {
			t.Fatalf("%s of %s: at %d: %s, %v, not %s, %v", c.name, toldStem(s), at, told(is), f, told(b), e)
		}
	}
}

// Nodes that can't be read, or that are none, or have a pointer of others: what comes by is told that; what doesn't goes on.
func TestBadNodes(t *testing.T) {
	t.Parallel()
	x := plain{noise(1, 1300), 1}
	// The nodes of eleven leaves, as they are planted, and the leaves beneath them.
	spans := [][2]int{{0, 3}, {3, 6}, {6, 9}, {9, 11}, {0, 9}, {9, 11}, {0, 11}}
	good, s, nodes, leaves := planted(t, 20, x)
	if len(nodes) != len(spans) {
		t.Fatal(len(nodes))
	}
	list := append(mixed(), reading(0, 5), reading(400, 5), reading(800, 5), reading(1200, 100), reading(383, 2), writing(0, noise(2, 130)), writing(384, noise(2, 384)), writing(1200, noise(2, 20)), cutting(1200), cutting(1150))
	for k, span := range spans {
		unread := copied(good)
		hit(t, &unread, 2, nodes[k].A)
		hit(t, &unread, 1, nodes[k].B)
		for _, c := range list {
			if beneath(x, c, span[0], span[1]) {
				failed(t, unread, s, c, api.ErrIO)
			}
		}
	}
	// Pointers of others: a leaf isn't in use any more.
	for i, p := range leaves {
		v := copied(good)
		if e := vol.Drop(&v, p); e != api.OK {
			t.Fatal(e)
		}
		for _, c := range list {
			if beneath(x, c, i, i+1) {
				failed(t, v, s, c, api.ErrDamage)
			}
		}
		// What doesn't come by that leaf's node.
		far := (i/3*3*128 + 640) % 1152
		if _, must := reading(far, 3).must(x); i < 9 {
			if _, _, got := done(t, v, s, reading(far, 3)); !got.is(must) {
				t.Errorf("leaf %d: at %d: %s", i, far, said(got))
			}
		}
	}
	// A stem that is told to be deeper than it is has a leaf where a node must be.
	v, s, _, _ := planted(t, 4, plain{noise(1, 100), 2})
	s.Size = 300
	for _, c := range []call{reading(0, 1), reading(299, 5), writing(0, noise(2, 1)), writing(0, noise(2, 300)), cutting(0), cutting(10), cutting(256), filling(nil), filling(noise(2, 9)), filling(noise(2, 300)), holing()} {
		failed(t, v, s, c, api.ErrDamage)
	}
}

// One copy of everything is hit, in one region: what is kept twice is as if nothing were, whatever is done.
func TestOneRegionIsHit(t *testing.T) {
	t.Parallel()
	x := plain{holed(1300, func(i int) bool { return i == 5 }), 2}
	good, s, _, _ := planted(t, 20, x)
	for r := range 2 {
		for kind := 1; kind <= 2; kind++ {
			v := copied(good)
			for at := range v.Space.Size {
				hit(t, &v, kind, v.Space.At[r]+at)
			}
			holds(t, v, s, x)
			for _, c := range mixed() {
				end, next, got := done(t, v, s, c)
				want, must := c.must(x)
				if !got.is(must) {
					t.Fatalf("%s: %s", c.name, said(got))
				}
				flush(t, &end)
				holds(t, end, next, want)
			}
		}
	}
}

// A leaf that is kept twice, and one copy of which can't be read, is made well by whoever reads it.
func TestMadeWell(t *testing.T) {
	x := plain{noise(1, 500), 2}
	v, s, _, leaves := planted(t, 20, x)
	hit(t, &v, 2, leaves[2].A)
	v, _, got := done(t, v, s, reading(300, 10))
	if !got.is(answer{b: x.b[300:310]}) {
		t.Fatal(said(got))
	}
	flush(t, &v)
	if b, e := remap.Read(&v.Disk, v.Map, leaves[2].A); e != api.OK || b != x.leaves()[2] {
		t.Error(e, told(b[:]))
	}
	hit(t, &v, 2, leaves[2].B)
	holds(t, v, s, x)
}

// Sectors that can't be written are replaced; where no spare one is left that is told, and all is as it was.
func TestSectorsThatCanNotBeWritten(t *testing.T) {
	t.Parallel()
	x := plain{noise(1, 1300), 1}
	good, s, _, _ := planted(t, 20, x)
	for _, c := range mixed() {
		want, must := c.must(x)
		end, _, _ := done(t, good, s, c)
		for i, state := range end.Space.State {
			if good.Space.State[i] != api.Free || state == api.Free || i%5 > 0 {
				continue
			}
			v := copied(good)
			hit(t, &v, 3, v.Space.At[i/v.Space.Size]+i%v.Space.Size)
			end, next, got := done(t, v, s, c)
			if !got.is(must) || end.Map.Gen != 1 {
				t.Fatalf("%s, %d: %s", c.name, i, said(got))
			}
			holds(t, end, next, want)
			for at := len(v.Disk.Sectors) - 20; at < len(v.Disk.Sectors); at++ {
				disk.Hit(&v.Disk, at, 3, 0, 0)
			}
			end, next, got = done(t, v, s, c)
			if got.code != api.ErrSpares {
				t.Fatalf("%s, %d: %s", c.name, i, said(got))
			}
			holds(t, end, next, x)
		}
	}
}

// A stem whose blocks are there another number of times than it says, or that has other bytes in the last leaf behind Size: its bytes are read as any, and what is written stands.
func TestOtherStems(t *testing.T) {
	for copies := 1; copies <= 2; copies++ {
		x := plain{noise(1, 300), 3 - copies}
		v, s, _, _ := planted(t, 20, x)
		s.Copies = copies
		if _, _, got := done(t, v, s, reading(0, 300)); !got.is(answer{b: x.b}) {
			t.Error(said(got))
		}
		end, next, got := done(t, v, s, writing(0, noise(2, 384)))
		if got.code != api.OK {
			t.Fatal(said(got))
		}
		holds(t, end, next, plain{noise(2, 384), copies})
		s.Copies, s.Size = 3-copies, 290
		for _, c := range []call{reading(0, 300), reading(285, 20), reading(290, 1)} {
			if _, must := c.must(x.cut(290)); !c.run(&v, &s).is(must) {
				t.Errorf("%s: %s", c.name, said(c.run(&v, &s)))
			}
		}
	}
	// Two pointers of one tree to one block.
	v := fresh(t, 4)
	b := api.Block{1}
	p := add(t, &v, b, 2)
	twice, e := ptr.Node(p, p)
	if e != api.OK {
		t.Fatal(e)
	}
	s := api.Stem{Root: add(t, &v, twice, 2), Size: 256, Copies: 2}
	if _, _, got := done(t, v, s, reading(0, 256)); !got.is(answer{b: append(b[:], b[:]...)}) {
		t.Error(said(got))
	}
	for _, c := range mixed() {
		done(t, v, s, c)
	}
}

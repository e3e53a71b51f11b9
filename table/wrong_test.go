package table_test

import (
	"math"
	"slices"
	"testing"

	"lazaret/api"
	"lazaret/disk"
	"lazaret/flow"
	"lazaret/space"
	"lazaret/table"
	"lazaret/vol"
)

// Numbers, nodes, tables and volumes that aren't as they must be, and records that say nothing.

// calls: all calls on a table, with arguments that may be, and such as may not.
func calls() []call {
	return []call{
		getting(1), getting(2), getting(64), getting(0), getting(-1), getting(65), setting(node(1, 5)), setting(node(64, 6)), setting(api.Inode{}),
		clearing(1), clearing(2), clearing(64), clearing(0), clearing(-1), clearing(65), nexting(), listing(),
	}
}

// A number that no node has, as there are none but 1 to 64: ErrArg, ahead of what is on the disk.
func TestWrongNumbers(t *testing.T) {
	t.Parallel()
	for _, x := range []plain{of(), of(node(1, 1)), of(nodes(1, upTo(64)...)...)} {
		v, s, _, leaves := planted(t, 20, x)
		down, unread := v, copied(v)
		down.Disk.Down = true
		for _, p := range leaves {
			hit(t, &unread, 2, sectorsOf(p)...)
		}
		for _, number := range numbers() {
			if number >= 1 && number <= 64 {
				continue
			}
			for _, v := range []api.Vol{v, down, unread} {
				refused(t, v, s, getting(number), api.ErrArg)
				refused(t, v, s, clearing(number), api.ErrArg)
			}
		}
	}
}

// A node that isn't right is not set, whatever stands there: ErrArg.
func TestWrongNodes(t *testing.T) {
	t.Parallel()
	x := of(nodes(1, 1, 2, 7)...)
	v, s, _, leaves := planted(t, 4, x)
	down, unread := v, copied(v)
	down.Disk.Down = true
	hit(t, &unread, 2, sectorsOf(leaves[0])...)
	for _, good := range []api.Inode{node(1, 3), node(2, 7), node(64, 5)} {
		for _, n := range wrongNodes(good) {
			for _, v := range []api.Vol{v, down, unread, crowded(v, [2]int{})} {
				refused(t, v, s, setting(n), api.ErrArg)
			}
			refused(t, v, empty(), setting(n), api.ErrArg)
		}
	}
	holds(t, v, s, x)
}

// A stem that isn't right, as layer 10 says: ErrArg, ahead of all else, and nothing is changed.
func TestWrongStems(t *testing.T) {
	t.Parallel()
	for _, x := range []plain{of(), of(nodes(1, 1, 2, 7)...)} {
		v, s, _, _ := planted(t, 4, x)
		down := v
		down.Disk.Down = true
		var l []api.Stem
		with := func(how func(s *api.Stem)) {
			x := s
			how(&x)
			l = append(l, x)
		}
		for _, root := range []api.Ptr{{A: -1, B: -1, Sum: api.Sum{31: 1}}, {A: -1, B: 5}, {A: -2, B: -1}, {A: 4096, B: -1}, {A: 28, B: 28}, {A: 28, B: -2}, {A: 28, B: 4096}, {A: math.MinInt, B: -1}, {A: 28, B: math.MaxInt}} {
			with(func(s *api.Stem) { s.Root = root })
		}
		for _, n := range extremes() {
			if n < 0 || n > 8192 {
				with(func(s *api.Stem) { s.Size = n })
			}
		}
		for _, n := range append(extremes(), 0, 3, 4) {
			with(func(s *api.Stem) { s.Copies = n })
		}
		for _, s := range l {
			for _, c := range calls() {
				refused(t, v, s, c, api.ErrArg)
				refused(t, down, s, c, api.ErrArg)
			}
		}
	}
}

// Roots that are right, but not Mine: sectors that aren't in use, or that no region has.
func TestRootsOfOthers(t *testing.T) {
	t.Parallel()
	v, s, _, _ := planted(t, 4, of(nodes(1, 1, 2, 7)...))
	gone, kept := add(t, &v, api.Block{80}, 2), add(t, &v, api.Block{81}, 2)
	space.Settle(&v.Space)
	for _, p := range []api.Ptr{gone, kept} {
		if e := vol.Drop(&v, p); e != api.OK {
			t.Fatal(e)
		}
	}
	swept := add(t, &v, api.Block{82}, 1)
	vol.Drop(&v, swept)
	space.Sweep(&v.Space)
	sum := s.Root.Sum
	for _, root := range []api.Ptr{
		gone, kept, swept, {A: gone.A, B: -1, Sum: sum}, {A: s.Root.A, B: gone.B, Sum: sum}, {A: kept.A, B: s.Root.B, Sum: sum},
		{A: 140, B: 290, Sum: sum}, {A: s.Root.A, B: 290, Sum: sum}, {A: 140, B: -1, Sum: sum}, {A: 2, B: 158, Sum: sum},
		{A: s.Root.A, B: 312, Sum: sum}, {A: 0, B: 1, Sum: sum}, {A: 332, B: 4095, Sum: sum}, {A: 4095, B: -1},
	} {
		for _, size := range []int{0, 64, 448, 4096} {
			for _, c := range calls() {
				refused(t, v, api.Stem{Root: root, Size: size, Copies: 2}, c, api.ErrArg)
			}
		}
	}
}

// Volumes that aren't right, and none at all; and no table: ErrArg.
func TestWrongVolumes(t *testing.T) {
	t.Parallel()
	good, s, _, _ := planted(t, 4, of(nodes(1, 1, 2, 7)...))
	stems := []api.Stem{s, empty(), {Root: hole, Size: 448, Copies: 2}}
	for _, c := range calls() {
		for _, x := range stems {
			for _, v := range wrongVolumes(t, good) {
				old, next := copied(v), x
				if got := c.run(&old, &next); !got.is(answer{code: api.ErrArg}) || !same(old, v) || next != x {
					t.Errorf("%s: %s", c.name, said(got))
				}
			}
			next := x
			if got := c.run(nil, &next); !got.is(answer{code: api.ErrArg}) || next != x {
				t.Errorf("no volume: %s: %s", c.name, said(got))
			}
		}
		v := copied(good)
		if got := c.run(&v, nil); !got.is(answer{code: api.ErrArg}) || !same(v, good) {
			t.Errorf("no table: %s: %s", c.name, said(got))
		}
		if got := c.run(nil, nil); !got.is(answer{code: api.ErrArg}) {
			t.Errorf("nothing at all: %s: %s", c.name, said(got))
		}
	}
}

// A stem that keeps its leaves once is as layer 10 asks: it is taken, and stays so.
func TestKeptOnce(t *testing.T) {
	t.Parallel()
	x := of(nodes(1, 1, 3, 7, 20)...)
	x.copies = 1
	v, s, _, leaves := planted(t, 40, x)
	holds(t, v, s, x)
	end, next, y := v, s, x
	for _, c := range mixed() {
		end, next, y = check(t, end, next, y, c)
	}
	// What is there once and can't be read is lost.
	hit(t, &v, 2, leaves[0].A)
	for _, c := range []call{getting(1), getting(2), nexting(), listing(), clearing(1), setting(node(1, 3)), setting(node(2, 3))} {
		refused(t, v, s, c, api.ErrIO)
	}
	if n, e := table.Get(&v, s, 3); n != x.at[3].n || e != api.OK {
		t.Error(n, e)
	}
}

// Records that say nothing, at each place of a table: whoever reads them says so; who doesn't goes on.
func TestDamage(t *testing.T) {
	t.Parallel()
	good := of(nodes(1, 1, 2, 3, 5, 8)...)
	list := []call{nexting(), listing()}
	for number := 0; number <= 12; number++ {
		list = append(list, getting(number), clearing(number))
	}
	for k, raw := range noRecords() {
		for i, numbers := range [][]int{{1}, {2}, {3}, {4}, {5}, {6}, {7}, {8}, {9}, {12}, {64}, {1, 8}, {2, 3}, {4, 5, 9}, {1, 2, 3, 5, 8}} {
			if (k+i)%7 > 0 {
				continue
			}
			x := good
			for _, number := range numbers {
				x = x.damaged(number, raw)
			}
			v, s, _, _ := planted(t, 20, x)
			holds(t, v, s, x)
			for _, c := range list {
				check(t, v, s, x, c)
			}
			for _, number := range []int{1, 2, 4, 8, 9, 64} {
				end, next, y := check(t, v, s, x, setting(node(number, k)))
				if _, e := y.get(number); e != api.OK {
					t.Fatal(number, e)
				}
				check(t, end, next, y, clearing(number))
			}
		}
	}
}

// What is told of a record that says nothing, first, between, and last, told by hand.
func TestDamageByHand(t *testing.T) {
	for _, k := range []struct {
		bad                      int
		list, next, first, third api.Errno // of List, of Next, of Clear of 1, and of 3
	}{
		{1, api.ErrDamage, api.ErrDamage, api.ErrDamage, api.OK},
		{2, api.ErrDamage, api.ErrDamage, api.OK, api.ErrDamage},
		{3, api.ErrDamage, api.ErrDamage, api.ErrDamage, api.ErrDamage},
	} {
		v, s := fresh(t, 20), empty()
		for _, n := range nodes(5, 1, 2, 3) {
			if e := table.Set(&v, &s, n); e != api.OK {
				t.Fatal(e)
			}
		}
		if e := flow.Write(&v, &s, 64*(k.bad-1), []byte{9}); e != api.OK {
			t.Fatal(e)
		}
		for number := 1; number <= 3; number++ {
			n, e := table.Get(&v, s, number)
			if number == k.bad && (e != api.ErrDamage || n != api.Inode{}) || number != k.bad && (e != api.OK || n.Number != number) {
				t.Errorf("%d: get of %d: %s, %v", k.bad, number, toldNode(n), e)
			}
		}
		if l, e := table.List(&v, s); e != k.list || len(l) != 0 {
			t.Errorf("%d: list: %v, %v", k.bad, l, e)
		}
		if n, e := table.Next(&v, s); e != k.next || n != 0 {
			t.Errorf("%d: next: %d, %v", k.bad, n, e)
		}
		for number, code := range map[int]api.Errno{1: k.first, 3: k.third} {
			v, s := copied(v), s
			if e := table.Clear(&v, &s, number); e != code {
				t.Errorf("%d: clear of %d: %v, not %v", k.bad, number, e, code)
			}
		}
	}
}

// failed: a call answers an error, beside which table and Space are as they were.
func failed(t *testing.T, v api.Vol, s api.Stem, c call, code api.Errno) {
	t.Helper()
	if _, _, got := done(t, v, s, c); got.code != code {
		t.Fatalf("%s of %s: %s, not %v", c.name, toldStem(s), said(got), code)
	}
}

// goesOn: a call of which what can't be read is no matter does what it must.
func goesOn(t *testing.T, v api.Vol, s api.Stem, x plain, c call) {
	t.Helper()
	end, next, got := done(t, v, s, c)
	want, must := c.must(x)
	used := space.Used(v.Space) - sectors(x.bytes(), 2) + sectors(want.bytes(), 2)
	if !got.is(must) || next.Size != want.size || space.Used(end.Space) != used {
		t.Fatalf("%s of %s: %s, %s, not %s", c.name, toldStem(s), said(got), toldStem(next), said(must))
	}
}

// Leaves no copy of which can't be read: ErrIO where one must be, ahead of no room; all else goes on.
func TestLeavesThatCanNotBeRead(t *testing.T) {
	t.Parallel()
	list := []call{nexting(), listing()}
	for _, number := range []int{1, 2, 3, 4, 5, 6, 9, 10, 11, 12, 13, 14, 19, 20, 21, 22, 23, 64} {
		list = append(list, getting(number), clearing(number), setting(node(number, number)))
	}
	for _, x := range []plain{of(node(1, 2)), of(nodes(1, 1, 2)...), of(nodes(1, 1, 2, 3)...), of(nodes(1, 1, 2, 3, 4, 5, 11, 12, 19, 21)...), of(nodes(1, upTo(22)...)...)} {
		good, s, _, leaves := planted(t, 20, x)
		for i, p := range leaves {
			if p == hole {
				continue
			}
			v := copied(good)
			hit(t, &v, 1+i%2, sectorsOf(p)...)
			for _, c := range list {
				if slices.Contains(c.reads(x), i) {
					refused(t, v, s, c, api.ErrIO)
					refused(t, crowded(v, [2]int{}), s, c, api.ErrIO)
				} else {
					goesOn(t, v, s, x, c)
				}
			}
		}
	}
}

// Where one record says nothing and another one can't be read, List tells ErrIO, wherever they stand: that is named first. Other calls tell of the one that they read first.
func TestWhichErrorComesFirst(t *testing.T) {
	t.Parallel()
	for _, k := range []struct{ bad, unread int }{{1, 2}, {4, 0}, {1, 1}, {8, 0}, {3, 3}} {
		x := of(nodes(1, upTo(8)...)...).damaged(k.bad, [64]byte{9})
		v, s, _, leaves := planted(t, 20, x)
		hit(t, &v, 2, sectorsOf(leaves[k.unread])...)
		refused(t, v, s, listing(), api.ErrIO)
		if first := (k.bad - 1) / 2; first < k.unread {
			refused(t, v, s, nexting(), api.ErrDamage)
		} else {
			refused(t, v, s, nexting(), api.ErrIO)
		}
		refused(t, v, s, getting(2*k.unread+1), api.ErrIO)
		refused(t, v, s, getting(k.bad), api.ErrDamage)
		refused(t, v, s, clearing(k.bad), api.ErrDamage)
		refused(t, crowded(v, [2]int{}), s, clearing(k.bad), api.ErrDamage)
	}
	// No such node is told ahead of what stands at the table's end; and without room.
	x := of(nodes(1, 1, 2, 5)...).damaged(7, [64]byte{9})
	v, s, _, leaves := planted(t, 20, x)
	hit(t, &v, 2, sectorsOf(leaves[2])...)
	for _, v := range []api.Vol{v, crowded(v, [2]int{})} {
		refused(t, v, s, clearing(3), api.ErrNoEnt)
		refused(t, v, s, clearing(8), api.ErrNoEnt)
		refused(t, v, s, clearing(64), api.ErrNoEnt)
		refused(t, v, s, clearing(1), api.ErrDamage)
		refused(t, v, s, clearing(5), api.ErrIO)
	}
}

// Nodes of the tree that can't be read, or are none, or have pointers of others: what comes by is told that.
func TestBadTrees(t *testing.T) {
	t.Parallel()
	x := of(nodes(1, upTo(22)...)...)
	// The nodes of eleven leaves, as they are planted, and the leaves beneath them.
	spans := [][2]int{{0, 3}, {3, 6}, {6, 9}, {9, 11}, {0, 9}, {9, 11}, {0, 11}}
	good, s, above, leaves := planted(t, 20, x)
	if len(above) != len(spans) {
		t.Fatal(len(above))
	}
	list := []call{nexting(), listing()}
	for _, number := range []int{1, 6, 7, 12, 13, 18, 19, 22} {
		list = append(list, getting(number), clearing(number), setting(node(number, number)))
	}
	for k, span := range spans {
		v := copied(good)
		hit(t, &v, 1, above[k].A)
		hit(t, &v, 2, above[k].B)
		for _, c := range list {
			if slices.ContainsFunc(c.reads(x), func(i int) bool { return i >= span[0] && i < span[1] }) {
				failed(t, v, s, c, api.ErrIO)
			}
		}
	}
	for i, p := range leaves {
		v := copied(good)
		if e := vol.Drop(&v, p); e != api.OK {
			t.Fatal(e)
		}
		for _, c := range list {
			if slices.Contains(c.reads(x), i) {
				failed(t, v, s, c, api.ErrDamage)
			}
		}
	}
	// A table that is told to be deeper than it is has a leaf where a node must be.
	v, s, _, _ := planted(t, 4, of(nodes(1, 1, 2)...))
	s.Size = 300
	for _, c := range []call{getting(1), getting(5), clearing(1), setting(node(1, 3)), setting(node(5, 3)), nexting(), listing()} {
		failed(t, v, s, c, api.ErrDamage)
	}
}

// One copy of everything is hit, in one region: all answers are as if nothing were, and what was read is well again.
func TestOneRegionIsHit(t *testing.T) {
	t.Parallel()
	x := of(nodes(1, 1, 2, 3, 8, 20, 21)...)
	good, s, above, leaves := planted(t, 20, x)
	for r := range 2 {
		for kind := 1; kind <= 2; kind++ {
			v := copied(good)
			for at := range v.Space.Size {
				hit(t, &v, kind, v.Space.At[r]+at)
			}
			holds(t, v, s, x)
			for _, c := range mixed() {
				end, next, got := done(t, v, s, c)
				want, must := c.must(x)
				if !got.is(must) {
					t.Fatalf("%s: %s", c.name, said(got))
				}
				flush(t, &end)
				holds(t, end, next, want)
			}
			// What is listed once is there from then on without the other region.
			if _, e := table.List(&v, s); e != api.OK {
				t.Fatal(e)
			}
			flush(t, &v)
			for _, p := range slices.Concat(above, leaves) {
				if p != hole && r == 0 {
					hit(t, &v, kind, p.B)
				}
			}
			holds(t, v, s, x)
		}
	}
}

// Sectors that can't be written are replaced; where no spare one is left that is told, and all is as it was.
func TestSectorsThatCanNotBeWritten(t *testing.T) {
	t.Parallel()
	x := of(nodes(1, 1, 2, 3, 8, 20, 21)...)
	good, s, _, _ := planted(t, 20, x)
	for _, c := range mixed() {
		want, must := c.must(x)
		end, _, _ := done(t, good, s, c)
		for i, state := range end.Space.State {
			if good.Space.State[i] != api.Free || state == api.Free {
				continue
			}
			v := copied(good)
			hit(t, &v, 3, v.Space.At[i/v.Space.Size]+i%v.Space.Size)
			end, next, got := done(t, v, s, c)
			if !got.is(must) || end.Map.Gen != 1 {
				t.Fatalf("%s, %d: %s", c.name, i, said(got))
			}
			holds(t, end, next, want)
			for at := len(v.Disk.Sectors) - 20; at < len(v.Disk.Sectors); at++ {
				disk.Hit(&v.Disk, at, 3, 0, 0)
			}
			end, next, got = done(t, v, s, c)
			if got.code != api.ErrSpares {
				t.Fatalf("%s, %d: %s", c.name, i, said(got))
			}
			holds(t, end, next, x)
		}
	}
}

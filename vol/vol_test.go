package vol_test

import (
	"fmt"
	"slices"
	"testing"

	"lazaret/api"
	"lazaret/remap"
	"lazaret/space"
	"lazaret/vol"
)

// The chapter's example.
func TestExample(t *testing.T) {
	v := fresh(t, 4)
	if p := add(t, &v, api.Block{}, 2); p != hole || space.Used(v.Space) != 0 {
		t.Error(p)
	}
	if p := add(t, &v, block(7), 2); p != (api.Ptr{A: 28, B: 184, Sum: sumOf(block(7))}) || space.Used(v.Space) != 2 {
		t.Error(p)
	}
}

// ways: volumes with power, without, and about to lose it.
func ways(v api.Vol) []api.Vol {
	l := []api.Vol{v, v, v, v}
	l[1].Disk.Fuse, l[2].Disk.Fuse, l[3].Disk.Down = 0, 1, true
	return l
}

// withStates: a volume of quota 4 whose regions' last sectors have these states; all other ones are in use.
func withStates(t *testing.T, first, second string) api.Vol {
	t.Helper()
	v := fresh(t, 4)
	for i := range v.Space.State {
		v.Space.State[i] = 1
	}
	for r, states := range []string{first, second} {
		for i := range len(states) {
			v.Space.State[128*(r+1)-len(states)+i] = states[i] - '0'
		}
	}
	return v
}

// refused: a call answers an error, and nothing is changed.
func refused(t *testing.T, v api.Vol, c call, code api.Errno) {
	t.Helper()
	if end, x := check(t, v, c); x != (answer{code: code}) || !same(end, v) {
		t.Errorf("%s of %s: %s, %s", c.name, told(v), said(x), told(end))
	}
}

// Pointers, by what their sectors are: Mine, and taken by Get, Drop and Swap, just where each is in use.
func TestMine(t *testing.T) {
	sum := sumOf(block(70))
	for first := range 5 {
		for second := range 5 {
			v := withStates(t, fmt.Sprint(first), fmt.Sprint(second))
			v.Disk.Sectors[155].Data, v.Disk.Sectors[311].Data = block(70), block(70)
			inUse := func(state int) bool { return state == 1 || state == 2 }
			for _, x := range []struct {
				p    api.Ptr
				mine bool
			}{
				{api.Ptr{A: 155, B: 311, Sum: sum}, inUse(first) && inUse(second)},
				{api.Ptr{A: 311, B: 155, Sum: sum}, inUse(first) && inUse(second)},
				{api.Ptr{A: 155, B: -1, Sum: sum}, inUse(first)},
				{api.Ptr{A: 311, B: -1, Sum: sum}, inUse(second)},
				{api.Ptr{A: 155, B: 30, Sum: sum}, inUse(first)},
				{api.Ptr{A: 30, B: 311, Sum: sum}, inUse(second)},
				{api.Ptr{A: 155, B: 311}, inUse(first) && inUse(second)},
				{api.Ptr{A: 155, B: 155, Sum: sum}, false},
				{api.Ptr{A: -1, B: 311, Sum: sum}, false},
				{api.Ptr{A: -1, B: -1, Sum: sum}, false},
				{hole, true},
			} {
				for _, v := range ways(v) {
					if _, got := check(t, v, mining(x.p)); got != (answer{yes: x.mine}) {
						t.Fatalf("%d, %d: %v: %s", first, second, x.p, said(got))
					}
					for _, c := range []call{getting(x.p), dropping(x.p), swapping(x.p, block(70), 1), swapping(x.p, block(71), 1), swapping(x.p, block(70), 2), swapping(x.p, api.Block{}, 2)} {
						if !x.mine {
							refused(t, v, c, api.ErrArg)
						} else if _, got := check(t, v, c); got.code == api.ErrArg {
							t.Fatalf("%d, %d: %s: %s", first, second, c.name, said(got))
						}
					}
				}
			}
		}
	}
}

// Sectors that no region has: places of tables and roots, the journal's, spare ones, ones beyond the disk; alone, and beside one that is in use.
func TestSectorsOfNoRegion(t *testing.T) {
	v := withStates(t, "", "")
	for _, at := range slices.Concat(span(0, 27), span(156, 183), span(312, 334), []int{4095}, extremes()) {
		for _, p := range []api.Ptr{{A: at, B: -1}, {A: at, B: 30}, {A: 30, B: at}, {A: -1, B: at}} {
			refused(t, v, mining(p), api.OK)
			for _, c := range []call{getting(p), dropping(p), swapping(p, block(1), 1), swapping(p, block(1), 2)} {
				refused(t, v, c, api.ErrArg)
			}
		}
	}
	for _, at := range []int{28, 155, 184, 311} {
		if !vol.Mine(v, api.Ptr{A: at, B: -1}) {
			t.Error(at)
		}
	}
}

// Copies that may not be: ErrArg, of a block of zeros too, and of one that the pointer fits, ahead of all that could come of room and power.
func TestCopies(t *testing.T) {
	for _, v := range []api.Vol{fresh(t, 4), withStates(t, "0", ""), withStates(t, "", "")} {
		for _, v := range ways(v) {
			for _, copies := range append(extremes(), -1, 0, 3, 4, 5) {
				for _, b := range []api.Block{{}, block(70)} {
					refused(t, v, adding(b, copies), api.ErrArg)
					for _, p := range []api.Ptr{hole, {A: 28, B: 184, Sum: sumOf(b)}, {A: 28, B: -1, Sum: sumOf(b)}, {A: 155, B: -1}} {
						refused(t, v, swapping(p, b, copies), api.ErrArg)
					}
				}
			}
		}
	}
}

// Where a block is laid: in the first free sector of each region, or, once there, of the first region that has one.
func TestAdd(t *testing.T) {
	for _, x := range []struct {
		first, second string
		copies, a, b  int
		code          api.Errno
	}{
		{"00", "00", 2, 154, 310, api.OK},
		{"00", "00", 1, 154, -1, api.OK},
		{"10", "00", 2, 155, 310, api.OK},
		{"00", "20", 2, 154, 311, api.OK},
		{"30", "40", 2, 155, 311, api.OK},
		{"40", "00", 1, 155, -1, api.OK},
		{"12", "00", 1, 310, -1, api.OK},
		{"34", "20", 1, 311, -1, api.OK},
		{"34", "20", 2, 0, 0, api.ErrNoSpace},
		{"00", "11", 1, 154, -1, api.OK},
		{"00", "11", 2, 0, 0, api.ErrNoSpace},
		{"11", "00", 2, 0, 0, api.ErrNoSpace},
		{"12", "34", 1, 0, 0, api.ErrNoSpace},
		{"12", "34", 2, 0, 0, api.ErrNoSpace},
		{"", "", 1, 0, 0, api.ErrNoSpace},
	} {
		v := withStates(t, x.first, x.second)
		for _, c := range []call{adding(block(70), x.copies), swapping(hole, block(70), x.copies), swapping(api.Ptr{A: 30, B: 190}, block(70), x.copies), swapping(api.Ptr{A: 190, B: -1}, block(70), x.copies)} {
			end, got := check(t, v, c)
			if x.code != api.OK {
				refused(t, v, c, x.code)
				for _, v := range ways(v) {
					refused(t, v, c, x.code)
				}
				continue
			}
			if got != (answer{ptr: api.Ptr{A: x.a, B: x.b, Sum: sumOf(block(70))}}) || !vol.Mine(end, got.ptr) {
				t.Errorf("%s, %s: %s: %s", x.first, x.second, c.name, said(got))
			}
			if _, again := check(t, end, getting(got.ptr)); again != (answer{block: block(70)}) {
				t.Errorf("%s, %s: %s: then %s", x.first, x.second, c.name, said(again))
			}
		}
	}
}

// A block of zeros is a hole: nothing is taken, so there is always room for it, and no power is asked for.
func TestZeros(t *testing.T) {
	for _, v := range []api.Vol{fresh(t, 4), fresh(t, 900), withStates(t, "", "")} {
		for _, v := range ways(v) {
			for copies := 1; copies <= 2; copies++ {
				for _, c := range []call{adding(api.Block{}, copies), swapping(hole, api.Block{}, copies)} {
					if end, x := check(t, v, c); x != (answer{ptr: hole}) || !same(end, v) {
						t.Errorf("%s: %s", c.name, said(x))
					}
				}
			}
			for _, c := range []call{getting(hole), dropping(hole)} {
				if end, x := check(t, v, c); x != (answer{}) || !same(end, v) {
					t.Errorf("%s: %s", c.name, said(x))
				}
			}
		}
	}
	// One byte that isn't 0 makes another block of it.
	for i := range 128 {
		v := fresh(t, 4)
		var b api.Block
		b[i] = 1 << (i % 8)
		if _, x := check(t, v, adding(b, 1)); x.ptr != (api.Ptr{A: 28, B: -1, Sum: sumOf(b)}) {
			t.Error(i, said(x))
		}
	}
}

// Swap: p itself where it fits the block and has as many copies, or is a hole; else another one, and p is dropped, whether it was fresh or kept.
func TestSwap(t *testing.T) {
	for had := 1; had <= 2; had++ {
		for copies := 1; copies <= 2; copies++ {
			for _, settled := range []bool{false, true} {
				v, p := laid(t, had)
				next := byte(4)
				if settled {
					space.Settle(&v.Space)
					next = 3
				}
				end, x := check(t, v, swapping(p, block(70), copies))
				if had == copies {
					if x != (answer{ptr: p}) || !same(end, v) {
						t.Errorf("%d, %d: %s", had, copies, said(x))
					}
				} else if !swapped(end, p, x, block(70), copies, next) {
					t.Errorf("%d, %d: %s, %s", had, copies, said(x), told(end))
				}
				end, x = check(t, v, swapping(p, block(71), copies))
				if !swapped(end, p, x, block(71), copies, next) {
					t.Errorf("%d, %d: %s, %s", had, copies, said(x), told(end))
				}
				end, x = check(t, v, swapping(p, api.Block{}, copies))
				if x != (answer{ptr: hole}) || space.Used(end.Space) != 0 || end.Space.State[0] != next || !sameDisk(end.Disk, v.Disk) {
					t.Errorf("%d, %d: %s, %s", had, copies, said(x), told(end))
				}
				end, x = check(t, v, swapping(hole, block(70), copies))
				if x.code != api.OK || x.ptr.A != 29 || !vol.Mine(end, p) || space.Used(end.Space) != had+copies {
					t.Errorf("%d, %d: %s, %s", had, copies, said(x), told(end))
				}
			}
		}
	}
}

// swapped: was p, the one block of a volume, swapped for that block?
func swapped(v api.Vol, p api.Ptr, x answer, b api.Block, copies int, next byte) bool {
	if x.code != api.OK || x.ptr.Sum != sumOf(b) || x.ptr.A != 29 || (x.ptr.B == -1) != (copies == 1) {
		return false
	}
	for _, at := range sectors(p) {
		if v.Space.State[place(v.Space, at)] != next {
			return false
		}
	}
	return !vol.Mine(v, p) && vol.Mine(v, x.ptr) && space.Used(v.Space) == copies
}

// A pointer that isn't the block's that stands there fits by its sum alone; nothing is read for it.
func TestSwapBySum(t *testing.T) {
	v, p := laid(t, 2)
	hit(t, &v.Disk, rotten|unread|unwrit, p.A, p.B)
	for _, v := range ways(v) {
		if end, x := check(t, v, swapping(p, block(70), 2)); x != (answer{ptr: p}) || !same(end, v) {
			t.Error(said(x))
		}
		zeros := api.Ptr{A: p.A, B: p.B, Sum: sumOf(api.Block{})}
		if end, x := check(t, v, swapping(zeros, api.Block{}, 2)); x != (answer{ptr: zeros}) || !same(end, v) {
			t.Error(said(x))
		}
		if end, x := check(t, v, swapping(zeros, api.Block{}, 1)); x != (answer{ptr: hole}) || vol.Mine(end, p) {
			t.Error(said(x))
		}
	}
}

// Drop: fresh sectors go, kept ones leave, of one copy and of two; neither is free at once, and none goes twice.
func TestDrop(t *testing.T) {
	for copies := 1; copies <= 2; copies++ {
		for _, settled := range []bool{false, true} {
			good, p := laid(t, copies)
			next := byte(4)
			if settled {
				space.Settle(&good.Space)
				next = 3
			}
			for _, v := range ways(good) {
				end, x := check(t, v, dropping(p))
				if x != (answer{}) || space.Used(end.Space) != 0 || vol.Mine(end, p) || !sameDisk(end.Disk, v.Disk) || end.Space.State[0] != next {
					t.Errorf("%d: %s, %s", copies, said(x), told(end))
				}
				refused(t, end, dropping(p), api.ErrArg)
				refused(t, end, getting(p), api.ErrArg)
			}
		}
	}
}

// Get, by what became of the sectors: read from either copy, and A's made well from B's.
func TestGet(t *testing.T) {
	for first := range 8 {
		for second := range 8 {
			v, p := laid(t, 2)
			hit(t, &v.Disk, first, p.A)
			hit(t, &v.Disk, second, p.B)
			badA, badB := first&(rotten|unread) != 0, second&(rotten|unread) != 0
			end, x := check(t, v, getting(p))
			switch {
			case badA && badB:
				if x != (answer{code: api.ErrIO}) || !same(end, v) {
					t.Errorf("%d, %d: %s", first, second, said(x))
				}
			case x != answer{block: block(70)}:
				t.Errorf("%d, %d: %s", first, second, said(x))
			case !badA && !same(end, v):
				t.Errorf("%d, %d: %s", first, second, told(end))
			case badA:
				if b, e := remap.Read(&end.Disk, end.Map, p.A); b != block(70) || e != api.OK || (end.Map.Gen == 1) != (first&unwrit != 0) || !sameSpace(end.Space, v.Space) {
					t.Errorf("%d, %d: it isn't well: %s", first, second, told(end))
				}
			}
		}
		v, p := laid(t, 1)
		hit(t, &v.Disk, first, p.A)
		want := answer{block: block(70)}
		if first&(rotten|unread) != 0 {
			want = answer{code: api.ErrIO}
		}
		if end, x := check(t, v, getting(p)); x != want || !same(end, v) {
			t.Errorf("%d: %s", first, said(x))
		}
	}
}

// A Put that fails: its error, and the Space is as it was, and nothing dropped; what it did to disk and table stays.
func TestPutsThatFail(t *testing.T) {
	noSpares := func(more ...int) []int { return append(span(312, 331), more...) }
	for _, x := range []struct {
		name   string
		m      api.Remap
		fails  []int
		copies int
		code   api.Errno
		gen    int
		cache  []int
	}{
		{"A is replaced", api.Remap{}, []int{29}, 2, api.OK, 1, []int{185}},
		{"both are replaced", api.Remap{}, []int{29, 185, 312}, 2, api.OK, 2, nil},
		{"A, and no spare one", api.Remap{}, noSpares(29), 2, api.ErrSpares, 0, nil},
		{"A, once, and no spare one", api.Remap{}, noSpares(29), 1, api.ErrSpares, 0, nil},
		{"B, and no spare one", api.Remap{}, noSpares(185), 2, api.ErrSpares, 0, []int{29}},
		{"A is replaced, B not", api.Remap{}, append(span(313, 331), 29, 185), 2, api.ErrSpares, 1, nil},
		{"A, and both copies of the table", api.Remap{}, []int{29, 1, 157}, 2, api.ErrIO, 0, nil},
		{"A, and one copy of the table", api.Remap{}, []int{29, 1}, 2, api.OK, 1, []int{185}},
		{"both, and both copies of the second table", api.Remap{}, []int{29, 185, 0, 156}, 2, api.ErrIO, 1, nil},
		{"A, and no table follows", api.Remap{Gen: 1 << 62}, []int{29}, 2, api.ErrArg, 1 << 62, nil},
	} {
		v, p := laid(t, 2)
		v.Map = x.m
		hit(t, &v.Disk, unwrit, x.fails...)
		for _, c := range []call{adding(block(71), x.copies), swapping(hole, block(71), x.copies), swapping(p, block(71), x.copies)} {
			end, got := check(t, v, c)
			if got.code != x.code || end.Map.Gen != x.gen || !slices.Equal(cached(end), x.cache) {
				t.Errorf("%s: %s: %s, %s", x.name, c.name, said(got), told(end))
			}
			if x.code != api.OK && (got.ptr != api.Ptr{} || !sameSpace(end.Space, v.Space) || !vol.Mine(end, p)) {
				t.Errorf("%s: %s: %s, %s", x.name, c.name, said(got), told(end))
			}
			// The same block fits, where it has as many copies: nothing is laid.
			if end, got := check(t, v, swapping(p, block(70), 2)); got != (answer{ptr: p}) || !same(end, v) {
				t.Errorf("%s: %s", x.name, said(got))
			}
		}
	}
}

// cached: the sectors of the writes that aren't flushed.
func cached(v api.Vol) []int {
	var l []int
	for _, w := range v.Disk.Cache {
		l = append(l, w.At)
	}
	return l
}

// A healing that fails leaves the copy bad; the block is told.
func TestHealingsThatFail(t *testing.T) {
	for _, fails := range [][]int{append(span(312, 331), 28), {28, 1, 157}} {
		v, p := laid(t, 2)
		hit(t, &v.Disk, unread, p.A)
		hit(t, &v.Disk, unwrit, fails...)
		end, x := check(t, v, getting(p))
		if x != (answer{block: block(70)}) || end.Map.Gen != 0 || !vol.Mine(end, p) {
			t.Errorf("%v: %s", fails, said(x))
		}
	}
}

// The power goes at each act: ErrDown, the Space is as it was, and nothing is dropped.
func TestFalls(t *testing.T) {
	for _, x := range []struct {
		name  string
		fails []int
		call  func(p api.Ptr) call
		acts  int
	}{
		{"add", nil, func(api.Ptr) call { return adding(block(71), 2) }, 2},
		{"add, once", nil, func(api.Ptr) call { return adding(block(71), 1) }, 1},
		{"add, both are replaced", []int{29, 185}, func(api.Ptr) call { return adding(block(71), 2) }, 12},
		{"swap", nil, func(p api.Ptr) call { return swapping(p, block(71), 2) }, 2},
		{"swap, once", nil, func(p api.Ptr) call { return swapping(p, block(70), 1) }, 1},
		{"swap, A is replaced", []int{29}, func(p api.Ptr) call { return swapping(p, block(71), 2) }, 7},
		{"swap for zeros", nil, func(p api.Ptr) call { return swapping(p, api.Block{}, 2) }, 0},
		{"get", nil, getting, 1},
		{"get, A is replaced", []int{28}, getting, 6},
		{"drop", nil, dropping, 0},
	} {
		v, p := laid(t, 2)
		hit(t, &v.Disk, rotten, p.A)
		hit(t, &v.Disk, unwrit, x.fails...)
		for fuse := range x.acts + 2 {
			v.Disk.Fuse = fuse
			end, got := check(t, v, x.call(p))
			if fuse < x.acts && (got != (answer{code: api.ErrDown}) || !end.Disk.Down || !sameSpace(end.Space, v.Space)) {
				t.Errorf("%s, fuse %d: %s, %s", x.name, fuse, said(got), told(end))
			}
			if fuse >= x.acts && (got.code != api.OK || end.Disk.Down || end.Disk.Fuse != fuse-x.acts) {
				t.Errorf("%s, fuse %d: %s, %s", x.name, fuse, said(got), told(end))
			}
		}
		v.Disk.Fuse, v.Disk.Down = -1, true
		if end, got := check(t, v, x.call(p)); x.acts > 0 && (got != (answer{code: api.ErrDown}) || !same(end, v)) {
			t.Errorf("%s, down: %s", x.name, said(got))
		}
	}
}

// What was handed in elsewhere, a copy of the volume, stays, whatever is done with the other one.
func TestCopiesStay(t *testing.T) {
	v, p := laid(t, 2)
	hit(t, &v.Disk, unread|unwrit, p.A)
	v = roomy(v)
	snap, was := v, whole(v)
	if b, e := vol.Get(&v, p); b != block(70) || e != api.OK || v.Map.Gen != 1 {
		t.Fatal(e)
	}
	if _, e := vol.Swap(&v, p, block(71), 2); e != api.OK {
		t.Fatal(e)
	}
	q := add(t, &v, block(72), 1)
	if e := vol.Drop(&v, q); e != api.OK {
		t.Fatal(e)
	}
	if !same(whole(snap), was) {
		t.Error("a copy is changed")
	}
	if b, e := vol.Get(&snap, p); b != block(70) || e != api.OK || snap.Map.Gen != 1 {
		t.Error(e)
	}
}

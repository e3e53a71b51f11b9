package stem_test

import (
	"fmt"
	"math"
	"math/big"
	"slices"
	"testing"

	"lazaret/api"
	"lazaret/disk"
	"lazaret/space"
	"lazaret/stem"
	"lazaret/vol"
)

// The chapter's example.
func TestExample(t *testing.T) {
	v, s := fresh(t, 4), empty(1)
	if e := stem.Resize(&v, &s, 400); e != api.OK || stem.Leaves(400) != 4 || stem.Depth(4) != 2 {
		t.Error(e)
	}
	if e := stem.Lay(&v, &s, 3, block(1)); e != api.OK || space.Used(v.Space) != 5 {
		t.Error(e, space.Used(v.Space))
	}
	if l, e := stem.Walk(&v, s); e != api.OK || len(l) != 3 || len(sectors(l[0])) != 2 || len(sectors(l[1])) != 2 || len(sectors(l[2])) != 1 {
		t.Error(toldPtrs(l), e)
	}
	holds(t, v, s, of(400, 1, api.Block{}, api.Block{}, api.Block{}, block(1)))
}

func TestLeaves(t *testing.T) {
	for _, x := range [][2]int{{0, 0}, {1, 1}, {127, 1}, {128, 1}, {129, 2}, {256, 2}, {257, 3}, {384, 3}, {385, 4}, {8064, 63}, {8065, 64}, {8192, 64}, {8193, 65}} {
		if n := stem.Leaves(x[0]); n != x[1] {
			t.Error(x, n)
		}
	}
	for size := -300; size < 20000; size++ {
		want := 0
		for 128*want < size {
			want++
		}
		if n := stem.Leaves(size); n != want {
			t.Fatal(size, n, want)
		}
	}
	for _, size := range extremes() {
		want := big.NewInt(0)
		if size > 0 {
			want.Div(want.Add(big.NewInt(int64(size)), big.NewInt(127)), big.NewInt(128))
		}
		if n := stem.Leaves(size); int64(n) != want.Int64() {
			t.Error(size, n, want)
		}
	}
}

func TestDepth(t *testing.T) {
	for _, x := range [][2]int{{0, 0}, {1, 0}, {2, 1}, {3, 1}, {4, 2}, {9, 2}, {10, 3}, {27, 3}, {28, 4}, {64, 4}, {81, 4}, {82, 5}} {
		if n := stem.Depth(x[0]); n != x[1] {
			t.Error(x, n)
		}
	}
	// The least k for which 3^k isn't less than the leaves, by numbers that don't run over.
	check := func(leaves int) {
		want, room := 0, big.NewInt(1)
		for room.Cmp(big.NewInt(int64(leaves))) < 0 {
			want++
			room.Mul(room, big.NewInt(3))
		}
		if n := stem.Depth(leaves); n != want {
			t.Fatal(leaves, n, want)
		}
	}
	for leaves := -300; leaves < 3000; leaves++ {
		check(leaves)
	}
	for power := 1; power < math.MaxInt/3; power *= 3 {
		for _, leaves := range []int{power - 1, power, power + 1, 3*power - 1, 3 * power} {
			check(leaves)
		}
	}
	for _, leaves := range extremes() {
		check(leaves)
	}
}

func TestRight(t *testing.T) {
	roots := []api.Ptr{hole, {A: 0, B: -1}, {A: 4095, B: 0, Sum: api.Sum{1}}, {A: 28, B: 184}}
	for _, root := range roots {
		for _, size := range []int{0, 1, 127, 128, 129, 4096, 8191, 8192} {
			for copies := 1; copies <= 2; copies++ {
				if s := (api.Stem{Root: root, Size: size, Copies: copies}); !stem.Right(s) {
					t.Error(toldStem(s))
				}
			}
		}
	}
	for _, s := range wrongStems(api.Stem{Root: roots[2], Size: 400, Copies: 2}) {
		if stem.Right(s) {
			t.Error(toldStem(s))
		}
	}
}

// sizes: of stems, at all edges of their depths.
func sizes() []int { return []int{0, 1, 128, 129, 384, 385, 1152, 1153, 3456, 3457, 8192} }

// Stems of all depths whose leaves are all zeros: nothing is laid, and each leaf is zeros, without power too.
func TestHoles(t *testing.T) {
	for copies := 1; copies <= 2; copies++ {
		for _, size := range sizes() {
			v, s, x := fresh(t, 4), empty(copies), of(0, copies)
			for _, v := range []api.Vol{v, crowded(v, [2]int{})} {
				v, s, x := check(t, v, s, x, resizing(size))
				for _, c := range []call{walking(), recopying(1), recopying(2), dropping(), resizing(8192), resizing(0), laying(0, api.Block{}), laying((size-1)/128, api.Block{}), leafing(0), laying(len(x.leaves), api.Block{})} {
					if end, _, _ := check(t, v, s, x, c); !same(end, v) {
						t.Errorf("%d bytes: %s: the volume is changed", size, c.name)
					}
				}
				v.Disk.Down = true
				for _, c := range []call{walking(), recopying(1), recopying(2), dropping(), resizing(8192)} {
					if end, _, got := done(t, v, s, c); got.code != api.OK || !same(end, v) {
						t.Errorf("%d bytes, down: %s: %s", size, c.name, said(got))
					}
				}
			}
		}
	}
}

// One leaf alone, in stems of all depths: laid, laid anew as it was, as another one, and as zeros.
func TestOneLeaf(t *testing.T) {
	t.Parallel()
	for copies := 1; copies <= 2; copies++ {
		for _, n := range []int{1, 2, 3, 4, 9, 10, 27, 28, 64} {
			for _, i := range []int{0, 1, 2, 3, 8, 9, 26, 27, 31, 62, 63, n - 1} {
				if i >= n {
					continue
				}
				v, s, x := check(t, fresh(t, 4), api.Stem{Root: hole, Size: 128*n - 5, Copies: copies}, of(128*n-5, copies), laying(i, block(1)))
				if used := space.Used(v.Space); used != copies+2*x.depth() {
					t.Errorf("leaf %d of %d: %d are in use", i, n, used)
				}
				if end, next, _ := check(t, v, s, x, laying(i, block(1))); !same(end, v) || next != s {
					t.Errorf("leaf %d of %d: laid anew it is another one", i, n)
				}
				check(t, v, s, x, laying((i+1)%n, api.Block{}))
				check(t, v, s, x, laying(i, block(2)))
				if end, next, _ := check(t, v, s, x, laying(i, api.Block{})); next.Root != hole || space.Used(end.Space) != 0 {
					t.Errorf("leaf %d of %d: zeros leave %s", i, n, toldStem(next))
				}
				check(t, v, s, x, dropping())
				check(t, v, s, x, recopying(3-copies))
			}
		}
	}
}

// patterns: of what leaves are zeros.
func patterns() map[string]func(i int) bool {
	return map[string]func(i int) bool{
		"all":            func(int) bool { return true },
		"even ones":      func(i int) bool { return i%2 == 0 },
		"each third":     func(i int) bool { return i%3 == 2 },
		"first of nine":  func(i int) bool { return i%9 == 0 },
		"from ten on":    func(i int) bool { return i >= 10 },
		"up to ten":      func(i int) bool { return i < 10 },
		"in the middle":  func(i int) bool { return i > 8 && i < 40 },
		"the last third": func(i int) bool { return i >= 54 },
	}
}

// patterned: a stem of so many leaves of which those alone aren't zeros.
func patterned(n, copies int, some func(i int) bool) plain {
	x := of(128*n, copies)
	for i := range n {
		if some(i) {
			x.leaves[i] = block(i + 1)
		}
	}
	return x
}

// Trees that were laid by the chapter's words alone are read, walked and changed as any; a stem that is laid leaf by leaf, whichever first, is like one of these.
func TestTrees(t *testing.T) {
	t.Parallel()
	for name, some := range patterns() {
		for _, n := range []int{1, 2, 3, 4, 9, 10, 27, 28, 64} {
			for copies := 1; copies <= 2; copies++ {
				x := patterned(n, copies, some)
				v, s, _ := planted(t, 20, x)
				holds(t, v, s, x)
				last, e := vol.New(20)
				if e != api.OK {
					t.Fatal(e)
				}
				next := empty(copies)
				if e := stem.Resize(&last, &next, x.size); e != api.OK {
					t.Fatal(e)
				}
				for k := range n {
					i := (7*k + n/2) % n
					if n%7 == 0 {
						i = n - 1 - k
					}
					if e := stem.Lay(&last, &next, i, x.leaves[i]); e != api.OK {
						t.Fatal(name, e)
					}
					space.Sweep(&last.Space)
				}
				holds(t, last, next, x)
				if a, b := shape(t, &v, s.Root, x.depth()), shape(t, &last, next.Root, x.depth()); a != b || space.Used(v.Space) != space.Used(last.Space) || space.Used(v.Space) != x.sectors() {
					t.Errorf("%s, %d leaves: %s, %s", name, n, a, b)
				}
			}
		}
	}
}

// Sizes that make a stem deeper, and less deep: from each to each, and what was cut off comes back as zeros.
func TestSizes(t *testing.T) {
	t.Parallel()
	for _, name := range []string{"all", "even ones", "from ten on", "in the middle"} {
		for _, from := range sizes() {
			x := patterned((from+127)/128, 1, patterns()[name]).resized(from)
			v, s, _ := planted(t, 20, x)
			holds(t, v, s, x)
			for _, to := range append(sizes(), 513, 1280, 4000, 8191) {
				v, s, x := check(t, v, s, x, resizing(to))
				v, s, x = check(t, v, s, x, resizing(from))
				if from == 0 {
					continue
				}
				v, s, x = check(t, v, s, x, laying(len(x.leaves)-1, block(99)))
				check(t, v, s, x, resizing(0))
			}
		}
	}
}

// The bytes of the last leaf that are left over are no matter of a stem: they stay.
func TestWholeLeaves(t *testing.T) {
	x := of(200, 1, block(1), block(2))
	v, s, _ := planted(t, 4, x)
	for _, size := range []int{129, 255, 130, 256} {
		end, next, _ := check(t, v, s, x, resizing(size))
		if !same(end, v) || next.Root != s.Root {
			t.Errorf("%d bytes: %s", size, toldStem(next))
		}
	}
	v, s, x = check(t, v, s, x, resizing(1))
	holds(t, v, s, of(1, 1, block(1)))
}

// Copies: from 1 to 2 and back, and to what they are.
func TestCopies(t *testing.T) {
	t.Parallel()
	for name, some := range patterns() {
		for _, n := range []int{1, 2, 3, 4, 9, 10, 27, 28, 64} {
			for copies := 1; copies <= 2; copies++ {
				x := patterned(n, copies, some)
				v, s, _ := planted(t, 40, x)
				if end, next, _ := check(t, v, s, x, recopying(copies)); !same(end, v) || next != s {
					t.Errorf("%s, %d leaves, %d times: changed", name, n, copies)
				}
				end, next, y := check(t, v, s, x, recopying(3-copies))
				space.Sweep(&end.Space)
				end, next, _ = check(t, end, next, y, recopying(copies))
				if space.Used(end.Space) != space.Used(v.Space) || shape(t, &end, next.Root, x.depth()) != shape(t, &v, s.Root, x.depth()) {
					t.Errorf("%s, %d leaves, %d times: there and back", name, n, copies)
				}
				for _, wrong := range append(extremes(), -1, 0, 3, 4) {
					refused(t, v, s, recopying(wrong), api.ErrArg)
				}
			}
		}
	}
}

// Leaves that aren't there, and sizes that may not be: ErrArg, whatever became of the disk.
func TestArguments(t *testing.T) {
	for _, n := range []int{0, 1, 4, 64} {
		x := patterned(n, 1, func(int) bool { return true })
		v, s, _ := planted(t, 20, x)
		list := []call{resizing(-1), resizing(8193), recopying(0), recopying(3)}
		for _, i := range append(extremes(), n, n+1, 81, 128) {
			list = append(list, leafing(i), laying(i, block(5)), laying(i, api.Block{}))
		}
		for _, size := range extremes() {
			list = append(list, resizing(size))
		}
		holds(t, v, s, x)
		down := v
		down.Disk.Down = true
		spoilt := copied(v)
		hit(t, &spoilt, rotten|unread|unwrit, span(28, 100)...)
		for _, c := range list {
			for _, v := range []api.Vol{v, down, spoilt} {
				refused(t, v, s, c, api.ErrArg)
			}
		}
	}
}

// A stem that is dropped leaves nothing; dropped again it leaves nothing too; but what has its root no longer is refused.
func TestDrop(t *testing.T) {
	for _, n := range []int{0, 1, 3, 4, 10, 28, 64} {
		for copies := 1; copies <= 2; copies++ {
			x := patterned(n, copies, func(i int) bool { return i != 1 })
			v, s, _ := planted(t, 20, x)
			end, next, none := check(t, v, s, x, dropping())
			if next != empty(copies) || space.Used(end.Space) != 0 || !sameDisk(end.Disk, v.Disk) {
				t.Errorf("%d leaves: %s is left", n, toldStem(next))
			}
			if last, again, _ := check(t, end, next, none, dropping()); again != next || !same(last, end) {
				t.Errorf("%d leaves: %s is left", n, toldStem(again))
			}
			if n == 0 {
				continue
			}
			for _, c := range []call{dropping(), walking(), leafing(0), laying(0, block(1)), resizing(0), resizing(9), recopying(1)} {
				refused(t, end, s, c, api.ErrArg)
			}
			// What was kept may go, too.
			space.Settle(&v.Space)
			check(t, v, s, x, dropping())
			check(t, v, s, x, resizing(0))
		}
	}
}

// Regions with room for some blocks, and not for all: no space just where a sector is missing, at the first block or at a later one; then all is as it was.
func TestNoSpace(t *testing.T) {
	t.Parallel()
	for copies := 1; copies <= 2; copies++ {
		for _, n := range []int{1, 2, 4, 10, 28, 64} {
			x := patterned(n, copies, func(i int) bool { return i%4 != 1 })
			v, s, _ := planted(t, 60, x)
			list := []call{laying(0, block(500)), laying(n-1, block(501)), laying(0, api.Block{}), recopying(1), recopying(2), resizing(8192), resizing(64 * n), resizing(200), dropping(), walking()}
			for _, c := range list {
				next, ok := c.must(x)
				if !ok {
					t.Fatal(c.name)
				}
				anew := len(next.anew(x))
				for _, room := range [][2]int{{0, 0}, {anew, 0}, {0, anew}, {1, anew}, {anew - 1, anew}, {anew, anew - 1}, {anew / 2, anew / 2}, {anew, anew}} {
					check(t, crowded(v, [2]int{max(0, room[0]), max(0, room[1])}), s, x, c)
				}
			}
		}
	}
}

// What goes isn't free for what comes: that waits for a sweep.
func TestRoomOfWhatGoes(t *testing.T) {
	x := patterned(9, 1, func(int) bool { return true })
	v, s, _ := planted(t, 4, x)
	v = crowded(v, [2]int{3, 2})
	for i, code := range []api.Errno{api.OK, api.ErrNoSpace, api.OK} {
		if i == 2 {
			space.Sweep(&v.Space)
		}
		var got answer
		c := laying(i, block(200+i))
		v, s, got = done(t, v, s, c)
		if got.code != code {
			t.Fatalf("%s: %v, not %v", c.name, got.code, code)
		}
	}
	holds(t, v, s, x.laid(0, block(200)).laid(2, block(202)))
}

// The power goes at each act: ErrDown, and behind it all is there that was; a call has as many acts as it lays copies.
func TestFalls(t *testing.T) {
	t.Parallel()
	x := patterned(10, 1, func(int) bool { return true })
	v, s, _ := planted(t, 20, x)
	for _, c := range []call{laying(0, block(70)), laying(9, block(71)), laying(9, api.Block{}), laying(3, x.leaves[3]), recopying(2), recopying(1), resizing(8192), resizing(1000), resizing(500), resizing(130), resizing(1), resizing(0), dropping(), walking(), leafing(4)} {
		next, _ := c.must(x)
		acts := 0
		for _, at := range next.anew(x) {
			acts += next.kept(at)
		}
		for fuse := range acts + 2 {
			x, next := x, next
			v := copied(v)
			v.Disk.Fuse = fuse
			end, stem, got := done(t, v, s, c)
			if fuse < acts {
				if got.code != api.ErrDown || !end.Disk.Down {
					t.Fatalf("%s, fuse %d: %s", c.name, fuse, said(got))
				}
				next = x
			} else if got.code != api.OK || end.Disk.Fuse != fuse-acts {
				t.Fatalf("%s, fuse %d: %s", c.name, fuse, said(got))
			}
			for _, keep := range [][]bool{nil, {true, true}, {false, true, false, true}, slices.Repeat([]bool{true}, acts)} {
				if fuse >= acts && len(keep) < acts {
					continue
				}
				crashed := copied(end)
				disk.Crash(&crashed.Disk, keep...)
				holds(t, crashed, stem, next)
				crashed.Space = v.Space
				holds(t, crashed, s, x)
			}
		}
	}
	v.Disk.Down = true
	for _, c := range []call{leafing(0), laying(0, x.leaves[0]), laying(0, block(70)), laying(0, api.Block{}), resizing(1), resizing(0), recopying(1), recopying(2), resizing(8192), walking(), dropping()} {
		refused(t, v, s, c, api.ErrDown)
	}
	for _, size := range []int{1153, 1281, 3456} {
		if end, _, got := done(t, v, s, resizing(size)); got.code != api.OK || !same(end, v) {
			t.Errorf("down: %d bytes, of which nothing is laid: %s", size, said(got))
		}
	}
}

// What was handed in elsewhere, a copy of the volume and the stem, stays, and is read as it was.
func TestCopiesStay(t *testing.T) {
	x := patterned(28, 2, func(i int) bool { return i%5 > 0 })
	v, s, _ := planted(t, 40, x)
	v = roomy(v)
	snap, was, first := v, whole(v), s
	list := []call{laying(0, block(70)), laying(27, api.Block{}), recopying(1), resizing(8192), laying(63, block(71)), resizing(1300), walking(), leafing(4), dropping()}
	y := x
	for _, c := range list {
		v, s, y = check(t, v, s, y, c)
	}
	if !same(whole(snap), was) {
		t.Error("a copy is changed")
	}
	holds(t, snap, first, x)
}

// Several stems on one volume: what is done to one isn't seen in another, and each has its own sectors.
func TestSideBySide(t *testing.T) {
	v := fresh(t, 40)
	x := patterned(10, 1, func(i int) bool { return i != 3 })
	y := patterned(10, 2, func(i int) bool { return i != 3 })
	z := of(8000, 1, blocks(63)...)
	a, b, c := plant(t, &v, x, nil), plant(t, &v, y, nil), plant(t, &v, z, nil)
	if used := space.Used(v.Space); used != x.sectors()+y.sectors()+z.sectors() {
		t.Error(used)
	}
	v, a, x = check(t, v, a, x, laying(3, block(3)))
	v, b, y = check(t, v, b, y, resizing(200))
	v, c, z = check(t, v, c, z, recopying(2))
	space.Sweep(&v.Space)
	v, a, x = check(t, v, a, x, resizing(8000))
	v, b, y = check(t, v, b, y, dropping())
	space.Settle(&v.Space)
	v, c, z = check(t, v, c, z, laying(0, api.Block{}))
	for _, k := range []struct {
		s api.Stem
		x plain
	}{{a, x}, {b, y}, {c, z}} {
		holds(t, v, k.s, k.x)
	}
	if used := space.Used(v.Space); used != x.sectors()+z.sectors() {
		t.Error(used)
	}
}

// What Walk tells is in order: a root ahead of all that stands beneath it.
func TestWalk(t *testing.T) {
	x := patterned(11, 1, func(i int) bool { return i != 1 && i/3 != 1 })
	v, s, at := planted(t, 20, x)
	var want []api.Ptr
	for _, where := range []spot{{3, 0}, {2, 0}, {1, 0}, {0, 0}, {0, 2}, {1, 6}, {0, 6}, {0, 7}, {0, 8}, {2, 9}, {1, 9}, {0, 9}, {0, 10}} {
		want = append(want, at[where])
	}
	if _, _, got := done(t, v, s, walking()); !got.is(answer{list: want}) {
		t.Errorf("%s, not %s", said(got), toldPtrs(want))
	}
	for where, p := range at {
		if p != hole && !slices.Contains(want, p) {
			t.Error(fmt.Sprint(where), toldPtrs([]api.Ptr{p}))
		}
	}
}

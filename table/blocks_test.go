package table_test

import (
	"math"
	"slices"
	"testing"

	"lazaret/api"
	"lazaret/flow"
	"lazaret/ptr"
	"lazaret/remap"
	"lazaret/space"
	"lazaret/stem"
	"lazaret/table"
	"lazaret/vol"
)

// How many sectors a node has in use.

// blocking: a call of Blocks, with what it must answer.
func blocking(n api.Inode, want int) call {
	return call{
		name: "blocks of " + toldNode(n),
		run: func(v *api.Vol, _ *api.Stem) answer {
			k, e := table.Blocks(v, n)
			return answer{number: k, code: e}
		},
		must: func(x plain) (plain, answer) { return x, answer{number: want} },
	}
}

// noise: so many bytes, none of them zero, no leaf like another one.
func noise(n, size int) []byte {
	b := make([]byte, size)
	for i := range b {
		b[i] = byte(1 + (n*31+i*7+i/128*13)%255)
	}
	return b
}

// holed: so many bytes, the leaves of which that are told so are zeros.
func holed(size int, zeros func(i int) bool) []byte {
	b := noise(1, size)
	for i := range b {
		if zeros(i / 128) {
			b[i] = 0
		}
	}
	return b
}

// lengths: at all edges of leaves, of depths, and of what a stem may have.
func lengths() []int {
	return []int{0, 1, 127, 128, 129, 256, 257, 384, 385, 500, 1152, 1153, 3456, 3457, 8191, 8192}
}

// Nodes of all kinds, with stems of no leaf, one, two, three and many, with and without holes, kept once and twice: as many as the chapter of trees says, and nothing is changed.
func TestBlocks(t *testing.T) {
	t.Parallel()
	for _, size := range lengths() {
		for k, zeros := range []func(i int) bool{
			func(int) bool { return false }, func(int) bool { return true }, func(i int) bool { return i%2 == 0 }, func(i int) bool { return i%9 > 0 },
			func(i int) bool { return i < 30 }, func(i int) bool { return i > 3 }, func(i int) bool { return i == (size-1)/128 },
		} {
			for copies := 1; copies <= 2; copies++ {
				b := holed(size, zeros)
				v := fresh(t, 150)
				other, _, _ := grow(t, &v, noise(3, 700), 2)
				ahead := space.Used(v.Space)
				s, _, _ := grow(t, &v, b, copies)
				flush(t, &v)
				want := sectors(b, copies)
				if space.Used(v.Space) != ahead+want {
					t.Fatal(size, k, space.Used(v.Space), ahead, want)
				}
				for kind := 1; kind <= 3; kind++ {
					if kind != 1 && copies == 1 {
						continue
					}
					n := api.Inode{Number: 1 + (size+k)%64, Kind: kind, Links: k % 3, Stem: s}
					if end, _, got := done(t, v, other, blocking(n, want)); !got.is(answer{number: want}) || !same(end, v) {
						t.Errorf("%d bytes, %d: %s: %s, not %d", size, k, toldNode(n), said(got), want)
					}
				}
			}
		}
	}
}

// The chapter of trees tells how many these are: some of them, by hand.
func TestBlocksByHand(t *testing.T) {
	for _, k := range []struct{ size, once, twice int }{
		{0, 0, 0}, {1, 1, 2}, {128, 1, 2}, {129, 4, 6}, {256, 4, 6}, {300, 5, 8}, {384, 5, 8}, {385, 10, 14}, {1152, 17, 26}, {8192, 132, 196},
	} {
		for copies, want := range map[int]int{1: k.once, 2: k.twice} {
			v := fresh(t, 200)
			s := api.Stem{Root: hole, Copies: copies}
			if e := flow.Fill(&v, &s, noise(2, k.size)); e != api.OK {
				t.Fatal(e)
			}
			if n, e := table.Blocks(&v, api.Inode{Number: 1, Kind: 1, Stem: s}); n != want || e != api.OK {
				t.Errorf("%d bytes, %d times: %d, %v, not %d", k.size, copies, n, e, want)
			}
		}
	}
}

// Sectors are in use that are fresh, and that are kept; what isn't any more is no matter.
func TestBlocksOfEachState(t *testing.T) {
	v, s := fresh(t, 60), api.Stem{Root: hole, Copies: 1}
	b := []byte{}
	for i := range 12 {
		b = append(b, noise(i, 100)...)
		if e := flow.Fill(&v, &s, b); e != api.OK {
			t.Fatal(e)
		}
		if i == 4 {
			space.Settle(&v.Space)
		}
		if i > 6 && i%2 == 0 {
			space.Sweep(&v.Space)
		}
		n := api.Inode{Number: 4, Kind: 1, Stem: s}
		end, _, got := done(t, v, empty(), blocking(n, 0))
		if want := sectors(b, 1); !got.is(answer{number: want}) || !same(end, v) {
			t.Errorf("%d bytes: %s, not %d", len(b), said(got), want)
		}
	}
}

// A root that is no hole is in use in a stem without bytes too; and each pointer has the sectors that it says, whatever Copies says.
func TestBlocksOfOtherStems(t *testing.T) {
	v := fresh(t, 60)
	once, twice := add(t, &v, api.Block{1}, 1), add(t, &v, api.Block{2}, 2)
	for _, size := range []int{0, 1, 128} {
		for copies := 1; copies <= 2; copies++ {
			for want, root := range []api.Ptr{hole, once, twice} {
				n := api.Inode{Number: 64, Kind: 1, Stem: api.Stem{Root: root, Size: size, Copies: copies}}
				if end, _, got := done(t, v, empty(), blocking(n, want)); !got.is(answer{number: want}) || !same(end, v) {
					t.Errorf("%s: %s", toldNode(n), said(got))
				}
			}
		}
	}
	s, _, _ := grow(t, &v, noise(4, 1000), 2)
	s.Copies = 1
	n := api.Inode{Number: 64, Kind: 1, Stem: s}
	l, e := stem.Walk(&v, s)
	if _, _, got := done(t, v, empty(), blocking(n, 0)); !got.is(answer{number: 2 * len(l)}) || e != api.OK {
		t.Error(said(got), len(l), e)
	}
}

// Nodes that aren't right, and roots that aren't Mine: ErrArg, ahead of all else.
func TestBlocksRefused(t *testing.T) {
	t.Parallel()
	v := fresh(t, 20)
	s, _, _ := grow(t, &v, noise(1, 400), 2)
	gone := add(t, &v, api.Block{80}, 2)
	if e := vol.Drop(&v, gone); e != api.OK {
		t.Fatal(e)
	}
	down := v
	down.Disk.Down = true
	good := api.Inode{Number: 7, Kind: 1, Links: 1, Stem: s}
	for _, n := range wrongNodes(good) {
		refused(t, v, empty(), blocking(n, 0), api.ErrArg)
		refused(t, down, empty(), blocking(n, 0), api.ErrArg)
	}
	for _, root := range []api.Ptr{
		gone, {A: gone.A, B: -1}, {A: s.Root.A, B: gone.B, Sum: s.Root.Sum}, {A: gone.A, B: s.Root.B, Sum: s.Root.Sum},
		{A: v.Space.At[0] + v.Space.Size - 1, B: -1}, {A: 2, B: 3}, {A: 0, B: -1}, {A: len(v.Disk.Sectors), B: -1}, {A: 4095, B: 4094}, {A: len(v.Disk.Sectors) - 1, B: -1},
	} {
		for _, size := range []int{0, 1, 400, 8192} {
			n := good
			n.Stem.Root, n.Stem.Size = root, size
			refused(t, v, empty(), blocking(n, 0), api.ErrArg)
			refused(t, down, empty(), blocking(n, 0), api.ErrArg)
		}
	}
	for _, wrong := range wrongVolumes(t, v) {
		for _, root := range []api.Ptr{hole, s.Root} {
			n := good
			n.Stem.Root = root
			old := copied(wrong)
			if k, e := table.Blocks(&old, n); k != 0 || e != api.ErrArg || !same(old, wrong) {
				t.Error(k, e)
			}
		}
	}
	for _, n := range []api.Inode{good, {}, {Number: 1, Kind: 1, Stem: empty()}} {
		if k, e := table.Blocks(nil, n); k != 0 || e != api.ErrArg {
			t.Error(k, e)
		}
	}
}

// Leaves aren't read to be counted: one that can't be is in use all the same, and without power too, where there is no node above it.
func TestBlocksOfBadLeaves(t *testing.T) {
	for copies := 1; copies <= 2; copies++ {
		for _, size := range []int{100, 300, 1300} {
			v := fresh(t, 60)
			s, _, leaves := grow(t, &v, noise(1, size), copies)
			flush(t, &v)
			for i, p := range leaves {
				hit(t, &v, 1+i%2, sectorsOf(p)...)
			}
			n, want := api.Inode{Number: 3, Kind: 1, Stem: s}, sectors(noise(1, size), copies)
			if end, _, got := done(t, v, empty(), blocking(n, want)); !got.is(answer{number: want}) || !same(end, v) {
				t.Errorf("%d bytes: %s, not %d", size, said(got), want)
			}
			v.Disk.Down = true
			if size > 128 {
				refused(t, v, empty(), blocking(n, want), api.ErrDown)
			} else if _, _, got := done(t, v, empty(), blocking(n, want)); !got.is(answer{number: want}) {
				t.Errorf("%d bytes: %s, not %d", size, said(got), want)
			}
		}
	}
}

// Nodes of the tree that can't be read, or are none, or have pointers of others; one copy of one is made well again by who reads it.
func TestBlocksOfBadTrees(t *testing.T) {
	t.Parallel()
	v := fresh(t, 60)
	s, nodes, leaves := grow(t, &v, noise(1, 1300), 1)
	flush(t, &v)
	n, want := api.Inode{Number: 3, Kind: 1, Stem: s}, sectors(noise(1, 1300), 1)
	for i, p := range nodes {
		bad := copied(v)
		hit(t, &bad, 1+i%2, p.A)
		end, _, got := done(t, bad, empty(), blocking(n, want))
		b, e := remap.Read(&end.Disk, end.Map, p.A)
		if !got.is(answer{number: want}) || e != api.OK || !ptr.Fits(p, b) || !sameSpace(end.Space, v.Space) {
			t.Errorf("node %d: %s, %v", i, said(got), e)
		}
		// The power goes while it is made well.
		bad.Disk.Fuse = 0
		if end, _, got := done(t, bad, empty(), blocking(n, want)); got.code != api.ErrDown || !end.Disk.Down {
			t.Errorf("node %d: %s", i, said(got))
		}
		hit(t, &bad, 2, p.B)
		bad.Disk.Fuse = -1
		if _, _, got := done(t, bad, empty(), blocking(n, want)); got.code != api.ErrIO {
			t.Errorf("node %d: %s", i, said(got))
		}
	}
	for _, p := range slices.Concat(nodes[:len(nodes)-1], leaves) {
		bad := copied(v)
		if e := vol.Drop(&bad, p); e != api.OK {
			t.Fatal(e)
		}
		refused(t, bad, empty(), blocking(n, want), api.ErrDamage)
	}
	// A leaf where a node must be.
	for _, size := range []int{129, 384, 385, 8192} {
		n := n
		n.Stem = api.Stem{Root: leaves[0], Size: size, Copies: 1}
		refused(t, v, empty(), blocking(n, 0), api.ErrDamage)
	}
}

// wrongNodes: a right node of which one part alone isn't what it may be.
func wrongNodes(good api.Inode) []api.Inode {
	var l []api.Inode
	with := func(how func(n *api.Inode)) {
		n := good
		how(&n)
		if !rightNode(n) {
			l = append(l, n)
		}
	}
	for _, x := range append(extremes(), -1, 0, 1, 2, 3, 4, 64, 65, 99, 100, 101, 128, 256, 8192, 8193) {
		with(func(n *api.Inode) { n.Number = x })
		with(func(n *api.Inode) { n.Kind = x })
		with(func(n *api.Inode) { n.Links = x })
		with(func(n *api.Inode) { n.Stem.Size = x })
		with(func(n *api.Inode) { n.Stem.Copies = x })
	}
	for _, x := range []api.Ptr{{}, {A: -1, B: -1, Sum: api.Sum{31: 1}}, {A: -1, B: 5}, {A: -2, B: -1}, {A: 4096, B: -1}, {A: 28, B: 28}, {A: 28, B: -2}, {A: 28, B: 4096}, {A: math.MinInt, B: -1}, {A: 28, B: math.MaxInt}} {
		with(func(n *api.Inode) { n.Stem.Root = x })
	}
	with(func(n *api.Inode) { n.Kind, n.Stem.Copies = 2, 1 })
	with(func(n *api.Inode) { n.Kind, n.Stem.Copies = 3, 1 })
	with(func(n *api.Inode) { *n = api.Inode{} })
	return l
}

// wrongVolumes: volumes that aren't right, with power and without.
func wrongVolumes(t *testing.T, good api.Vol) []api.Vol {
	t.Helper()
	var l []api.Vol
	with := func(how func(v *api.Vol)) {
		v := copied(good)
		how(&v)
		l = append(l, v)
		v.Disk.Down = true
		l = append(l, v)
	}
	with(func(v *api.Vol) { *v = api.Vol{} })
	with(func(v *api.Vol) { v.Disk.Sectors = v.Disk.Sectors[1:] })
	with(func(v *api.Vol) { v.Disk.Sectors = nil })
	with(func(v *api.Vol) { v.Disk.Cache = []api.Write{{At: len(v.Disk.Sectors)}} })
	with(func(v *api.Vol) { v.Map.Gen = -1 })
	with(func(v *api.Vol) { v.Map.Pairs = []api.Pair{{From: 28, To: 29}} })
	with(func(v *api.Vol) { v.Space = api.Space{} })
	with(func(v *api.Vol) { v.Space.State = v.Space.State[1:] })
	with(func(v *api.Vol) { v.Space.State[200] = 5 })
	with(func(v *api.Vol) { v.Space.At[0]++ })
	with(func(v *api.Vol) { v.Space.At[1]-- })
	with(func(v *api.Vol) { v.Space = fresh(t, 5).Space })
	return l
}

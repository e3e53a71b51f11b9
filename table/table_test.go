package table_test

import (
	"slices"
	"testing"

	"lazaret/api"
	"lazaret/flow"
	"lazaret/inode"
	"lazaret/space"
	"lazaret/table"
	"lazaret/vol"
)

// The chapter's example.
func TestExample(t *testing.T) {
	v, s := fresh(t, 4), empty()
	n, e := inode.New(3, api.KindFile)
	if e != api.OK {
		t.Fatal(e)
	}
	if e := table.Set(&v, &s, n); e != api.OK || s.Size != 192 {
		t.Error(e, s.Size)
	}
	if k, e := table.Next(&v, s); k != 1 || e != api.OK {
		t.Error(k, e)
	}
	if got, e := table.Get(&v, s, 3); got != n || e != api.OK {
		t.Error(got, e)
	}
	if e := table.Clear(&v, &s, 3); e != api.OK || s != empty() || space.Used(v.Space) != 0 {
		t.Error(e, s)
	}
}

// The bytes of a table are its nodes', each where its number says.
func TestBytes(t *testing.T) {
	v, s, want := fresh(t, 40), empty(), make([]byte, 4096)
	for _, number := range []int{5, 1, 64, 2, 33} {
		n := node(number, 7*number)
		if e := table.Set(&v, &s, n); e != api.OK {
			t.Fatal(e)
		}
		b, e := inode.Put(n)
		if e != api.OK {
			t.Fatal(e)
		}
		copy(want[64*(number-1):], b[:])
		got, e := flow.Read(&v, s, 0, 8192)
		if e != api.OK || !slices.Equal(got, want[:s.Size]) {
			t.Errorf("set of %d: %v, %d bytes", number, e, len(got))
		}
	}
}

// tables: of no bytes, of one record, of some with none between them, of 64.
func tables() []plain {
	l := []plain{of(), of(node(1, 3)), of(node(64, 5)), of(nodes(1, 1, 2)...), of(nodes(2, 1, 3)...), of(nodes(3, 2, 4)...), of(nodes(4, 1, 6, 7)...)}
	for _, numbers := range [][]int{upTo(5), upTo(6), upTo(7), upTo(18), upTo(19), upTo(54), upTo(55), upTo(63), upTo(64), {1, 10, 20, 55, 63}, {40, 41, 64}, {2, 33, 34, 62}} {
		l = append(l, of(nodes(len(numbers), numbers...)...))
	}
	return l
}

// numbers: at all edges, and some between.
func numbers() []int {
	return append(extremes(), -1, 0, 1, 2, 3, 4, 5, 6, 7, 18, 19, 20, 33, 40, 54, 55, 62, 63, 64, 65, 66, 127, 128, 256, 257)
}

// Of each table what is got of every number, listed, and next.
func TestGet(t *testing.T) {
	t.Parallel()
	for _, x := range tables() {
		v, s, _, _ := planted(t, 20, x)
		holds(t, v, s, x)
		for _, number := range numbers() {
			check(t, v, s, x, getting(number))
		}
		check(t, v, s, x, nexting())
		check(t, v, s, x, listing())
	}
}

// A node is set where none is, and in another one's stead; behind all others, and between them.
func TestSet(t *testing.T) {
	t.Parallel()
	for k, x := range tables() {
		v, s, _, _ := planted(t, 20, x)
		for _, number := range []int{1, 2, 3, 5, 6, 7, 8, 18, 19, 40, 54, 55, 63, 64} {
			k++
			n := node(number, k)
			end, next, y := check(t, v, s, x, setting(n))
			if y.at[number].n != n {
				t.Fatal(number)
			}
			// Once more: nothing is laid.
			check(t, end, next, y, setting(n))
			check(t, end, next, y, setting(node(number, k+1)))
		}
	}
}

// A node of each number, set into nothing, and taken away.
func TestEachAlone(t *testing.T) {
	t.Parallel()
	for number := 1; number <= 64; number++ {
		v, s, x := check(t, fresh(t, 10), empty(), of(), setting(node(number, number)))
		if s.Size != 64*number {
			t.Errorf("set of %d: %d bytes", number, s.Size)
		}
		v, s, _ = check(t, v, s, x, clearing(number))
		if s != empty() || space.Used(v.Space) != 0 {
			t.Errorf("clear of %d: %s, %d are in use", number, toldStem(s), space.Used(v.Space))
		}
	}
}

// Each right node is taken, whatever is on the volume: also one whose bytes are another one's, or nobody's.
func TestEveryNode(t *testing.T) {
	t.Parallel()
	v, s, x := fresh(t, 40), empty(), of()
	for k := range 60 {
		v, s, x = check(t, v, s, x, setting(node(1+k%3, k)))
		space.Sweep(&v.Space)
	}
	root := add(t, &v, api.Block{5}, 2)
	for kind := 1; kind <= 3; kind++ {
		for _, links := range []int{0, 1, 99} {
			for _, size := range []int{0, 1, 8191, 8192} {
				for copies := 1; copies <= 2; copies++ {
					for _, p := range []api.Ptr{hole, root, {A: 0, B: -1}, {A: 4095, B: 4094}} {
						n := api.Inode{Number: 2, Kind: kind, Links: links, Stem: api.Stem{Root: p, Size: size, Copies: copies}}
						e := table.Set(&v, &s, n)
						if got, f := table.Get(&v, s, 2); rightNode(n) && (e != api.OK || f != api.OK || got != n) {
							t.Errorf("%s: %v, %v", toldNode(n), e, f)
						} else if !rightNode(n) && e != api.ErrArg {
							t.Errorf("%s: %v", toldNode(n), e)
						}
						space.Sweep(&v.Space)
					}
				}
			}
		}
	}
}

// Each number of each table is cleared: where there is a node, there is none any more, and the table ends with its last one.
func TestClear(t *testing.T) {
	t.Parallel()
	for _, x := range tables() {
		v, s, _, _ := planted(t, 20, x)
		for number := 1; number <= 64; number++ {
			if _, e := x.get(number); e != api.OK {
				refused(t, v, s, clearing(number), api.ErrNoEnt)
				continue
			}
			if x.size > 1200 && number%5 > 1 && number < x.last(0)-1 {
				continue
			}
			end, next, y := check(t, v, s, x, clearing(number))
			if next.Size != 64*y.last(0) {
				t.Fatalf("clear of %d: %d bytes", number, next.Size)
			}
			refused(t, end, next, clearing(number), api.ErrNoEnt)
			check(t, end, next, y, setting(x.at[number].n))
		}
	}
}

// Several records ahead of the last node's are no node's: they go with it.
func TestEndsWithItsLast(t *testing.T) {
	for _, k := range []struct {
		numbers []int
		clear   int
		size    int
	}{
		{[]int{1, 64}, 64, 64}, {[]int{2, 64}, 64, 128}, {[]int{63, 64}, 64, 4032}, {[]int{62, 64}, 64, 3968}, {[]int{64}, 64, 0},
		{[]int{1, 2, 3}, 3, 128}, {[]int{1, 2, 3}, 2, 192}, {[]int{1, 2, 3}, 1, 192}, {[]int{1, 3}, 3, 64}, {[]int{2, 3}, 3, 128}, {[]int{3, 10}, 10, 192}, {[]int{3, 10}, 3, 640},
		{[]int{1, 7}, 7, 64}, {[]int{6, 7}, 7, 384}, {[]int{5, 19}, 19, 320}, {[]int{1}, 1, 0}, {[]int{1, 18, 19}, 18, 1216}, {[]int{1, 18, 19}, 19, 1152},
	} {
		x := of(nodes(3, k.numbers...)...)
		v, s, _, _ := planted(t, 20, x)
		if _, next, _ := check(t, v, s, x, clearing(k.clear)); next.Size != k.size {
			t.Errorf("clear of %d of %v: %d bytes, not %d", k.clear, k.numbers, next.Size, k.size)
		}
	}
	// From the back on, one by one; and from the front on, when all go with the last one.
	for _, order := range [][]int{{64, 40, 39, 20, 7, 2, 1}, {1, 2, 7, 20, 39, 40, 64}, {2, 40, 7, 64, 39, 20, 1}} {
		x := of(nodes(9, 1, 2, 7, 20, 39, 40, 64)...)
		v, s, _, _ := planted(t, 40, x)
		for _, number := range order {
			v, s, x = check(t, v, s, x, clearing(number))
			space.Sweep(&v.Space)
		}
		if s != empty() || space.Used(v.Space) != 0 {
			t.Error(order, toldStem(s), space.Used(v.Space))
		}
	}
}

// 64 nodes: there is no next number, till one of them is cleared.
func TestMany(t *testing.T) {
	t.Parallel()
	v, s, x := fresh(t, 100), empty(), of()
	for number := 1; number <= 64; number++ {
		if n, e := table.Next(&v, s); n != number || e != api.OK {
			t.Fatal(n, e)
		}
		v, s, x = check(t, v, s, x, setting(node(number, 2*number)))
		space.Sweep(&v.Space)
	}
	refused(t, v, s, nexting(), api.ErrMany)
	for _, number := range []int{1, 2, 31, 32, 33, 63, 64} {
		end, next, _ := check(t, v, s, x, clearing(number))
		if n, e := table.Next(&end, next); n != number || e != api.OK {
			t.Error(number, n, e)
		}
	}
	least := 64
	for _, number := range []int{64, 9, 40, 8} {
		v, s, x = check(t, v, s, x, clearing(number))
		least = min(least, number)
		if n, e := table.Next(&v, s); n != least || e != api.OK {
			t.Error(number, n, e)
		}
	}
	// All but the first one, and all but the last one.
	for _, k := range []struct{ from, to, next int }{{2, 64, 1}, {1, 63, 64}} {
		x := of()
		for number := k.from; number <= k.to; number++ {
			x = x.with(node(number, number))
		}
		v, s, _, _ := planted(t, 80, x)
		if n, e := table.Next(&v, s); n != k.next || e != api.OK {
			t.Error(k, n, e)
		}
	}
}

// Bytes that are missing at the end count as 0: a table may end within a node's record, or within one that is no node's.
func TestMissingBytes(t *testing.T) {
	t.Parallel()
	file, once := node(3, 0), node(3, 1)
	once.Stem.Root = api.Ptr{A: 5, B: 4095} // Its bytes that aren't 0 end with B.
	for _, k := range []struct {
		x    plain
		from int
	}{
		{of(node(1, 2), file), 128 + 16}, {of(node(1, 2), once), 128 + 14}, {of(file), 128 + 16}, {of(node(2, 2), node(3, 3)), 128 + 48},
		{of(node(2, 2)), 128}, {of(node(1, 2)), 64 - 16}, {of(), 0}, {of(nodes(5, 1, 2, 5)...), 320}, {of(nodes(5, 1, 2, 6)...), 384},
	} {
		for _, size := range []int{k.from, k.from + 1, (k.from+63)/64*64 - 1, (k.from + 63) / 64 * 64, k.from + 64, k.from + 65, k.from + 127, k.from + 128, k.from + 300, 4095, 4096} {
			if size < k.from {
				continue
			}
			x := k.x.sized(size)
			v, s, _, _ := planted(t, 20, x)
			holds(t, v, s, x)
			for number := 1; number <= 8; number++ {
				check(t, v, s, x, clearing(number))
				check(t, v, s, x, setting(node(number, 11)))
			}
		}
	}
	// Fewer bytes, and it is no node's any more, but not nothing either. (Of nine one says that A is 255, and B is 0 then: that may be.)
	x := of(node(1, 2), file)
	b := x.bytes()
	for _, size := range []int{129, 130, 131, 135, 136, 138, 139, 140, 142, 143} {
		v := fresh(t, 10)
		s, _, _ := grow(t, &v, b[:size], 2)
		if n, e := table.Get(&v, s, 3); n != (api.Inode{}) || e != api.ErrDamage {
			t.Errorf("%d bytes: %s, %v", size, toldNode(n), e)
		}
	}
}

// Records of a table that are no node's at its end, which no call left there: a Set lets them stay, the next Clear doesn't.
func TestZerosAtItsEnd(t *testing.T) {
	for _, size := range []int{192, 256, 300, 640, 4096} {
		x := of(nodes(3, 1, 2)...).sized(size)
		v, s, _, _ := planted(t, 20, x)
		holds(t, v, s, x)
		if _, next, _ := check(t, v, s, x, setting(node(1, 9))); next.Size != size {
			t.Error(size, next.Size)
		}
		for _, k := range []struct{ clear, left int }{{1, 128}, {2, 64}} {
			if _, next, _ := check(t, v, s, x, clearing(k.clear)); next.Size != k.left {
				t.Error(size, k.clear, next.Size)
			}
		}
	}
	// Zeros alone ask for no block, no room and no power.
	for _, size := range []int{0, 1, 64, 130, 4096} {
		v, s := crowded(fresh(t, 4), [2]int{}), api.Stem{Root: hole, Size: size, Copies: 2}
		v.Disk.Down = true
		for number := 1; number <= 64; number += 9 {
			refused(t, v, s, getting(number), api.ErrNoEnt)
			refused(t, v, s, clearing(number), api.ErrNoEnt)
		}
		if _, _, got := done(t, v, s, nexting()); !got.is(answer{number: 1}) {
			t.Error(size, said(got))
		}
		if _, _, got := done(t, v, s, listing()); !got.is(answer{}) {
			t.Error(size, said(got))
		}
	}
}

// Behind the 64th record there is none: what stands there is nobody's, and goes with the next Clear.
func TestBehindTheLastRecord(t *testing.T) {
	t.Parallel()
	nine := make([]byte, 8192-4096)
	nine[0], nine[4000] = 9, 9
	for _, x := range []plain{of(nodes(4, upTo(64)...)...), of(nodes(4, 1, 5)...).sized(4096), of().sized(4096)} {
		for size := 4097; size <= 8192; size += 1365 {
			v := fresh(t, 60)
			s, _, _ := grow(t, &v, append(x.bytes(), nine[:size-4096]...), 2)
			tells(t, v, s, x)
			down := v
			down.Disk.Down = true
			refused(t, down, s, getting(65), api.ErrArg)
			refused(t, down, s, clearing(65), api.ErrArg)
			if e := table.Set(&v, &s, node(2, 9)); e != api.OK || s.Size != size {
				t.Error(e, s.Size)
			}
			if e := table.Clear(&v, &s, 2); e != api.OK {
				t.Error(e)
			}
			left := x
			left.at[2] = record{}
			left.size = 64 * left.last(0)
			holds(t, v, s, left)
		}
	}
}

// A copy of the volume and of the stem, handed in elsewhere, stays, and tells what it told.
func TestCopiesStay(t *testing.T) {
	x := of(nodes(4, 1, 3, 20)...)
	v, s, _, _ := planted(t, 100, x)
	v = roomy(v)
	snap, was, first, y := v, whole(v), s, x
	for _, c := range mixed() {
		v, s, y = check(t, v, s, y, c)
		if !same(whole(snap), was) {
			t.Fatalf("%s: a copy is changed", c.name)
		}
	}
	holds(t, snap, first, x)
}

// mixed: calls of all kinds, for a table of some nodes.
func mixed() []call {
	return []call{
		setting(node(2, 5)), setting(node(1, 6)), setting(node(20, 7)), clearing(3), setting(node(64, 8)), nexting(), clearing(20), listing(), getting(1),
		setting(node(63, 9)), clearing(64), clearing(63), setting(node(21, 3)), setting(node(3, 3)), clearing(1), getting(2), clearing(21), clearing(2), clearing(3), nexting(),
	}
}

// What else is on the volume, another table among it, is no matter, and stays.
func TestBeside(t *testing.T) {
	t.Parallel()
	v := fresh(t, 100)
	p, q := add(t, &v, api.Block{1}, 1), add(t, &v, api.Block{2}, 2)
	stems, data := []api.Stem{empty(), empty()}, []plain{of(), of()}
	for i, c := range append(mixed(), mixed()...) {
		k := i / 3 % 2
		v, stems[k], data[k] = check(t, v, stems[k], data[k], c)
		used := 3
		for k, s := range stems {
			holds(t, v, s, data[k])
			used += sectors(data[k].bytes(), 2)
		}
		if space.Used(v.Space) != used {
			t.Fatalf("%s: %d are in use, not %d", c.name, space.Used(v.Space), used)
		}
		space.Sweep(&v.Space)
	}
	a, e := vol.Get(&v, p)
	b, f := vol.Get(&v, q)
	if a != (api.Block{1}) || b != (api.Block{2}) || e != api.OK || f != api.OK {
		t.Error(e, f)
	}
}

// A node's own bytes stay when it is cleared.
func TestOwnBytesStay(t *testing.T) {
	v, s := fresh(t, 40), empty()
	n, _ := inode.New(5, api.KindDir)
	b := []byte("its bytes, which are there still when nobody knows of them any more")
	if e := flow.Fill(&v, &n.Stem, slices.Repeat(b, 9)); e != api.OK {
		t.Fatal(e)
	}
	used := space.Used(v.Space)
	if e := table.Set(&v, &s, n); e != api.OK {
		t.Fatal(e)
	}
	if e := table.Clear(&v, &s, 5); e != api.OK || space.Used(v.Space) != used {
		t.Fatal(e, space.Used(v.Space), used)
	}
	if got, e := flow.Read(&v, n.Stem, 0, 8192); e != api.OK || !slices.Equal(got, slices.Repeat(b, 9)) {
		t.Error(e, len(got))
	}
}

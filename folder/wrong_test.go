package folder_test

import (
	"bytes"
	"math"
	"slices"
	"strings"
	"testing"

	"lazaret/api"
	"lazaret/folder"
	"lazaret/space"
	"lazaret/vol"
)

// Bytes that are no entries', tables, nodes and volumes that aren't as they must be, and which error comes first.

// formless: bytes that are no entries', for one reason each.
func formless() [][]byte {
	l := [][]byte{{0}, {1}, {9}, {255}, {0, 0}, {1, 0}, {1, 1}, {5, 1}, {1, 2, 'a'}, {0, 1, 'a'}, {65, 1, 'a'}, {255, 1, 'a'}, {1, 25, 'a'}, {1, 255, 'a'}, {1, 1, 'a', 0}, {1, 1, 'a', 2}, {1, 1, 'a', 2, 1}, {1, 1, 'a', 2, 0}, {1, 1, 'a', 0, 0}, {1, 1, 'a', 2, 2, 'b'},
		bytesOf(of("b", "a")), bytesOf(of("a", "a")), bytesOf(of("a", "c", "b")), bytesOf(many(41, 2)), bytesOf(many(41, 24)), bytesOf(many(99, 24)),
		make([]byte, 128), make([]byte, 8192), bytes.Repeat([]byte{1}, 300), bytes.Repeat([]byte{24}, 8192)}
	for _, name := range badNames() {
		if len(name) < 256 {
			l = append(l, bytesOf(of(name)), bytesOf(of("\x01", name, "\xff\xff\xff")))
		}
	}
	// Of more than one leaf, where the last byte alone is wrong, or missing, or one too many.
	whole := bytesOf(many(40, 24))
	l = append(l, whole[:len(whole)-1], append(bytes.Clone(whole), 0), append(bytes.Clone(whole), 1), whole[:128], whole[:129], whole[:1024], whole[1:])
	other := bytes.Clone(whole)
	other[len(other)-1] = '/'
	return append(l, other)
}

// A directory whose bytes are no entries': ErrDamage, but of Write, which lays others over them.
func TestBytesOfNoEntries(t *testing.T) {
	t.Parallel()
	for i, b := range formless() {
		if _, e := taken(b); e != api.ErrDamage {
			t.Fatalf("% x", b)
		}
		dir := 1 + i%3
		x := nothing().with(4, dirOf(of("other")...)).with(dir, bytesAsDir(b))
		v, s, _ := planted(t, 20, x)
		holds(t, v, s, x)
		for _, c := range append(callsOf(dir), wrongCallsOf(dir)...) {
			check(t, v, s, x, c)
			if !c.over {
				refused(t, v, s, c, api.ErrDamage)
			}
		}
		for _, l := range [][]api.Entry{nil, of("a"), many(40, 24)} {
			end, next, y := check(t, v, s, x, writing(dir, l...))
			check(t, end, next, y, adding(dir, "b", 3))
		}
		check(t, v, s, x, reading(4))
		check(t, v, s, x, adding(4, "more", 4))
		check(t, v, s, x, alling())
	}
}

// A node whose Size says fewer bytes than there were, or more: these are its bytes then, zeros where none stand.
func TestSizes(t *testing.T) {
	t.Parallel()
	for _, l := range [][]api.Entry{of("a"), of("a", "bb", "ccc"), many(5, 24), many(12, 11)} {
		whole := bytesOf(l)
		ends := map[int]int{0: 0}
		for i := range l {
			ends[len(bytesOf(l[:i+1]))] = i + 1
		}
		for size := range len(whole) + 5 {
			if size > 40 && size%7 > 0 && ends[size] == 0 && size < len(whole) {
				continue
			}
			b := append(bytes.Clone(whole), make([]byte, 5)...)[:size]
			x := nothing().with(1, bytesAsDir(b))
			v, s, _ := planted(t, 10, x)
			got, e := folder.Read(&v, s, 1)
			if n, is := ends[size]; is != (e == api.OK) || is && !slices.Equal(got, l[:n]) {
				t.Errorf("%d of %d bytes: %s, %v", size, len(whole), said(got), e)
			}
			for _, c := range callsOf(1) {
				check(t, v, s, x, c)
			}
		}
	}
	// The same tree, of which the node says another size: what is left over of the last leaf is seen.
	for _, k := range []struct {
		size, want int // bytes, and entries; -1: these are no entries'
	}{{0, 0}, {1, -1}, {12, -1}, {13, 1}, {14, -1}, {25, -1}, {26, 2}, {128, -1}, {39, 3}, {40, -1}, {52, 4}, {64, -1}, {117, 9}, {127, -1}} {
		v := fresh(t, 10)
		dir := grow(t, &v, bytesOf(many(9, 11)), 2).stem
		dir.Size = k.size
		raw := recordOf(api.KindDir, 1, dir)
		s := grow(t, &v, raw[:], 2).stem
		l, e := folder.Read(&v, s, 1)
		if k.want < 0 && (e != api.ErrDamage || len(l) > 0) || k.want >= 0 && (e != api.OK || !slices.Equal(l, many(9, 11)[:k.want])) {
			t.Errorf("%d bytes: %s, %v", k.size, said(l), e)
		}
	}
	// A node that says more leaves than its tree has: a leaf stands where a node must be; and one that says a single leaf, where its tree has nodes: what these say are no entries.
	v := fresh(t, 40)
	sized := func(l []api.Entry, size int) api.Stem {
		dir := grow(t, &v, bytesOf(l), 2).stem
		dir.Size = size
		raw := recordOf(api.KindDir, 1, dir)
		return grow(t, &v, raw[:], 2).stem
	}
	for _, size := range []int{129, 384, 385, 500, 1152, 1153, 8192} {
		s := sized(many(4, 24), size)
		for _, c := range []call{reading(1), finding(1, "a"), adding(1, "a", 1), removing(1, "a"), writing(1, many(40, 24)...)} {
			failed(t, v, s, c, api.ErrDamage)
		}
	}
	for _, size := range []int{1, 26, 120, 128} {
		s := sized(many(40, 24), size)
		for _, c := range []call{reading(1), finding(1, "a"), adding(1, "a", 1), removing(1, "a")} {
			failed(t, v, s, c, api.ErrDamage)
		}
	}
}

// Bytes that are missing at the table's end count as 0: a directory without entries may have such a record.
func TestMissingBytes(t *testing.T) {
	for _, size := range []int{16, 17, 40, 63, 64} {
		v := fresh(t, 10)
		raw := recordOf(api.KindDir, 1, api.Stem{Root: hole, Copies: 2})
		s := grow(t, &v, raw[:size], 2).stem
		if l, e := folder.Read(&v, s, 1); len(l) > 0 || e != api.OK {
			t.Error(size, l, e)
		}
		if l, e := folder.All(&v, s); !slices.Equal(l, []int{1}) || e != api.OK {
			t.Error(size, l, e)
		}
		if e := folder.Add(&v, &s, 1, api.Entry{Name: "a", Node: 5}); e != api.OK {
			t.Error(size, e)
		}
		holds(t, v, s, nothing().with(1, dirOf(api.Entry{Name: "a", Node: 5})))
	}
}

// A record that says nothing, in the directory's place and beside it.
func TestDamagedRecords(t *testing.T) {
	t.Parallel()
	for _, raw := range [][]byte{{9}, {2}, {1}, {4, 1, 2}, {2, 100, 2}, {2, 1, 3}, bytes.Repeat([]byte{255}, 64), append(make([]byte, 63), 1)} {
		for _, bad := range []int{1, 2, 6, 9, 64} {
			x := ordinary().with(bad, badOf(raw...))
			v, s, _ := planted(t, 20, x)
			holds(t, v, s, x)
			for _, dir := range []int{bad, 5, 7, 8} {
				for _, c := range append(callsOf(dir), wrongCallsOf(dir)...) {
					if dir == bad {
						refused(t, v, s, c, api.ErrDamage)
					} else {
						check(t, v, s, x, c)
					}
				}
			}
			refused(t, v, s, alling(), api.ErrDamage)
		}
	}
}

// every: all calls, of directories that there are, and of such as there aren't.
func every() []call {
	l := []call{alling()}
	for _, dir := range []int{math.MinInt, -1, 0, 1, 2, 5, 9, 64, 65, math.MaxInt} {
		l = append(l, append(callsOf(dir), wrongCallsOf(dir)...)...)
	}
	return l
}

// A table's stem that isn't right, or whose root isn't Mine: ErrArg, with power and without, and nothing is changed.
func TestWrongTables(t *testing.T) {
	t.Parallel()
	v, s, _ := planted(t, 10, ordinary())
	gone := add(t, &v, api.Block{80}, 2)
	if e := vol.Drop(&v, gone); e != api.OK {
		t.Fatal(e)
	}
	var l []api.Stem
	with := func(how func(s *api.Stem)) {
		x := s
		how(&x)
		l = append(l, x)
	}
	for _, root := range []api.Ptr{
		{A: -1, B: -1, Sum: api.Sum{31: 1}}, {A: -1, B: 5}, {A: -2, B: -1}, {A: 4096, B: -1}, {A: 28, B: 28}, {A: 28, B: -2}, {A: math.MinInt, B: -1}, {A: 28, B: math.MaxInt}, {},
		gone, {A: gone.A, B: -1}, {A: s.Root.A, B: gone.B, Sum: s.Root.Sum}, {A: gone.A, B: s.Root.B, Sum: s.Root.Sum}, {A: 0, B: 1, Sum: s.Root.Sum}, {A: 4095, B: -1},
	} {
		with(func(s *api.Stem) { s.Root = root })
		with(func(s *api.Stem) { s.Root, s.Size = root, 0 })
	}
	for _, n := range []int{math.MinInt, -1, 8193, 1 << 32, math.MaxInt} {
		with(func(s *api.Stem) { s.Size = n })
	}
	for _, n := range []int{math.MinInt, -1, 0, 3, 4, 1<<32 + 2, math.MaxInt} {
		with(func(s *api.Stem) { s.Copies = n })
	}
	for _, s := range l {
		for _, c := range every() {
			refused(t, v, s, c, api.ErrArg)
			refused(t, down(v), s, c, api.ErrArg)
		}
	}
}

// Volumes that aren't right, and none at all; and no table: ErrArg.
func TestWrongVolumes(t *testing.T) {
	t.Parallel()
	good, s, _ := planted(t, 10, ordinary())
	var l []api.Vol
	for _, how := range []func(v *api.Vol){
		func(v *api.Vol) { *v = api.Vol{} },
		func(v *api.Vol) { v.Disk.Sectors = v.Disk.Sectors[1:] },
		func(v *api.Vol) { v.Disk.Sectors = nil },
		func(v *api.Vol) { v.Disk.Cache = []api.Write{{At: len(v.Disk.Sectors)}} },
		func(v *api.Vol) { v.Map.Gen = -1 },
		func(v *api.Vol) { v.Map.Pairs = []api.Pair{{From: 28, To: 29}} },
		func(v *api.Vol) { v.Space = api.Space{} },
		func(v *api.Vol) { v.Space.State = v.Space.State[1:] },
		func(v *api.Vol) { v.Space.State[100] = 5 },
		func(v *api.Vol) { v.Space.At[0]++ },
		func(v *api.Vol) { v.Space.At[1]-- },
		func(v *api.Vol) { v.Space = fresh(t, 5).Space },
	} {
		v := copied(good)
		how(&v)
		l = append(l, v, down(v))
	}
	for _, c := range every() {
		for _, x := range []api.Stem{s, empty(), {Root: hole, Size: 448, Copies: 2}} {
			for _, v := range l {
				refusedAsItIs(t, v, x, c)
			}
			next := x
			if got := hold(c).run(c, nil, &next); !got.is(answer{code: api.ErrArg}) || next != x {
				t.Errorf("no volume: %s: %v", c.name, got)
			}
		}
		v := copied(good)
		if got := hold(c).run(c, &v, nil); !got.is(answer{code: api.ErrArg}) || !same(v, good) {
			t.Errorf("no table: %s: %v", c.name, got)
		}
		if got := hold(c).run(c, nil, nil); !got.is(answer{code: api.ErrArg}) {
			t.Errorf("nothing at all: %s: %v", c.name, got)
		}
	}
}

// refusedAsItIs: a call of a volume whose lists may not have room behind them answers ErrArg, and changes nothing.
func refusedAsItIs(t *testing.T, v api.Vol, s api.Stem, c call) {
	t.Helper()
	end, next := copied(v), s
	if got := hold(c).run(c, &end, &next); !got.is(answer{code: api.ErrArg}) || !same(end, v) || next != s {
		t.Errorf("%s: %v", c.name, got)
	}
}

// A directory's root that isn't Mine: ErrArg, behind that it is no directory, whatever its size says, and without reading anything.
func TestRootsOfOthers(t *testing.T) {
	t.Parallel()
	v := fresh(t, 10)
	good := grow(t, &v, bytesOf(of("a", "b")), 2).stem
	gone, kept := add(t, &v, api.Block{80}, 2), add(t, &v, api.Block{81}, 2)
	space.Settle(&v.Space)
	for _, p := range []api.Ptr{gone, kept} {
		if e := vol.Drop(&v, p); e != api.OK {
			t.Fatal(e)
		}
	}
	for _, root := range []api.Ptr{gone, kept, {A: gone.A, B: -1}, {A: good.Root.A, B: kept.B, Sum: good.Root.Sum}, {A: v.Space.At[0] + v.Space.Size - 1, B: -1}, {A: 0, B: 1}, {A: 4095, B: 4094}, {A: len(v.Disk.Sectors), B: -1}} {
		for _, size := range []int{0, 6, 128, 129, 8192} {
			for kind, code := range map[int]api.Errno{api.KindFile: api.ErrNotDir, api.KindDir: api.ErrArg, api.KindLink: api.ErrNotDir} {
				v := copied(v)
				raw := recordOf(kind, 1, api.Stem{Root: root, Size: size, Copies: 2})
				s := grow(t, &v, raw[:], 2).stem
				for _, c := range append(callsOf(1), wrongCallsOf(1)...) {
					refused(t, v, s, c, code)
					refused(t, crowded(v, [2]int{}), s, c, code)
				}
				if l, e := folder.All(&v, s); e != api.OK || len(l) != 1 && kind == api.KindDir || len(l) != 0 && kind != api.KindDir {
					t.Error(l, e)
				}
			}
		}
	}
}

// Which error is told, where two would be: each ahead of all those below it.
func TestWhichErrorComesFirst(t *testing.T) {
	t.Parallel()
	long := append(bytesOf(many(40, 24)), 0)
	x := nothing().with(1, dirOf(of("a", "etc")...)).with(2, fileOf("a")).with(3, bytesAsDir([]byte{9})).with(4, bytesAsDir(long)).with(5, dirOf(many(40, 24)...)).with(6, badOf(9)).with(8, dirOf(of("a")...))
	v, s, l := planted(t, 30, x)
	with := func(blocks ...api.Ptr) api.Vol {
		v := crowded(v, [2]int{})
		for _, p := range blocks {
			v = unread(t, v, p)
		}
		return v
	}
	all := func(dir int) []call { return append(callsOf(dir), wrongCallsOf(dir)...) }
	told := func(v api.Vol, list []call, code api.Errno) {
		t.Helper()
		for _, c := range list {
			refused(t, v, s, c, code)
		}
	}
	// A number that no node may have; a table that can't be read; what stands there; no directory.
	table := l[0].leaves
	none := with(slices.Concat(table, l[1].leaves, l[2].leaves, l[3].leaves, l[4].leaves)...)
	for _, v := range []api.Vol{none, down(none)} {
		told(v, slices.Concat(all(0), all(65), all(-1)), api.ErrArg)
	}
	told(none, slices.Concat(all(1), all(2), all(3), all(4), all(6), all(7), []call{alling()}), api.ErrIO)
	told(down(none), slices.Concat(all(1), all(2), all(3), all(6), all(7), []call{alling()}), api.ErrDown)
	leaves := with(l[1].leaves[0], l[2].leaves[0], l[3].leaves[0], l[4].leaves[8], l[5].leaves[8])
	told(leaves, append(all(6), alling()), api.ErrDamage)
	told(leaves, slices.Concat(all(7), all(9), all(64)), api.ErrNoEnt)
	told(leaves, all(2), api.ErrNotDir)
	// Bytes that can't be read, ahead of bytes that say nothing, ahead of what the call itself refuses; but Write asks for none of them.
	for _, k := range []struct {
		dir  int
		code api.Errno
	}{{1, api.ErrIO}, {3, api.ErrIO}, {4, api.ErrIO}, {5, api.ErrIO}} {
		for _, c := range all(k.dir) {
			if !c.over {
				refused(t, leaves, s, c, k.code)
			}
		}
	}
	for _, dir := range []int{3, 4} {
		for _, c := range all(dir) {
			if !c.over {
				refused(t, with(), s, c, api.ErrDamage)
			}
		}
	}
	for _, dir := range []int{1, 3, 4, 5} {
		for _, l := range wrong() {
			for _, v := range []api.Vol{with(), leaves} {
				refused(t, v, s, writing(dir, l...), api.ErrArg)
			}
		}
		failed(t, with(), s, writing(dir, many(3, 3)...), api.ErrNoSpace)
	}
	// What With refuses, in its order, ahead of no room.
	there := many(40, 24)[7].Name
	for _, k := range []struct {
		c    call
		code api.Errno
	}{
		{adding(1, "a/b", 0), api.ErrName}, {adding(1, "", 65), api.ErrName}, {adding(5, strings.Repeat("n", 25), 1), api.ErrName}, {adding(5, "..", 0), api.ErrName},
		{adding(1, "a", 0), api.ErrArg}, {adding(5, there, 65), api.ErrArg}, {adding(5, "new", -1), api.ErrArg},
		{adding(1, "a", 64), api.ErrExist}, {adding(5, there, 64), api.ErrExist}, {adding(5, "new", 64), api.ErrMany},
		{removing(1, "b"), api.ErrNoEnt}, {removing(5, "a/b"), api.ErrNoEnt}, {removing(5, ""), api.ErrNoEnt}, {finding(1, "b"), api.ErrNoEnt}, {finding(5, ".."), api.ErrNoEnt},
	} {
		refused(t, with(), s, k.c, k.code)
	}
	for _, c := range []call{adding(1, "new", 64), removing(1, "a"), removing(5, there), removing(8, "a"), writing(5)} {
		failed(t, with(), s, c, api.ErrNoSpace)
	}
}

// Each leaf in turn can't be read: ErrIO of who needs it; all else goes on, and Write lays what is good over it.
func TestLeavesThatCanNotBeRead(t *testing.T) {
	t.Parallel()
	x := ordinary().with(5, dirOf(many(40, 24)...))
	good, s, l := planted(t, 30, x)
	for number, at := range l {
		for i, p := range at.leaves {
			if p == hole {
				continue
			}
			v := unread(t, good, p)
			for _, dir := range []int{1, 5, 8, 64} {
				for _, c := range callsOf(dir) {
					if number == 0 && i == (dir-1)/2 || number == dir && !c.over {
						refused(t, v, s, c, api.ErrIO)
					} else {
						goesOn(t, v, s, x, c)
					}
				}
			}
			if number == 0 {
				refused(t, v, s, alling(), api.ErrIO)
			} else {
				goesOn(t, v, s, x, alling())
			}
			if number > 0 && x.at[number].kind == api.KindDir {
				c := writing(number, many(40, 24)...)
				end, next, got := done(t, v, s, c)
				want, _ := c.must(x)
				if !got.is(answer{}) {
					t.Fatalf("%s: %v", c.name, got)
				}
				holds(t, end, next, want)
			}
		}
	}
}

// goesOn: a call of which what can't be read is no matter does what it must.
func goesOn(t *testing.T, v api.Vol, s api.Stem, x plain, c call) {
	t.Helper()
	end, _, got := done(t, v, s, c)
	want, must := c.must(x)
	if used := space.Used(end.Space); !got.is(must) || used != want.sectors() {
		t.Fatalf("%s: %v, not %v; %d are in use, not %d", c.name, got, must, used, want.sectors())
	}
}

// Nodes of a directory's tree that can't be read, or are none, or have pointers of others: what comes by is told that. Another directory is none of its business.
func TestBadTrees(t *testing.T) {
	t.Parallel()
	x := nothing().with(1, dirOf(many(40, 24)...)).with(2, dirOf(of("a", "etc")...))
	good, s, l := planted(t, 20, x)
	others := append(callsOf(2), alling())
	for _, p := range l[1].nodes {
		v := unread(t, good, p)
		for _, c := range append(callsOf(1), wrongCallsOf(1)...) {
			if !c.over {
				failed(t, v, s, c, api.ErrIO)
			}
		}
		failed(t, v, s, writing(1), api.ErrIO)
		failed(t, v, s, writing(1, many(40, 23)...), api.ErrIO)
		for _, c := range others {
			goesOn(t, v, s, x, c)
		}
	}
	for _, p := range slices.Concat(l[1].nodes[:len(l[1].nodes)-1], l[1].leaves) {
		v := copied(good)
		if e := vol.Drop(&v, p); e != api.OK {
			t.Fatal(e)
		}
		for _, c := range append(callsOf(1), wrongCallsOf(1)...) {
			if !c.over {
				failed(t, v, s, c, api.ErrDamage)
			}
		}
		failed(t, v, s, writing(1), api.ErrDamage)
		failed(t, v, s, writing(1, many(40, 23)...), api.ErrDamage)
		for _, c := range others {
			_, must := c.must(x)
			if _, _, got := done(t, v, s, c); !got.is(must) {
				t.Fatalf("%s: %v", c.name, got)
			}
		}
	}
}

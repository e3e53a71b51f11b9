package folder_test

import (
	"bytes"
	"slices"
	"testing"

	"lazaret/api"
	"lazaret/disk"
	"lazaret/folder"
	"lazaret/space"
)

// No room, no power, and sectors that are hit.

// small: directories of one leaf and of several, in a table of four leaves, and more.
func small() plain {
	return nothing().with(1, dirOf(of("a", "b")...)).with(2, fileOf("a file")).with(5, dirOf()).with(7, dirOf(many(9, 24)...)).with(8, linkOf("/"))
}

// changes: of each kind, on each of these directories.
func changes() []call {
	return []call{
		adding(1, "c", 3), removing(1, "b"), writing(1), writing(1, many(12, 24)...), adding(5, "new", 64), writing(5, of("a")...), writing(5, many(40, 24)...),
		adding(7, "zz", 9), adding(7, " ", 9), removing(7, many(9, 24)[0].Name), removing(7, many(9, 24)[8].Name), writing(7), writing(7, many(4, 24)...), writing(7, many(40, 24)...),
	}
}

// least: how many blocks must be laid in each region, at least: of the directory those that are new, and the whole way to its record.
func least(x, want plain, dir int) int {
	return anew(want.at[dir].b, x.at[dir].b) + len(levels(x.shape()))
}

// most: how many at most: each leaf of the directory with its way, and another way where it gets deeper, and the way to its record.
func most(x, want plain, dir int) int {
	depth := len(levels(want.at[dir].b))
	return len(leavesOf(want.at[dir].b))*depth + depth + len(levels(x.shape()))
}

// Regions with little room: what finds none changes neither the directory nor the table, and what finds some, both.
func TestNoSpace(t *testing.T) {
	t.Parallel()
	for copies := 1; copies <= 2; copies++ {
		x := small()
		x.copies = copies
		v, s, _ := planted(t, 20, x)
		for _, c := range changes() {
			want, _ := c.must(x)
			least, most := least(x, want, c.dir), most(x, want, c.dir)
			for shape := range 3 {
				did := false
				for n := range most + 2 {
					room := [][2]int{{n, n}, {n, 60}, {60, n}}[shape]
					end, next, got := done(t, crowded(v, room), s, c)
					if got.is(answer{}) && (n >= least || copies == 1) {
						holds(t, end, next, want)
						did = true
					} else if !got.is(answer{code: api.ErrNoSpace}) || n >= most || did {
						t.Fatalf("%s: %v are free: %v, not from %d to %d", c.name, room, got, least, most)
					}
				}
			}
		}
	}
}

// Where one leaf alone is laid in a directory, and one in the table, just so much room is wanted.
func TestLittleRoom(t *testing.T) {
	one := nothing().with(1, dirOf(of("a")...)).with(2, dirOf())
	deep := nothing().with(1, dirOf(of("a")...)).with(2, dirOf()).with(64, fileOf(""))
	for _, k := range []struct {
		x    plain
		c    call
		want int // blocks that are laid in each region
	}{
		{one, adding(1, "b", 2), 2}, {one, adding(2, "b", 2), 2}, {one, removing(1, "a"), 1}, {one, writing(1), 1}, {one, writing(1, of("b")...), 2}, {one, writing(1, of("a")...), 0},
		{deep, adding(1, "b", 2), 6}, {deep, removing(1, "a"), 5}, {deep, writing(2), 0}, {deep, writing(2, of("a")...), 6},
	} {
		v, s, _ := planted(t, 20, k.x)
		if k.want > 0 {
			failed(t, crowded(v, [2]int{k.want - 1, k.want}), s, k.c, api.ErrNoSpace)
			failed(t, crowded(v, [2]int{k.want, k.want - 1}), s, k.c, api.ErrNoSpace)
		}
		end, _, _ := check(t, crowded(v, [2]int{k.want, k.want}), s, k.x, k.c)
		if space.Room(end.Space) != [2]int{} {
			t.Errorf("%s: %v are left", k.c.name, space.Room(end.Space))
		}
	}
}

// What goes isn't free for what comes: that waits for a sweep.
func TestRoomOfWhatGoes(t *testing.T) {
	x := nothing().with(1, dirOf())
	v, s, _ := planted(t, 4, x)
	v = crowded(v, [2]int{2, 2})
	v, s, x = check(t, v, s, x, adding(1, "a", 1))
	failed(t, v, s, removing(1, "a"), api.ErrNoSpace)
	space.Sweep(&v.Space)
	if room := space.Room(v.Space); room != [2]int{1, 1} {
		t.Error(room)
	}
	failed(t, v, s, adding(1, "b", 2), api.ErrNoSpace)
	v, s, x = check(t, v, s, x, removing(1, "a"))
	for _, name := range []string{"b", "c", "d"} {
		space.Sweep(&v.Space)
		v, s, x = check(t, v, s, x, adding(1, name, 2))
		space.Sweep(&v.Space)
		v, s, x = check(t, v, s, x, removing(1, name))
	}
}

// The power goes at each act in turn: ErrDown, and behind it all is there that was, whatever is kept of what wasn't flushed.
func TestFalls(t *testing.T) {
	t.Parallel()
	x := small()
	good, s, _ := planted(t, 20, x)
	for _, c := range changes() {
		want, _ := c.must(x)
		code, acts := api.ErrDown, 0
		for fuse := 0; code == api.ErrDown && fuse < 1000; fuse++ {
			v := copied(good)
			v.Disk.Fuse = fuse
			end, next, got := done(t, v, s, c)
			if code = got.code; code == api.ErrDown {
				acts++
				for _, keep := range [][]bool{nil, {false, true, false, true}, slices.Repeat([]bool{true}, fuse)} {
					crashed := copied(end)
					disk.Crash(&crashed.Disk, keep...)
					holds(t, crashed, next, x)
				}
				continue
			}
			if code != api.OK {
				t.Fatalf("%s, fuse %d: %v", c.name, fuse, got)
			}
			holds(t, end, next, want)
			flushed := copied(end)
			flushed.Disk.Fuse = -1
			flush(t, &flushed)
			disk.Crash(&flushed.Disk)
			holds(t, flushed, next, want)
			disk.Crash(&end.Disk)
			end.Space = v.Space
			holds(t, end, s, x)
		}
		if acts < 4 {
			t.Errorf("%s: the power went at %d acts", c.name, acts)
		}
	}
}

// Without power nothing is read that must be; a number that isn't there in a table without blocks needn't be.
func TestDown(t *testing.T) {
	x := small()
	v, s, _ := planted(t, 20, x)
	for _, c := range append(changes(), reading(1), reading(2), reading(3), reading(5), finding(1, "a"), alling()) {
		refused(t, down(v), s, c, api.ErrDown)
	}
	for _, c := range slices.Concat(callsOf(9), callsOf(64)) {
		refused(t, down(v), s, c, api.ErrNoEnt)
	}
	if got := hold(alling()).run(alling(), &v, &api.Stem{Root: hole, Copies: 2}); !got.is(answer{}) {
		t.Error(got)
	}
}

// One copy of everything is hit, in one region: all answers are as if nothing were.
func TestOneRegionIsHit(t *testing.T) {
	t.Parallel()
	x := small().with(2, dirOf(of("file", "no")...))
	good, s, l := planted(t, 20, x)
	for r := range 2 {
		for kind := 1; kind <= 2; kind++ {
			v := copied(good)
			for at := range v.Space.Size {
				hit(t, &v, kind, v.Space.At[r]+at)
			}
			for _, c := range append(changes(), reading(1), reading(7), finding(7, many(9, 24)[4].Name), alling()) {
				end, next, got := done(t, v, s, c)
				want, must := c.must(x)
				if !got.is(must) {
					t.Fatalf("%s: %v, not %v", c.name, got, must)
				}
				flush(t, &end)
				holds(t, end, next, want)
			}
		}
	}
	// What was read is well again: so from then on the other copy may be hit.
	for kind := 1; kind <= 2; kind++ {
		v := copied(good)
		for at := range v.Space.Size {
			hit(t, &v, kind, v.Space.At[0]+at)
		}
		for dir := range 65 {
			folder.Read(&v, s, dir)
		}
		flush(t, &v)
		for _, number := range []int{0, 1, 2, 5, 7} {
			for _, p := range slices.Concat(l[number].nodes, l[number].leaves) {
				if p != hole {
					hit(t, &v, kind, p.B)
				}
			}
		}
		tells(t, v, s, x)
	}
}

// Sectors that can't be written are replaced; where no spare one is left that is told, and all is as it was.
func TestSectorsThatCanNotBeWritten(t *testing.T) {
	t.Parallel()
	x := small()
	good, s, _ := planted(t, 20, x)
	for _, c := range changes() {
		want, must := c.must(x)
		end, _, _ := done(t, good, s, c)
		first := true
		for i, state := range end.Space.State {
			if good.Space.State[i] != api.Free || state == api.Free {
				continue
			}
			v := copied(good)
			hit(t, &v, 3, v.Space.At[i/v.Space.Size]+i%v.Space.Size)
			end, next, got := done(t, v, s, c)
			if !got.is(must) || end.Map.Gen != 1 {
				t.Fatalf("%s, %d: %v", c.name, i, got)
			}
			holds(t, end, next, want)
			for at := len(v.Disk.Sectors) - 20; at < len(v.Disk.Sectors); at++ {
				disk.Hit(&v.Disk, at, 3, 0, 0)
			}
			end, next, got = done(t, v, s, c)
			if !got.is(answer{code: api.ErrSpares}) {
				t.Fatalf("%s, %d: %v", c.name, i, got)
			}
			if first {
				holds(t, end, next, x)
			}
			first = false
		}
	}
}

// Beside an error that the table's own Set has, behind the directory's bytes being laid, none of these are in use: no space, no spare sector, no power.
func TestBothOrNeither(t *testing.T) {
	x := nothing().with(1, dirOf(of("a")...)).with(64, dirOf())
	good, s, _ := planted(t, 20, x)
	c := adding(1, "b", 2)
	if end, next, got := done(t, crowded(good, [2]int{5, 5}), s, c); !got.is(answer{code: api.ErrNoSpace}) || next != s || !bytes.Equal(end.Space.State, crowded(good, [2]int{5, 5}).Space.State) {
		t.Error(got)
	}
	v := copied(good)
	v.Disk.Fuse = 2 // The directory's leaf, twice.
	if end, next, got := done(t, v, s, c); !got.is(answer{code: api.ErrDown}) || len(end.Disk.Cache) != 2 || next != s {
		t.Error(got, len(end.Disk.Cache))
	} else {
		disk.Crash(&end.Disk, true, true)
		holds(t, end, next, x)
		if e := folder.Add(&end, &next, 1, api.Entry{Name: "b", Node: 2}); e != api.OK {
			t.Error(e)
		}
		want, _ := c.must(x)
		holds(t, end, next, want)
	}
}

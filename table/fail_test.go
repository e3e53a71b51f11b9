package table_test

import (
	"bytes"
	"slices"
	"testing"

	"lazaret/api"
	"lazaret/disk"
	"lazaret/space"
	"lazaret/table"
)

// No room, and no power.

// small: a table of eleven leaves, with holes.
func small() plain { return of(nodes(1, 1, 2, 3, 8, 20, 21)...) }

// changes: sets and clears of all kinds on a small table.
func changes() []call {
	l := []call{setting(node(8, 90)), setting(node(4, 5)), setting(node(9, 5)), setting(node(22, 5)), setting(node(64, 5))}
	for _, number := range []int{1, 3, 8, 20, 21} {
		l = append(l, clearing(number))
	}
	return l
}

// Regions with little room: no space just where there may be; and then all is as it was.
func TestNoSpace(t *testing.T) {
	t.Parallel()
	for copies := 1; copies <= 2; copies++ {
		x := small()
		x.copies = copies
		v, s, _, _ := planted(t, 20, x)
		for _, c := range changes() {
			did, not := 0, 0
			for n := range 14 {
				for _, room := range [][2]int{{n, n}, {n, n / 3}, {n / 3, n}} {
					if _, _, y := check(t, crowded(v, room), s, x, c); bytes.Equal(x.bytes(), y.bytes()) {
						not++
					} else {
						did++
					}
				}
			}
			if did == 0 || not == 0 {
				t.Errorf("%s: %d times done, %d times refused", c.name, did, not)
			}
		}
	}
}

// A node set, or cleared, between others lays its leaf and the way to it, and no more: just so much room is wanted.
func TestLittleRoom(t *testing.T) {
	for _, k := range []struct {
		x    plain
		c    call
		want int // blocks that are laid in each region
	}{
		{of(), setting(node(1, 3)), 1},
		{of(node(1, 3)), setting(node(2, 3)), 1},
		{of(nodes(1, 1, 2)...), setting(node(1, 9)), 1},
		{of(nodes(1, 1, 2)...), clearing(1), 1},
		{of(nodes(1, 1, 2)...), clearing(2), 1},
		{of(node(2, 3)), clearing(2), 0},
		{of(nodes(1, 1, 2, 64)...), clearing(64), 0},
		{small(), clearing(1), 4},
		{small(), clearing(8), 2},
		{small(), setting(node(22, 7)), 4},
		{of(nodes(1, upTo(64)...)...), setting(node(64, 7)), 5},
		{of(nodes(1, upTo(64)...)...), clearing(9), 5},
		{of(nodes(1, upTo(64)...)...), clearing(64), 5},
		{of(nodes(1, upTo(63)...)...), clearing(63), 4},
	} {
		v, s, _, _ := planted(t, 130, k.x)
		if k.want > 0 {
			failed(t, crowded(v, [2]int{k.want - 1, k.want}), s, k.c, api.ErrNoSpace)
			failed(t, crowded(v, [2]int{k.want, k.want - 1}), s, k.c, api.ErrNoSpace)
		}
		end, _, y := check(t, crowded(v, [2]int{k.want, k.want}), s, k.x, k.c)
		if bytes.Equal(y.bytes(), k.x.bytes()) || space.Room(end.Space) != [2]int{} {
			t.Errorf("%s of %s: %v are left", k.c.name, toldStem(s), space.Room(end.Space))
		}
	}
}

// A table with bytes behind its last node's record: both what a Clear does to it, and that it ends it, is done, or neither.
func TestBothOrNeither(t *testing.T) {
	t.Parallel()
	for _, k := range []struct {
		x      plain
		behind []byte // from 4096 on
		both   int    // blocks that are laid in each region
	}{
		{of(nodes(1, 1, 2, 3)...).sized(1400), nil, 4},
		{of(nodes(1, upTo(64)...)...), noise(1, 4096), 5 + 4},
		{of(nodes(1, 1, 64)...), noise(1, 300), 1 + 4},
	} {
		v := fresh(t, 60)
		s, above, _ := grow(t, &v, append(k.x.bytes(), k.behind...), 2)
		flush(t, &v)
		for n := range 14 {
			end, next, got := done(t, crowded(v, [2]int{n, n}), s, clearing(1))
			switch {
			case n >= k.both && got.code == api.OK:
				holds(t, end, next, k.x.without(1))
			case n < k.both && got.code == api.ErrNoSpace:
				tells(t, end, next, k.x)
			default:
				t.Errorf("clear of 1 of %s, %d are free: %s", toldStem(s), n, said(got))
			}
		}
		// Nodes that can't be read, those that lead to the bytes behind among them.
		codes := map[api.Errno]int{}
		for _, p := range above[:len(above)-1] {
			bad := copied(v)
			hit(t, &bad, 2, sectorsOf(p)...)
			_, _, got := done(t, bad, s, clearing(1))
			codes[got.code]++
		}
		if codes[api.OK]+codes[api.ErrIO] < len(above)-1 || codes[api.ErrIO] < 2 {
			t.Errorf("clear of 1 of %s: %v", toldStem(s), codes)
		}
	}
}

// What goes isn't free for what comes: that waits for a sweep.
func TestRoomOfWhatGoes(t *testing.T) {
	x := of(node(1, 3))
	v, s, _, _ := planted(t, 4, x)
	v = crowded(v, [2]int{1, 1})
	v, s, x = check(t, v, s, x, setting(node(1, 4)))
	refused(t, v, s, setting(node(1, 5)), api.ErrNoSpace)
	space.Sweep(&v.Space)
	v, s, x = check(t, v, s, x, setting(node(1, 5)))
	if n, e := table.Get(&v, s, 1); n != node(1, 5) || e != api.OK {
		t.Error(n, e)
	}
}

// The power goes at each act in turn: ErrDown, and behind it all is there that was, whatever is kept of what wasn't flushed.
func TestFalls(t *testing.T) {
	t.Parallel()
	x := small()
	good, s, _, _ := planted(t, 20, x)
	for _, c := range changes() {
		want, _ := c.must(x)
		code, acts := api.ErrDown, 0
		for fuse := 0; code == api.ErrDown && fuse < 1000; fuse++ {
			v := copied(good)
			v.Disk.Fuse = fuse
			end, next, got := done(t, v, s, c)
			if code = got.code; code == api.ErrDown {
				acts++
				if !end.Disk.Down {
					t.Fatalf("%s, fuse %d: %s", c.name, fuse, said(got))
				}
				for _, keep := range [][]bool{nil, {true, true}, {false, true, false, true}, slices.Repeat([]bool{true}, fuse)} {
					crashed := copied(end)
					disk.Crash(&crashed.Disk, keep...)
					holds(t, crashed, next, x)
				}
				continue
			}
			if code != api.OK {
				t.Fatalf("%s, fuse %d: %s", c.name, fuse, said(got))
			}
			holds(t, end, next, want)
			disk.Crash(&end.Disk)
			end.Space = v.Space
			holds(t, end, s, x)
		}
		if acts < 4 {
			t.Errorf("%s: the power went at %d acts", c.name, acts)
		}
	}
}

// A healing that is cut off by the power is told, by whoever reads: act by act.
func TestFallsWhileItIsMadeWell(t *testing.T) {
	t.Parallel()
	x := small()
	good, s, above, leaves := planted(t, 20, x)
	for _, p := range slices.Concat(above, leaves) {
		if p != hole {
			hit(t, &good, 2, p.A)
		}
	}
	for _, c := range append(changes(), getting(1), getting(21), nexting(), listing()) {
		want, must := c.must(x)
		code, acts := api.ErrDown, 0
		for fuse := 0; code == api.ErrDown && fuse < 1000; fuse++ {
			v := copied(good)
			v.Disk.Fuse = fuse
			end, next, got := done(t, v, s, c)
			if code = got.code; code == api.ErrDown {
				acts++
				crashed := copied(end)
				disk.Crash(&crashed.Disk)
				holds(t, crashed, next, x)
				continue
			}
			if !got.is(must) {
				t.Fatalf("%s, fuse %d: %s", c.name, fuse, said(got))
			}
			end.Disk.Fuse = -1
			holds(t, end, next, want)
		}
		if acts == 0 {
			t.Errorf("%s: no act", c.name)
		}
	}
}

// Without power no record is read, and none is laid; one that isn't there needn't be.
func TestDown(t *testing.T) {
	x := small()
	v, s, _, _ := planted(t, 20, x)
	v.Disk.Down = true
	for _, c := range append(changes(), getting(1), getting(2), getting(4), getting(21), clearing(4), nexting(), listing()) {
		refused(t, v, s, c, api.ErrDown)
	}
	for _, number := range []int{22, 23, 24, 40, 64} {
		refused(t, v, s, getting(number), api.ErrNoEnt)
		refused(t, v, s, clearing(number), api.ErrNoEnt)
	}
	refused(t, v, empty(), setting(node(1, 3)), api.ErrDown)
}

package remap_test

import (
	"slices"
	"testing"

	"lazaret/api"
	"lazaret/disk"
	"lazaret/remap"
)

// crashes: the disk behind a crash at this moment, keeping each choice of the writes that aren't flushed.
func crashes(t *testing.T, d api.Disk, do func(d api.Disk)) {
	t.Helper()
	if len(d.Cache) > 10 {
		t.Fatal("too many writes to go through all choices")
	}
	for choice := range 1 << len(d.Cache) {
		keep := make([]bool, len(d.Cache))
		for i := range keep {
			keep[i] = choice>>i&1 != 0
		}
		x := d
		if e := disk.Crash(&x, keep...); e != api.OK {
			t.Fatal(e)
		}
		do(x)
	}
}

// falls: the power goes at each act of a Write: the table that is loaded is the one from ahead of it, or the one behind it; the latter, if the answer was OK. The disk and the table behind it all, if the power stays.
func falls(t *testing.T, d api.Disk, m api.Remap, n int, b api.Block) (api.Disk, api.Remap) {
	t.Helper()
	ahead, e := remap.Load(&d)
	if e != api.OK || !sameTable(ahead, m) {
		t.Fatalf("ahead of it %v %v is loaded, not %v", ahead, e, m)
	}
	wasThere, _ := remap.Read(&d, m, n)
	end, behind := d, m
	code := remap.Write(&end, &behind, n, b)
	seen := map[bool]int{}
	for fuse := range 40 {
		x, table := d, m
		x.Fuse = fuse
		e := remap.Write(&x, &table, n, b)
		if e == api.ErrDown && !sameTable(table, m) || e != api.ErrDown && (e != code || !sameTable(table, behind)) {
			t.Fatalf("fuse %d: %v %v", fuse, e, table)
		}
		crashes(t, x, func(x api.Disk) {
			l, e2 := remap.Load(&x)
			new := sameTable(l, behind)
			if e2 != api.OK || !new && !sameTable(l, ahead) || !new && e == api.OK {
				t.Fatalf("fuse %d, answer %v: %v %v is loaded, neither %v nor %v", fuse, e, l, e2, ahead, behind)
			}
			got, e3 := remap.Read(&x, l, n)
			if !sameTable(ahead, behind) && (new && got != b || !new && len(d.Cache) == 0 && got != wasThere || e3 != api.OK) {
				t.Fatalf("fuse %d, answer %v: by %v sector %d reads as %x.. %v", fuse, e, l, n, got[:2], e3)
			}
			seen[new]++
		})
		if e != api.ErrDown {
			break
		}
	}
	if seen[true] == 0 || !sameTable(ahead, behind) && seen[false] == 0 {
		t.Fatalf("not all crashes were gone through: %v", seen)
	}
	return end, behind
}

// One Write, on disks that fail in all the ways that change its acts.
func TestFallsOfOneWrite(t *testing.T) {
	for _, gen := range []int{0, 1, 2, 7, 1<<62 - 2, 1<<62 - 1} {
		place := 1 - gen%2 // of the table that follows
		for _, fails := range [][]int{
			{}, {2}, {2, 8}, {2, 8, 9}, {2, place}, {2, 4 + place}, {2, place, 4 + place}, {2, 8, place}, {2, 1 - place}, {2, 5 - place}, {2, 1 - place, 5 - place},
			slices.Concat([]int{2}, spares(8, 26)), slices.Concat([]int{2}, spares(8, 27)), {10}, {2, 3, 10},
		} {
			for _, pairs := range [][]api.Pair{nil, paired(3, 8), paired(2, 10), paired(7, 9, 2, 10, 3, 8)} {
				for _, older := range []bool{false, true} {
					d, _ := fresh(t, 28)
					m := api.Remap{Gen: gen, Pairs: pairs}
					d = holding(d, map[int]api.Remap{gen % 2: m, 4 + gen%2: m})
					d.Sectors[place].Data, d.Sectors[4+place].Data = block(1), block(2)
					if older && gen > 0 {
						o := api.Remap{Gen: gen - 1, Pairs: paired(6, 8)}
						d = holding(d, map[int]api.Remap{place: o, 4 + place: o})
					}
					failing(t, &d, fails...)
					falls(t, d, m, 2, block(77))
				}
			}
		}
	}
}

// A copy that rotted, or can't be read, doesn't make a fall worse, as long as the other one is good.
func TestFallsWithOneGoodCopy(t *testing.T) {
	for _, at := range []int{0, 4} {
		for _, kind := range []int{1, 2, 3} {
			d, m := fresh(t, 28)
			failing(t, &d, 2)
			disk.Hit(&d, at, kind, 40, 1)
			d, m = falls(t, d, m, 2, block(77))
			disk.Hit(&d, at+1, kind, 40, 1)
			failing(t, &d, 8)
			falls(t, d, m, 2, block(78))
		}
	}
}

// Writes that aren't flushed stand in the Cache ahead of it.
func TestFallsBehindOtherWrites(t *testing.T) {
	d, m := fresh(t, 28)
	for i, n := range []int{7, 3, 2, 7} {
		if e := remap.Write(&d, &m, n, block(50+i)); e != api.OK {
			t.Fatal(n, e)
		}
	}
	failing(t, &d, 2)
	falls(t, d, m, 2, block(77))
	falls(t, d, m, 6, block(77))
}

// One Write behind the other, each with all its falls; the next one begins on a disk that fell.
func TestFallsOfManyWrites(t *testing.T) {
	d, m := fresh(t, 48)
	for i := range 26 {
		n := many(24)[i%7*3].From
		failing(t, &d, remap.At(m, n))
		if i%4 == 3 {
			failing(t, &d, 28+(i*5)%20)
		}
		if i%5 == 4 {
			disk.Hit(&d, 14*(i%2)+m.Gen%2, 2, 0, 0)
			if r, e := remap.Look(&d, m); e != api.OK || r.Healed != r.Bad {
				t.Fatal(r, e)
			}
			disk.Flush(&d)
		}
		d, m = falls(t, d, m, n, block(300+i))
	}
	if len(m.Pairs) != 7 {
		t.Error(m)
	}
}

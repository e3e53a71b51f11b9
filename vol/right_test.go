package vol_test

import (
	"math"
	"slices"
	"testing"

	"lazaret/api"
	"lazaret/remap"
	"lazaret/vol"
)

// wrongVol: a volume that isn't right, and why.
type wrongVol struct {
	name string
	v    api.Vol
}

// wrongVols: of a right one with a block, each in one thing alone.
func wrongVols(t *testing.T) []wrongVol {
	t.Helper()
	good, _ := laid(t, 2)
	var l []wrongVol
	spoilt := func(name string, how func(v *api.Vol)) {
		v := copied(good)
		how(&v)
		l = append(l, wrongVol{name, v})
		v = copied(v)
		v.Disk.Down = true
		l = append(l, wrongVol{name + ", down", v})
	}
	spoilt("nothing there", func(v *api.Vol) { *v = api.Vol{} })
	spoilt("a disk without sectors", func(v *api.Vol) { v.Disk.Sectors = nil })
	for _, n := range []int{1, 28, 316, 328, 330, 331, 333, 334, 336, 340, 476, 3916, 3920, 4096, 4097, 4200} {
		spoilt("a disk of other sectors", func(v *api.Vol) {
			v.Disk.Sectors = slices.Concat(v.Disk.Sectors, make([]api.Sector, 4000))[:n]
		})
	}
	for _, at := range append(extremes(), 332, 333, -1) {
		spoilt("a write at no sector", func(v *api.Vol) { v.Disk.Cache = []api.Write{{At: 29}, {At: at}, {At: 30}} })
	}
	for _, m := range wrongTables() {
		spoilt("a table that isn't right", func(v *api.Vol) { v.Map = m })
	}
	spoilSpaces(spoilt)
	spoilt("the table and the space of another layout", func(v *api.Vol) {
		x := fresh(t, 5)
		v.Map, v.Space = x.Map, x.Space
	})
	return l
}

// wrongTables: tables that aren't right for a disk of 332 sectors: spare are those from 312 on.
func wrongTables() []api.Remap {
	var many []api.Pair
	for i := range 21 {
		many = append(many, api.Pair{From: 28 + i, To: 312 + i%20})
	}
	l := []api.Remap{{Gen: -1}, {Gen: math.MinInt}, {Gen: 1<<62 + 1}, {Gen: math.MaxInt}, {Gen: 1, Pairs: many}}
	for _, pairs := range [][]api.Pair{
		paired(28, 312, 28, 313), paired(28, 312, 29, 312), paired(28, 311), paired(28, 332), paired(28, 29), paired(28, 28), paired(28, -1),
		paired(0, 312), paired(1, 312), paired(156, 312), paired(157, 312), paired(312, 313), paired(311, 332), paired(-1, 312), paired(332, 312), paired(1<<32+28, 312),
	} {
		l = append(l, api.Remap{Gen: 1, Pairs: pairs})
	}
	return l
}

// spoilSpaces: spaces that aren't formed, or have other regions than the layout's, which are those from 28 and from 184 on, of 128 sectors each.
func spoilSpaces(spoilt func(name string, how func(v *api.Vol))) {
	spoilt("no space", func(v *api.Vol) { v.Space = api.Space{} })
	for _, n := range []int{0, 1, 128, 254, 255, 257, 258, 512} {
		spoilt("a space with other states", func(v *api.Vol) {
			v.Space.State = slices.Concat(v.Space.State, make([]byte, 256))[:n]
		})
	}
	for _, i := range []int{0, 1, 127, 128, 255} {
		for _, x := range []byte{5, 6, 128, 255} {
			spoilt("a state that isn't one", func(v *api.Vol) { v.Space.State[i] = x })
		}
	}
	for _, at := range [][2]int{{27, 184}, {29, 184}, {28, 183}, {28, 185}, {0, 184}, {28, 312}, {28, 204}, {184, 28}, {28, 28}, {184, 184}, {27, 183}, {29, 185}, {26, 186}, {30, 182}, {-28, 184}, {28, -184}, {28, 4096}, {1<<32 + 28, 1<<32 + 184}, {28, 1<<32 + 184}, {math.MinInt, math.MaxInt}} {
		spoilt("regions elsewhere", func(v *api.Vol) { v.Space.At = at })
	}
	for _, n := range []int{1, 2, 64, 120, 126, 127, 129, 130, 131, 156} {
		spoilt("regions of another size", func(v *api.Vol) {
			v.Space.Size, v.Space.State = n, slices.Repeat([]byte{1}, 2*n)
		})
	}
	for _, n := range append(extremes(), -1, 0, -128, 127, 129) {
		spoilt("another size", func(v *api.Vol) { v.Space.Size = n })
	}
}

// pointers: of all kinds, to a volume of quota 4 with a block in the sectors 28 and 184.
func pointers() []api.Ptr {
	return []api.Ptr{hole, {}, {A: 28, B: 184, Sum: sumOf(block(70))}, {A: 28, B: -1, Sum: sumOf(block(70))}, {A: 29, B: 185}, {A: 1, B: 2}, {A: -1, B: -1, Sum: api.Sum{1}}, {A: 28, B: 28}}
}

// calls: all calls on a volume that is handed in.
func calls() []call {
	l := []call{righting()}
	for _, b := range []api.Block{{}, block(70), block(71)} {
		for _, copies := range []int{-1, 0, 1, 2, 3} {
			l = append(l, adding(b, copies))
			for _, p := range pointers() {
				l = append(l, swapping(p, b, copies))
			}
		}
	}
	for _, p := range pointers() {
		l = append(l, getting(p), dropping(p), mining(p))
	}
	return l
}

// A volume that isn't right: ErrArg, or false, of a hole too, ahead of ErrDown, and nothing is changed.
func TestWrongVolumes(t *testing.T) {
	list := calls()
	for _, x := range wrongVols(t) {
		if vol.Right(x.v) {
			t.Errorf("%s: %s is right", x.name, told(x.v))
		}
		for _, c := range list {
			want := answer{code: api.ErrArg}
			if asking(c) {
				want.code = api.OK
			}
			v := copied(x.v)
			if got := c.run(&v); got != want || !same(v, x.v) {
				t.Errorf("%s: %s: %s, %s", x.name, c.name, said(got), told(v))
			}
		}
		for _, c := range []call{adding(block(71), 2), adding(api.Block{}, 1), getting(hole), dropping(hole), swapping(pointers()[2], block(70), 2), mining(pointers()[2])} {
			check(t, x.v, c)
		}
	}
}

// No volume at all.
func TestNoVolume(t *testing.T) {
	for _, c := range calls() {
		if asking(c) {
			continue // these are handed a volume, and no pointer to one
		}
		if got := c.run(nil); got != (answer{code: api.ErrArg}) {
			t.Errorf("%s: %s", c.name, said(got))
		}
	}
}

// Volumes that are right, whatever stands on their disks, whatever became of these, and whatever is in use.
func TestRightVolumes(t *testing.T) {
	var l []api.Vol
	for _, q := range []int{4, 5, 40, 899, 900} {
		l = append(l, fresh(t, q))
	}
	v, p := laid(t, 2)
	l = append(l, v, v, v, v, v)
	n := len(l)
	l[n-1].Disk.Down = true
	l[n-2].Disk.Fuse = 0
	l[n-3].Disk.Cache = []api.Write{{At: 0}, {At: 331}, {At: 0}}
	l[n-4].Map = api.Remap{Gen: 1 << 62, Pairs: paired(2, 331, 28, 312, 311, 313, 184, 320)}
	l[n-5].Space.State = slices.Repeat([]byte{0, 1, 2, 3, 4, 4, 3, 2}, 32)
	hit(t, &v.Disk, rotten|unread|unwrit, span(0, 331)...)
	full := api.Remap{Gen: 3}
	for i := range 20 {
		full.Pairs = append(full.Pairs, api.Pair{From: 28 + i, To: 331 - i})
	}
	v.Map = full
	l = append(l, v)
	for _, v := range l {
		if !vol.Right(v) || !remap.Right(v.Map, len(v.Disk.Sectors)) {
			t.Errorf("%s isn't right", told(v))
		}
		for _, c := range append(calls(), getting(p)) {
			check(t, v, c)
		}
	}
}

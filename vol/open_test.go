package vol_test

import (
	"slices"
	"testing"

	"lazaret/api"
	"lazaret/disk"
	"lazaret/remap"
	"lazaret/vol"
)

// emptied: the volume on such a disk, all of whose regions are free; false, if no layout has its sectors.
func emptied(d api.Disk, m api.Remap) (api.Vol, bool) {
	q := (len(d.Sectors) - 316) / 4
	if q < 4 || q > 900 || len(d.Sectors) != 316+4*q {
		return api.Vol{}, false
	}
	size := 2*q + 120
	return api.Vol{Disk: d, Map: m, Space: api.Space{At: [2]int{28, 28 + size + 28}, Size: size, State: make([]byte, 2*size)}}, true
}

// Each quota that may be, and others: a disk of zeros, but for the first table, twice; no region has anything.
func TestNew(t *testing.T) {
	for q := -1000; q <= 1100; q++ {
		v, e := vol.New(q)
		if q < 4 || q > 900 {
			if e != api.ErrArg || !same(v, api.Vol{}) {
				t.Fatalf("quota %d: %v", q, e)
			}
			continue
		}
		n := 4*q + 316
		b, _ := remap.Put(api.Remap{}, n)
		d := api.Disk{Sectors: make([]api.Sector, n), Fuse: -1}
		d.Sectors[0].Data, d.Sectors[2*q+148].Data = b, b
		if want, ok := emptied(d, api.Remap{}); !ok || e != api.OK || !same(v, want) || !vol.Right(v) {
			t.Fatalf("quota %d: %v, %s", q, e, told(v))
		}
	}
	for _, q := range extremes() {
		if v, e := vol.New(q); e != api.ErrArg || !same(v, api.Vol{}) {
			t.Errorf("quota %d: %v", q, e)
		}
	}
}

func TestExtremeQuotas(t *testing.T) {
	for _, x := range []struct{ q, sectors, first, second, size int }{{4, 332, 28, 184, 128}, {900, 3916, 28, 1976, 1920}} {
		v := fresh(t, x.q)
		if len(v.Disk.Sectors) != x.sectors || v.Space.At != [2]int{x.first, x.second} || v.Space.Size != x.size {
			t.Errorf("quota %d: %s", x.q, told(v))
		}
		if p := add(t, &v, block(1), 2); p.A != x.first || p.B != x.second {
			t.Error(x.q, p)
		}
	}
	for _, q := range []int{3, 901} {
		if v, e := vol.New(q); e != api.ErrArg || !same(v, api.Vol{}) {
			t.Errorf("quota %d: %v", q, e)
		}
	}
}

// What New answers shares nothing with what it answers another time.
func TestNewIsNew(t *testing.T) {
	v := fresh(t, 4)
	was := copied(v)
	x := fresh(t, 4)
	spoilDisk(x.Disk)
	spoilSpace(x.Space)
	if !same(v, was) || !same(fresh(t, 4), was) {
		t.Error("shared")
	}
}

// opened: Open answers as it must, twice, of a disk with something in the room behind its lists; that stays, and nothing is shared.
func opened(t *testing.T, d api.Disk) (api.Vol, api.Errno) {
	t.Helper()
	d = roomy(api.Vol{Disk: d}).Disk
	was := whole(api.Vol{Disk: d}).Disk
	want, code := api.Vol{}, api.ErrArg
	if x, ok := emptied(copiedDisk(d), api.Remap{}); ok && disk.Formed(d) {
		if x.Map, code = remap.Load(&x.Disk); code == api.OK {
			want = x
		}
	}
	v, e := vol.Open(d)
	again, f := vol.Open(d)
	if e != code || f != code || !same(v, want) || !same(again, want) {
		t.Fatalf("%s: %v %v, %s, %s, not %v, %s", told(api.Vol{Disk: d}), e, f, told(v), told(again), code, told(want))
	}
	spoilDisk(v.Disk)
	spoilSpace(v.Space)
	for i := range v.Map.Pairs {
		v.Map.Pairs[i].To++
	}
	if !same(again, want) || !sameDisk(whole(api.Vol{Disk: d}).Disk, was) {
		t.Fatalf("%s: changed, or shared", told(api.Vol{Disk: d}))
	}
	spoilDisk(d)
	if !same(again, want) {
		t.Fatalf("%s: shared with the disk", told(api.Vol{Disk: d}))
	}
	return again, e
}

// Disks of all sizes: ErrArg where no layout has the sectors; of others that nobody laid a table on, ErrIO.
func TestOpenDisks(t *testing.T) {
	blank := make([]api.Sector, 4200)
	for n := range len(blank) {
		d := api.Disk{Sectors: blank[:n], Fuse: -1}
		code := api.ErrArg
		if _, ok := emptied(d, api.Remap{}); ok {
			code = api.ErrIO
		}
		if v, e := vol.Open(d); e != code || !same(v, api.Vol{}) {
			t.Fatalf("%d sectors: %v, not %v", n, e, code)
		}
		if d.Down = true; code == api.ErrIO {
			code = api.ErrDown
		}
		if v, e := vol.Open(d); e != code || !same(v, api.Vol{}) {
			t.Fatalf("%d sectors, down: %v, not %v", n, e, code)
		}
	}
	for _, q := range []int{4, 5, 40, 899, 900} {
		if _, e := opened(t, fresh(t, q).Disk); e != api.OK {
			t.Error(q, e)
		}
	}
	for _, n := range []int{0, 1, 28, 316, 328, 331, 333, 334, 335, 3915, 3917, 3920, 4096, 4097} {
		if _, e := opened(t, api.Disk{Sectors: blank[:n], Fuse: -1}); e != api.ErrArg {
			t.Error(n, e)
		}
	}
}

// A disk with halves, and a table, whose sectors are no layout's: ErrArg.
func TestOpenHalvesOfNoLayout(t *testing.T) {
	for _, n := range []int{28, 30, 328, 330, 334, 338, 3914, 3918, 3920, 4096} {
		d, _ := disk.New(n)
		if _, e := remap.Format(&d); e != api.OK {
			t.Fatal(n, e)
		}
		if _, e := opened(t, d); e != api.ErrArg {
			t.Error(n, e)
		}
	}
}

// A disk that isn't formed: ErrArg, also where it is down.
func TestOpenDisksThatAreNotFormed(t *testing.T) {
	for _, at := range append(extremes(), 332, 333, -1) {
		d := fresh(t, 4).Disk
		for _, d.Cache = range [][]api.Write{{{At: at}}, {{At: 3}, {At: at}, {At: 5}}} {
			for _, d.Down = range []bool{false, true} {
				if _, e := opened(t, d); e != api.ErrArg {
					t.Error(at, e)
				}
			}
		}
	}
}

// What stands in the table's places, in the order 0, 1, h, h + 1: the newest one that can be read is loaded.
func TestOpenTables(t *testing.T) {
	const h = 156
	pairs := paired(30, 312, 186, 313)
	tables := func(gen int, l []api.Pair) api.Block {
		b, e := remap.Put(api.Remap{Gen: gen, Pairs: l}, 332)
		if e != api.OK {
			t.Fatal(e)
		}
		return b
	}
	for _, x := range []struct {
		name  string
		at    map[int]api.Block
		fails []int
		code  api.Errno
		m     api.Remap
	}{
		{"none", nil, nil, api.ErrIO, api.Remap{}},
		{"the first one", map[int]api.Block{0: tables(0, nil), h: tables(0, nil)}, nil, api.OK, api.Remap{}},
		{"the first one, one copy", map[int]api.Block{h: tables(0, pairs)}, nil, api.OK, api.Remap{Pairs: pairs}},
		{"a newer one", map[int]api.Block{0: tables(0, nil), h: tables(0, nil), h + 1: tables(1, pairs)}, nil, api.OK, api.Remap{Gen: 1, Pairs: pairs}},
		{"the greatest one", map[int]api.Block{0: tables(1<<62, pairs), 1: tables(7, nil)}, nil, api.OK, api.Remap{Gen: 1 << 62, Pairs: pairs}},
		{"the newer one can't be read", map[int]api.Block{0: tables(0, nil), 1: tables(1, pairs), h + 1: tables(1, pairs)}, []int{1, h + 1}, api.OK, api.Remap{}},
		{"all but one can't be read", map[int]api.Block{0: tables(2, nil), 1: tables(1, pairs), h: tables(2, nil), h + 1: tables(1, pairs)}, []int{0, 1, h}, api.OK, api.Remap{Gen: 1, Pairs: pairs}},
		{"all can't be read", map[int]api.Block{0: tables(2, nil), 1: tables(1, pairs), h: tables(2, nil), h + 1: tables(1, pairs)}, []int{0, 1, h, h + 1}, api.ErrIO, api.Remap{}},
		{"at another one's place", map[int]api.Block{0: tables(1, nil), h + 1: tables(2, nil)}, nil, api.ErrIO, api.Remap{}},
		{"no table", map[int]api.Block{0: block(3), 1: block(4), h: {0: 0x6d}, h + 1: {0: 0x6d}}, nil, api.ErrIO, api.Remap{}},
	} {
		for _, cached := range []bool{false, true} {
			d, _ := disk.New(332)
			for at, b := range x.at {
				if e := disk.Write(&d, at, b); e != api.OK {
					t.Fatal(e)
				}
			}
			code, m := x.code, x.m
			if !cached {
				disk.Flush(&d)
			} else if len(x.fails) > 0 {
				continue // what lies in the cache is read in any case
			}
			hit(t, &d, unread, x.fails...)
			for _, d.Fuse = range []int{-7, -1, 0, 5} {
				if v, e := opened(t, d); e != code || !sameTable(v.Map, m) {
					t.Errorf("%s: %v, %v", x.name, e, v.Map)
				}
			}
			d.Down = true
			if _, e := opened(t, d); e != api.ErrDown {
				t.Errorf("%s, down: %v", x.name, e)
			}
		}
	}
}

// The volume of Open is on a disk like the one that was handed in, and of its own: what is done to one isn't seen in the other.
func TestOpenedAlone(t *testing.T) {
	v, p := laid(t, 2)
	hit(t, &v.Disk, rotten|unread|unwrit, p.A)
	add(t, &v, block(71), 1)
	v.Disk.Fuse = 50
	was := copied(v)
	x, e := vol.Open(v.Disk)
	if e != api.OK || !sameDisk(x.Disk, v.Disk) || x.Map.Gen != 0 || slices.Max(x.Space.State) != 0 || !same(v, was) {
		t.Fatal(e, told(x))
	}
	for at := 28; at < 34; at++ {
		if q := add(t, &x, block(at), 1); q.A != at {
			t.Fatal(q)
		}
	}
	if x.Map.Gen != 1 || !same(v, was) {
		t.Error("the disk that was handed in is changed:", told(v))
	}
	disk.Write(&v.Disk, 40, block(1))
	disk.Flush(&v.Disk)
	if b, e := disk.Read(&x.Disk, 40); b != (api.Block{}) || e != api.OK {
		t.Error("the volume's disk is changed")
	}
}

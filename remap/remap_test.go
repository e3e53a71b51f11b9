package remap_test

import (
	"fmt"
	"math/rand"
	"slices"
	"testing"

	"lazaret/api"
	"lazaret/disk"
	"lazaret/remap"
)

// The chapter's example.
func TestExample(t *testing.T) {
	d, m := fresh(t, 28)
	failing(t, &d, 2)
	if e := remap.Write(&d, &m, 2, block(99)); e != api.OK || !sameTable(m, api.Remap{Gen: 1, Pairs: paired(2, 8)}) {
		t.Fatal(m, e)
	}
	for at, want := range map[int]api.Block{0: bytesOf(api.Remap{}), 4: bytesOf(api.Remap{}), 1: bytesOf(m), 5: bytesOf(m), 8: block(99), 2: block(2), 9: block(9)} {
		if d.Sectors[at].Data != want {
			t.Errorf("sector %d has %x.., not %x..", at, d.Sectors[at].Data[:2], want[:2])
		}
	}
	if len(d.Cache) != 0 {
		t.Error("not flushed")
	}
}

// noHalves: disks that have none, and no disk at all.
func noHalves(t *testing.T) []*api.Disk {
	t.Helper()
	list := []*api.Disk{nil, {}, {Fuse: -1}, {Sectors: make([]api.Sector, 4097)}, {Sectors: make([]api.Sector, 4098), Down: true}}
	for _, sectors := range []int{1, 2, 8, 20, 26, 27, 29, 31, 4095} {
		list = append(list, &api.Disk{Sectors: make([]api.Sector, sectors), Fuse: 3, Cache: []api.Write{{At: 0}}}, &api.Disk{Sectors: make([]api.Sector, sectors), Down: true})
	}
	for _, at := range append([]int{28, 29, -1}, extremes()...) {
		d, _ := fresh(t, 28)
		d.Cache = []api.Write{{At: 2, Data: block(1)}, {At: at, Data: block(2)}}
		list = append(list, &d)
		x := d
		x.Down = true
		list = append(list, &x)
	}
	return list
}

// A disk without halves, or none: ErrArg, ahead of all other errors, and nothing is changed.
func TestDisksWithoutHalves(t *testing.T) {
	for _, d := range noHalves(t) {
		for _, m := range []api.Remap{{}, {Gen: 1, Pairs: paired(2, 8)}, {Gen: -1}} {
			for _, n := range []int{-1, 0, 2, 3, 8, 27} {
				for _, c := range []call{formatting(), loading(), looking(), reading(n), writing(n, block(1))} {
					if d == nil {
						table := m
						if a := c.run(nil, &table); !sameAnswer(a, answer{code: api.ErrArg}) || !sameTable(table, m) {
							t.Errorf("%s of no disk: %s", c.name, told1(a))
						}
					} else if _, _, a := check(t, *d, m, c); a.code != api.ErrArg {
						t.Errorf("%s of %s: %s", c.name, told(*d), told1(a))
					}
				}
			}
		}
	}
}

// A table that isn't right, or none, or a sector that may not be asked for: ErrArg, and no act is done.
func TestWrongArguments(t *testing.T) {
	for _, sectors := range []int{28, 30, 48, 4096} {
		h := halfOf(sectors)
		d, m := fresh(t, sectors)
		d.Cache = []api.Write{{At: 2, Data: block(7)}}
		failing(t, &d, 2)
		for _, d.Fuse = range []int{-1, 0, 1} {
			for _, d.Down = range []bool{false, true} {
				for _, n := range append([]int{0, 1, h, h + 1, 2 * h, 2*h + 1, 2*h + 2, 2*h + 3, sectors - 1, sectors, sectors + 2}, extremes()...) {
					for _, c := range []call{reading(n), writing(n, block(1))} {
						if _, _, a := check(t, d, m, c); a.code != api.ErrArg {
							t.Errorf("%s of %s: %s", c.name, told(d), told1(a))
						}
					}
				}
				if e := remap.Write(&d, nil, 2, block(1)); e != api.ErrArg {
					t.Error("no table:", e)
				}
			}
		}
	}
	for _, x := range wrongOnes() {
		if halfOf(x.sectors) == 0 {
			continue
		}
		d, _ := fresh(t, x.sectors)
		d.Fuse = 2
		for _, n := range []int{2, 3, 0, -1} {
			for _, c := range []call{reading(n), writing(n, block(1))} {
				d.Down = n == 3
				if _, _, a := check(t, d, x.m, c); a.code != api.ErrArg {
					t.Errorf("%s with %v: %s", c.name, x.m, told1(a))
				}
			}
		}
		// A table that isn't right has no bytes that a copy could have.
		d.Down = false
		if _, _, a := check(t, d, x.m, looking()); a.code != api.ErrArg {
			t.Errorf("look with %v: %s", x.m, told1(a))
		}
	}
	if e := remap.Write(nil, nil, 2, block(1)); e != api.ErrArg {
		t.Error("neither disk nor table:", e)
	}
}

func TestFormat(t *testing.T) {
	for _, sectors := range []int{28, 30, 4094, 4096} {
		h := halfOf(sectors)
		d, _ := fresh(t, sectors)
		d.Sectors[0], d.Sectors[h] = api.Sector{NoRead: true}, api.Sector{Data: block(3), NoRead: true}
		d.Sectors[1].Data, d.Sectors[h+1].Data = block(4), bytesOf(api.Remap{Gen: 9})
		d.Cache = []api.Write{{At: 2, Data: block(5)}, {At: 0, Data: block(6)}}
		d, _, a := check(t, d, api.Remap{Gen: 7}, formatting())
		if a.code != api.OK || a.table.Gen != 0 || len(a.table.Pairs) != 0 {
			t.Errorf("%d sectors: %s", sectors, told1(a))
		}
		for at, want := range map[int]api.Block{0: bytesOf(api.Remap{}), h: bytesOf(api.Remap{}), 1: block(4), h + 1: bytesOf(api.Remap{Gen: 9}), 2: block(5)} {
			if d.Sectors[at] != (api.Sector{Data: want}) {
				t.Errorf("%d sectors: sector %d has %x..", sectors, at, d.Sectors[at].Data[:2])
			}
		}
	}
}

// The first error that comes is told: of a disk without power, or whose power goes, of a copy that can't be written.
func TestFormatThatFails(t *testing.T) {
	for fuse := range 5 {
		d, m := fresh(t, 28)
		d.Fuse = fuse
		d, _, a := check(t, d, m, formatting())
		if fuse < 3 && (a.code != api.ErrDown || !d.Down) || fuse >= 3 && (a.code != api.OK || d.Fuse != fuse-3) {
			t.Errorf("fuse %d: %s, %s", fuse, told1(a), told(d))
		}
		d.Down = true
		if _, _, a := check(t, d, m, formatting()); a.code != api.ErrDown {
			t.Errorf("without power: %s", told1(a))
		}
	}
	for _, fails := range [][]int{{0}, {4}, {0, 4}} {
		d, _ := fresh(t, 28)
		failing(t, &d, fails...)
		if m, e := remap.Format(&d); e != api.ErrIO || !sameTable(m, api.Remap{}) {
			t.Errorf("%v can't be written: %v %v", fails, m, e)
		}
	}
	d, m := fresh(t, 28)
	failing(t, &d, 1, 5, 2, 8)
	if _, _, a := check(t, d, m, formatting()); a.code != api.OK {
		t.Errorf("others can't be written: %s", told1(a))
	}
}

// All ways in which four sectors may be copies, or may not.
func TestLoad(t *testing.T) {
	d, _ := fresh(t, 30)
	kinds := []api.Sector{
		{Data: block(1)},
		{Data: bytesOf(api.Remap{}), NoRead: true},
		{Data: bytesOf(api.Remap{Gen: 1 << 62}), NoRead: true},
		{Data: bytesOf(api.Remap{Gen: 0})},
		{Data: bytesOf(api.Remap{Gen: 1})},
		{Data: bytesOf(api.Remap{Gen: 2, Pairs: paired(2, 10)})},
		{Data: bytesOf(api.Remap{Gen: 2, Pairs: paired(2, 11)})},
		{Data: bytesOf(api.Remap{Gen: 3, Pairs: paired(7, 12)})},
		{Data: bytesOf(api.Remap{Gen: 3, Pairs: paired(7, 12, 3, 13)})},
		{Data: bytesOf(api.Remap{Gen: 4, Pairs: paired(5, 12)})}, // a place of tables
	}
	for i := range len(kinds) * len(kinds) * len(kinds) * len(kinds) {
		for _, at := range []int{6, 5, 1, 0} {
			d.Sectors[at] = kinds[i%len(kinds)]
			i /= len(kinds)
		}
		want := loadOf(&d)
		if m, e := remap.Load(&d); e != want.code || !sameTable(m, want.table) {
			t.Fatalf("%v %v %v %v: %v %v, not %s", tableOf(d.Sectors[0].Data), tableOf(d.Sectors[1].Data), tableOf(d.Sectors[5].Data), tableOf(d.Sectors[6].Data), m, e, told1(want))
		}
	}
}

func TestLoadOfSomeCopies(t *testing.T) {
	zero := api.Remap{}
	one, other := api.Remap{Gen: 1, Pairs: paired(2, 8)}, api.Remap{Gen: 1, Pairs: paired(3, 9)}
	two := api.Remap{Gen: 2}
	most, below := api.Remap{Gen: 1 << 62}, api.Remap{Gen: 1<<62 - 1}
	for i, x := range []struct {
		at   map[int]api.Remap
		want api.Remap
		code api.Errno
	}{
		{map[int]api.Remap{}, zero, api.ErrIO},
		{map[int]api.Remap{0: zero}, zero, api.OK},
		{map[int]api.Remap{4: zero}, zero, api.OK},
		{map[int]api.Remap{0: zero, 4: zero, 1: one, 5: one}, one, api.OK},
		{map[int]api.Remap{0: two, 4: two, 1: one, 5: one}, two, api.OK},
		{map[int]api.Remap{0: zero, 4: zero, 5: one}, one, api.OK},
		{map[int]api.Remap{0: zero, 4: two, 1: one, 5: one}, two, api.OK},
		{map[int]api.Remap{1: one, 5: other}, one, api.OK},
		{map[int]api.Remap{1: other, 5: one}, other, api.OK},
		{map[int]api.Remap{0: most, 5: below}, most, api.OK},
		{map[int]api.Remap{0: zero, 5: below}, below, api.OK},
		// Copies where that table has no place don't count.
		{map[int]api.Remap{1: zero, 5: zero, 0: one, 4: one}, zero, api.ErrIO},
		{map[int]api.Remap{0: zero, 1: two, 5: two}, zero, api.OK},
		{map[int]api.Remap{2: zero, 3: one, 6: two, 8: one}, zero, api.ErrIO},
	} {
		d := holding(api.Disk{Sectors: make([]api.Sector, 28), Fuse: -1}, x.at)
		if m, e := remap.Load(&d); e != x.code || !sameTable(m, x.want) {
			t.Errorf("%d: %v %v, not %v %v", i, m, e, x.want, x.code)
		}
		check(t, d, api.Remap{}, loading())
		// Power that goes with the next act is power; without it nothing is read.
		d.Fuse = 0
		check(t, d, api.Remap{}, loading())
		d.Down = true
		if _, _, a := check(t, d, api.Remap{}, loading()); a.code != api.ErrDown {
			t.Errorf("%d: without power: %s", i, told1(a))
		}
	}
}

// What isn't flushed is read too.
func TestLoadOfWhatIsntFlushed(t *testing.T) {
	d, m := fresh(t, 28)
	next := api.Remap{Gen: 1, Pairs: paired(2, 8)}
	d.Sectors[5].NoRead = true
	d.Cache = []api.Write{{At: 5, Data: bytesOf(next)}, {At: 0, Data: block(1)}}
	if m, e := remap.Load(&d); e != api.OK || !sameTable(m, next) {
		t.Error(m, e)
	}
	disk.Crash(&d)
	if x, e := remap.Load(&d); e != api.OK || !sameTable(x, m) {
		t.Error(x, e)
	}
}

// What was loaded stays, and no two of it share.
func TestLoadedTablesShareNothing(t *testing.T) {
	d := holding(api.Disk{Sectors: make([]api.Sector, 48), Fuse: -1}, map[int]api.Remap{1: {Gen: 1, Pairs: many(19)}})
	a, _ := remap.Load(&d)
	b, _ := remap.Load(&d)
	spoil(a.Pairs)
	if c, e := remap.Load(&d); e != api.OK || !sameTable(b, c) || !slices.Equal(b.Pairs, many(19)) {
		t.Error(b, c, e)
	}
	old := b
	d.Sectors[2].NoWrite = true
	if e := remap.Write(&d, &b, 2, block(1)); e != api.OK || len(b.Pairs) != 20 || !slices.Equal(old.Pairs, many(19)) {
		t.Error(e, b, old)
	}
}

func TestRead(t *testing.T) {
	for _, sectors := range []int{28, 30, 4096} {
		h := halfOf(sectors)
		d, _ := fresh(t, sectors)
		m := api.Remap{Gen: 5, Pairs: paired(2, sectors-1, 2*h-1, 2*h)}
		for _, at := range []int{2, h - 1, 2 * h} {
			disk.Hit(&d, at, 2, 0, 0)
		}
		d.Cache = []api.Write{{At: h + 2, Data: block(77)}, {At: 2*h - 1, Data: block(78)}}
		for n, want := range map[int]answer{
			2:       {block: block(sectors - 1)},
			h - 1:   {code: api.ErrIO},
			h + 2:   {block: block(77)},
			2*h - 1: {code: api.ErrIO},
		} {
			for _, d.Fuse = range []int{-1, 0, 3} {
				if _, _, a := check(t, d, m, reading(n)); !sameAnswer(a, want) {
					t.Errorf("%d of %d sectors: %s, not %s", n, sectors, told1(a), told1(want))
				}
			}
		}
		if b, e := remap.Read(&d, api.Remap{}, 2*h-1); e != api.OK || b != block(78) {
			t.Errorf("%d sectors, without pairs: %v", sectors, e)
		}
		d.Down = true
		if _, _, a := check(t, d, m, reading(2)); a.code != api.ErrDown {
			t.Errorf("without power: %s", told1(a))
		}
	}
}

// A sector that takes the block is written where it stands, with one act; the table stays.
func TestWriteThatNeedsNoSpare(t *testing.T) {
	for _, sectors := range []int{28, 30, 4096} {
		h := halfOf(sectors)
		for _, n := range []int{2, h - 1, h + 2, 2*h - 1} {
			d, _ := fresh(t, sectors)
			m := api.Remap{Gen: 5, Pairs: paired(2, sectors-1)}
			failing(t, &d, 2)
			d.Sectors[n].NoRead = true
			d.Fuse = 1
			d, m, a := check(t, d, m, writing(n, block(50)))
			if a.code != api.OK || m.Gen != 5 || d.Fuse != 0 || len(d.Cache) != 1 || d.Cache[0] != (api.Write{At: remap.At(m, n), Data: block(50)}) {
				t.Errorf("%d of %d sectors: %v, %v, %s", n, sectors, a.code, m, told(d))
			}
			if b, e := remap.Read(&d, m, n); e != api.OK || b != block(50) {
				t.Errorf("%d of %d sectors: %v", n, sectors, e)
			}
		}
	}
}

// The first spare sector that no pair has and that takes the block.
func TestWhichSpare(t *testing.T) {
	for _, x := range []struct {
		pairs []api.Pair
		fails []int
		n     int
		want  []api.Pair
		code  api.Errno
	}{
		{nil, []int{2}, 2, paired(2, 8), api.OK},
		{nil, []int{7}, 7, paired(7, 8), api.OK},
		{nil, []int{2, 8}, 2, paired(2, 9), api.OK},
		{nil, []int{2, 8, 9, 11}, 2, paired(2, 10), api.OK},
		{paired(3, 8), []int{2}, 2, paired(3, 8, 2, 9), api.OK},
		{paired(3, 9), []int{2}, 2, paired(3, 9, 2, 8), api.OK},
		{paired(3, 9, 7, 8), []int{2, 10, 3, 7}, 2, paired(3, 9, 7, 8, 2, 11), api.OK},
		// A sector that was replaced fails again: its pair stays where it is, its old spare sector is passed over.
		{paired(2, 8), []int{8}, 2, paired(2, 9), api.OK},
		{paired(2, 9), []int{9}, 2, paired(2, 8), api.OK},
		{paired(2, 9), []int{9, 8}, 2, paired(2, 10), api.OK},
		{paired(3, 8, 2, 9, 7, 10), []int{9, 2}, 2, paired(3, 8, 2, 11, 7, 10), api.OK},
		{paired(2, 27, 3, 8), []int{27, 9}, 2, paired(2, 10, 3, 8), api.OK},
		{nil, slices.Concat([]int{2}, spares(8, 26)), 2, paired(2, 27), api.OK},
		{nil, slices.Concat([]int{2}, spares(8, 27)), 2, nil, api.ErrSpares},
		{paired(3, 27), slices.Concat([]int{2}, spares(8, 26)), 2, nil, api.ErrSpares},
		{paired(2, 27), spares(8, 27), 2, nil, api.ErrSpares},
		// The sector's own place doesn't matter, where a pair stands for it.
		{paired(2, 12), []int{12}, 2, paired(2, 8), api.OK},
	} {
		d, _ := fresh(t, 28)
		m := api.Remap{Gen: 6, Pairs: x.pairs}
		failing(t, &d, x.fails...)
		d, m, a := check(t, d, m, writing(x.n, block(60)))
		if a.code != x.code {
			t.Errorf("%v, %v fail: %v", x.pairs, x.fails, a.code)
		}
		want := api.Remap{Gen: 7, Pairs: x.want}
		if x.code != api.OK {
			want = api.Remap{Gen: 6, Pairs: x.pairs}
		}
		if !sameTable(m, want) {
			t.Errorf("%v, %v fail: %v, not %v", x.pairs, x.fails, m, want)
		}
		if b, e := remap.Read(&d, m, x.n); x.code == api.OK && (e != api.OK || b != block(60)) {
			t.Errorf("%v, %v fail: what was written isn't read: %v", x.pairs, x.fails, e)
		}
	}
}

// spares: the sectors from a to b.
func spares(a, b int) []int {
	var l []int
	for at := a; at <= b; at++ {
		l = append(l, at)
	}
	return l
}

// Both copies of the new table are written; one of them may fail.
func TestCopiesThatFail(t *testing.T) {
	for _, x := range []struct {
		gen   int
		fails []int
		code  api.Errno
	}{
		{0, nil, api.OK}, {0, []int{1}, api.OK}, {0, []int{5}, api.OK}, {0, []int{1, 5}, api.ErrIO}, {0, []int{0, 4}, api.OK},
		{1, nil, api.OK}, {1, []int{0}, api.OK}, {1, []int{4}, api.OK}, {1, []int{0, 4}, api.ErrIO}, {1, []int{1, 5}, api.OK},
		{1<<62 - 2, []int{1}, api.OK}, {1<<62 - 1, []int{4}, api.OK}, {1<<62 - 1, []int{0, 4}, api.ErrIO},
	} {
		d, _ := fresh(t, 28)
		m := api.Remap{Gen: x.gen, Pairs: paired(3, 8)}
		next := api.Remap{Gen: x.gen + 1, Pairs: paired(3, 8, 2, 9)}
		d = holding(d, map[int]api.Remap{x.gen % 2: m, 4 + x.gen%2: m})
		place := next.Gen % 2
		d.Sectors[place].NoRead, d.Sectors[4+place].NoRead = true, true
		d.Sectors[2].NoWrite = true
		failing(t, &d, x.fails...)
		old := m
		d, m, a := check(t, d, m, writing(2, block(60)))
		want := next
		if x.code != api.OK {
			want = old
		}
		if a.code != x.code || !sameTable(m, want) {
			t.Errorf("number %d, %v fail: %v %v", x.gen, x.fails, a.code, m)
		}
		for _, at := range []int{place, 4 + place} {
			if s := d.Sectors[at]; !slices.Contains(x.fails, at) && s != (api.Sector{Data: bytesOf(next)}) {
				t.Errorf("number %d, %v fail: sector %d has no copy", x.gen, x.fails, at)
			}
		}
		if l, e := remap.Load(&d); e != api.OK || !sameTable(l, want) {
			t.Errorf("number %d, %v fail: %v %v is loaded", x.gen, x.fails, l, e)
		}
	}
}

// Behind the table of the number 2^62 none may follow; a sector that takes the block needs none.
func TestGreatestNumber(t *testing.T) {
	d, _ := fresh(t, 28)
	m := api.Remap{Gen: 1 << 62, Pairs: paired(3, 8)}
	d = holding(d, map[int]api.Remap{0: m, 4: m, 1: {Gen: 1<<62 - 1}, 5: {Gen: 1<<62 - 1}})
	failing(t, &d, 2)
	x, m, a := check(t, d, m, writing(7, block(60)))
	if a.code != api.OK || len(x.Cache) != 1 || m.Gen != 1<<62 {
		t.Error(a.code, told(x), m)
	}
	was := m
	if e := remap.Write(&d, &m, 2, block(60)); e != api.ErrArg || !sameTable(m, was) || !slices.Equal(m.Pairs, was.Pairs) {
		t.Error(e, m)
	}
	if l, e := remap.Load(&d); e != api.OK || !sameTable(l, m) {
		t.Error(l, e)
	}
	for _, n := range []int{2, 3, 6, 7} {
		want := block(remap.At(m, n))
		if b, e := remap.Read(&d, m, n); e != api.OK || b != want {
			t.Errorf("sector %d: %v", n, e)
		}
	}
	failing(t, &d, spares(8, 27)...)
	if e := remap.Write(&d, &m, 2, block(60)); e != api.ErrSpares || !sameTable(m, was) {
		t.Error(e, m)
	}
}

// The 20th pair is the last one, whatever fails from there on.
func TestTwentyPairs(t *testing.T) {
	d, m := fresh(t, 48)
	list := many(24)
	for i, p := range list[:20] {
		failing(t, &d, p.From)
		var a answer
		if d, m, a = check(t, d, m, writing(p.From, block(100+i))); a.code != api.OK || !sameTable(m, api.Remap{Gen: i + 1, Pairs: many(i + 1)}) {
			t.Fatal(i, a.code, m)
		}
	}
	last := m
	for i, p := range list {
		failing(t, &d, remap.At(m, p.From))
		x := d
		x.Fuse = 1
		x, m, a := check(t, x, m, writing(p.From, block(200+i)))
		if a.code != api.ErrSpares || !sameTable(m, last) || x.Fuse != 0 {
			t.Errorf("sector %d: %v, %v, %s", p.From, a.code, m, told(x))
		}
	}
	for i, p := range list[:20] {
		if b, e := remap.Read(&d, m, p.From); e != api.OK || b != block(100+i) {
			t.Errorf("sector %d: %v", p.From, e)
		}
	}
	if l, e := remap.Load(&d); e != api.OK || !sameTable(l, last) {
		t.Error(l, e)
	}
}

// Wherever the power goes, ErrDown is told, and the table is as it was; what is done till then is done in its order.
func TestPowerThatGoes(t *testing.T) {
	for _, fails := range [][]int{{2}, {2, 8}, {2, 8, 9, 10}, {2, 1}, {2, 5}, {2, 1, 5}, slices.Concat([]int{2}, spares(8, 27)), {}} {
		for fuse := range 30 {
			d, m := fresh(t, 28)
			failing(t, &d, fails...)
			d.Fuse = fuse
			x, n, a := check(t, d, m, writing(2, block(70)))
			if (a.code == api.ErrDown) != x.Down || a.code != api.OK && !sameTable(n, m) {
				t.Errorf("%v fail, fuse %d: %v %v %s", fails, fuse, a.code, n, told(x))
			}
		}
		d, m := fresh(t, 28)
		failing(t, &d, fails...)
		d.Down = true
		if _, n, a := check(t, d, m, writing(2, block(70))); a.code != api.ErrDown || !sameTable(n, m) {
			t.Errorf("%v fail, without power: %v", fails, a.code)
		}
	}
}

func TestLook(t *testing.T) {
	good := api.Remap{Gen: 3, Pairs: paired(2, 8)}
	bad := []func(s *api.Sector){
		func(s *api.Sector) { s.Data[127] ^= 1 },
		func(s *api.Sector) { s.NoRead = true },
		func(s *api.Sector) { s.Data = bytesOf(api.Remap{Gen: 1}) },
		func(s *api.Sector) { s.Data = bytesOf(api.Remap{Gen: 3, Pairs: paired(2, 9)}) },
		func(s *api.Sector) { s.Data, s.NoWrite = block(1), true },
		func(s *api.Sector) { s.NoRead, s.NoWrite = true, true },
		func(s *api.Sector) { s.NoWrite = true },
		func(s *api.Sector) {},
	}
	report := []struct{ bad, healed int }{{1, 1}, {1, 1}, {1, 1}, {1, 1}, {1, 0}, {1, 0}, {0, 0}, {0, 0}}
	for i, first := range bad {
		for j, second := range bad {
			d, _ := fresh(t, 28)
			d = holding(d, map[int]api.Remap{1: good, 5: good})
			first(&d.Sectors[1])
			second(&d.Sectors[5])
			want := api.Report{Seen: 2, Bad: report[i].bad + report[j].bad, Healed: report[i].healed + report[j].healed}
			x, _, a := check(t, d, good, looking())
			if a.code != api.OK || !sameReport(a.report, want) || len(x.Cache) != want.Healed {
				t.Errorf("%d, %d: %s, not %v", i, j, told1(a), want)
			}
			// What is well again is good, and can be read behind a flush.
			disk.Flush(&x)
			if _, _, a := check(t, x, good, looking()); a.report.Bad != want.Bad-want.Healed {
				t.Errorf("%d, %d: again %s", i, j, told1(a))
			}
			for fuse := range 3 {
				x = d
				x.Fuse = fuse
				_, _, a := check(t, x, good, looking())
				down := api.Report{}
				// A copy that fails to be written takes its act too.
				if fuse >= want.Bad && (a.code != api.OK || !sameReport(a.report, want)) || fuse < want.Bad && (a.code != api.ErrDown || !sameReport(a.report, down)) {
					t.Errorf("%d, %d, fuse %d: %s", i, j, fuse, told1(a))
				}
			}
			x = d
			x.Down = true
			if _, _, a := check(t, x, good, looking()); a.code != api.ErrDown {
				t.Errorf("%d, %d, without power: %s", i, j, told1(a))
			}
		}
	}
}

// The copies of a table are looked at where its number has its place.
func TestWhereLookLooks(t *testing.T) {
	for _, x := range rightOnes() {
		d, _ := fresh(t, x.sectors)
		h := halfOf(x.sectors)
		place := x.m.Gen % 2
		for _, at := range []int{0, 1, h, h + 1} {
			d.Sectors[at].Data = block(at)
		}
		y, _, a := check(t, d, x.m, looking())
		if a.code != api.OK || !sameReport(a.report, api.Report{Seen: 2, Bad: 2, Healed: 2}) {
			t.Errorf("%v: %s", x.m, told1(a))
		}
		disk.Flush(&y)
		if y.Sectors[place].Data != bytesOf(x.m) || y.Sectors[h+place].Data != bytesOf(x.m) || y.Sectors[1-place].Data != block(1-place) {
			t.Errorf("%v isn't in its places", x.m)
		}
		if m, e := remap.Load(&y); e != api.OK || !sameTable(m, x.m) {
			t.Errorf("%v: %v %v is loaded", x.m, m, e)
		}
	}
}

// read: what a sector reads as.
type read struct {
	block api.Block
	code  api.Errno
}

// readAll: what all sectors that may be asked for read as.
func readAll(d api.Disk, m api.Remap) map[int]read {
	all := map[int]read{}
	for n := range d.Sectors {
		if between(halvesOf(d), n) {
			b, e := remap.Read(&d, m, n)
			all[n] = read{b, e}
		}
	}
	return all
}

// anyCall: one of the calls with arguments of any kind, more often right than not.
func anyCall(r *rand.Rand, sectors int) call {
	n := r.Intn(sectors - 20)
	if r.Intn(30) == 0 {
		n = extremes()[r.Intn(len(extremes()))]
	}
	switch r.Intn(10) {
	case 0, 1, 2, 3, 4:
		return writing(n, block(r.Intn(1<<20)))
	case 5, 6:
		return reading(n)
	case 7, 8:
		return looking()
	}
	return loading()
}

// befall: something becomes of the disk.
func befall(r *rand.Rand, d *api.Disk) {
	at := r.Intn(len(d.Sectors))
	switch r.Intn(12) {
	case 0, 1, 2, 3:
		disk.Hit(d, at, 3, 0, 0)
	case 4, 5:
		disk.Hit(d, at, 2, 0, 0)
	case 6:
		disk.Hit(d, at, 1, r.Intn(128), byte(r.Intn(256)))
	case 7, 8, 9:
		disk.Flush(d)
	case 10:
		disk.Arm(d, r.Intn(12)-1)
	case 11:
		keep := make([]bool, r.Intn(5))
		for i := range keep {
			keep[i] = r.Intn(2) == 0
		}
		disk.Crash(d, keep...)
	}
}

// P4.1, P4.2: long ways of calls; what is written is read, others read as they did, and what any disk and table on the way had stays till the end.
func TestLongWays(t *testing.T) {
	type pair struct {
		d api.Disk
		m api.Remap
	}
	for seed := range 120 {
		r := rand.New(rand.NewSource(int64(seed)))
		sectors := []int{28, 30, 32, 48}[seed%4]
		d, m := fresh(t, sectors)
		m.Pairs = nil
		var had, were []pair
		for step := range 150 {
			if r.Intn(3) == 0 {
				befall(r, &d)
			}
			c := anyCall(r, sectors)
			before := readAll(d, m)
			old := m
			var a answer
			d, m, a = check(t, d, m, c)
			if a.code != api.ErrDown {
				now := readAll(d, m)
				for n := range now {
					if now[n] != before[n] && c.name != writing(n, now[n].block).name {
						t.Fatalf("seed %d, step %d, %s: sector %d reads as something else", seed, step, c.name, n)
					}
				}
			}
			if a.code != api.OK && !sameTable(m, old) {
				t.Fatalf("seed %d, step %d, %s: another table beside %v", seed, step, c.name, a.code)
			}
			x, y := whole(d, m)
			had, were = append(had, pair{d, m}), append(were, pair{x, y})
		}
		for i := range had {
			if x, y := whole(had[i].d, had[i].m); !sameDisk(x, were[i].d) || !sameTable(y, were[i].m) {
				t.Fatalf("seed %d: disk or table behind step %d are other ones", seed, i)
			}
		}
	}
}

// P4.2: what is written, whichever sectors fail, is read, and behind a flush and a crash too, by the table that is loaded.
func TestWrittenIsRead(t *testing.T) {
	for seed := range 60 {
		r := rand.New(rand.NewSource(int64(seed)))
		d, m := fresh(t, 48)
		want := map[int]api.Block{}
		for n, a := range readAll(d, m) {
			want[n] = a.block
		}
		for i := range 100 {
			n := many(24)[r.Intn(24)].From
			if r.Intn(6) == 0 {
				failing(t, &d, []int{n, remap.At(m, n), 28 + r.Intn(20)}[r.Intn(3)])
			}
			switch e := remap.Write(&d, &m, n, block(1000+i)); e {
			case api.OK:
				want[n] = block(1000 + i)
			case api.ErrSpares:
			default:
				t.Fatal(n, e)
			}
			x, l := d, m
			if i%5 == 0 {
				var e api.Errno
				disk.Flush(&x)
				disk.Crash(&x)
				if l, e = remap.Load(&x); e != api.OK || !sameTable(l, m) {
					t.Fatal(l, m, e)
				}
			}
			for n, a := range readAll(x, l) {
				if a.code != api.OK || a.block != want[n] {
					t.Fatalf("seed %d, step %d: sector %d: %v %x..", seed, i, n, a.code, a.block[:2])
				}
			}
		}
	}
}

// P1: an answer hangs on the arguments alone, whatever was asked of another disk ahead of it.
func TestNothingIsKept(t *testing.T) {
	other, table := fresh(t, 30)
	r := rand.New(rand.NewSource(1))
	first := ""
	for i := range 100 {
		befall(r, &other)
		anyCall(r, 30).run(&other, &table)
		d, m := fresh(t, 28)
		failing(t, &d, 2, 8)
		said := ""
		for _, c := range []call{formatting(), loading(), writing(2, block(5)), looking(), reading(2), writing(8, block(5)), loading()} {
			var a answer
			d, m, a = check(t, d, m, c)
			said += told1(a)
		}
		if said += fmt.Sprint(m, told(d)); i > 0 && said != first {
			t.Fatalf("%s, and ahead of it %s", said, first)
		}
		first = said
	}
}

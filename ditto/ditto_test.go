package ditto_test

import (
	"math"
	"math/rand"
	"slices"
	"testing"

	"lazaret/api"
	"lazaret/ditto"
	"lazaret/remap"
)

// The chapter's example.
func TestExample(t *testing.T) {
	d, m, p := laid(t, 28, 2, 6)
	if p != (api.Ptr{A: 2, B: 6, Sum: sumOf(block(70))}) {
		t.Fatal(p)
	}
	hit(t, &d, unread, 2)
	if b, n, e := ditto.Get(&d, &m, p); b != block(70) || n != 1 || e != api.OK {
		t.Fatal(b[:2], n, e)
	}
	if !d.Sectors[2].NoRead {
		t.Error("it can be read ahead of a flush")
	}
	flush(t, &d)
	if d.Sectors[2] != (api.Sector{Data: block(70)}) || m.Gen != 0 {
		t.Error("not as it was:", d.Sectors[2], m)
	}
}

// Where a block may be laid, and how: A's copy first.
func TestPut(t *testing.T) {
	for _, sectors := range []int{28, 30, 4096} {
		h := (sectors - 20) / 2
		for _, a := range []int{2, 3, h - 1, h + 2, 2*h - 1} {
			for _, c := range []int{-1, 2, 3, h - 1, h + 2, 2*h - 1} {
				if a == c {
					continue
				}
				for _, b := range []api.Block{block(70), {}} {
					d, m := fresh(t, sectors)
					d, m, x := check(t, d, m, putting(b, a, c))
					want := []api.Write{{At: a, Data: b}, {At: c, Data: b}}
					if c == -1 {
						want = want[:1]
					}
					if x.code != api.OK || x.ptr != (api.Ptr{A: a, B: c, Sum: sumOf(b)}) || !slices.Equal(d.Cache, want) || m.Gen != 0 {
						t.Fatalf("%d sectors, %d, %d: %s, %s", sectors, a, c, said(x), told(d))
					}
					for _, g := range []call{getting(x.ptr), looking(x.ptr)} {
						if _, _, x := check(t, d, m, g); x.code != api.OK || x.block != b && x.report.Seen == 0 || x.report.Bad != 0 || x.healed != 0 {
							t.Fatalf("%d sectors, %s: %s", sectors, g.name, said(x))
						}
					}
				}
			}
		}
	}
}

// away: numbers of no sector that may be asked for.
func away(sectors int) []int {
	h := (sectors - 20) / 2
	return append([]int{0, 1, h, h + 1, 2 * h, 2*h + 1, 2*h + 2, 2*h + 19, 2*h + 20, 2*h + 22}, extremes()...)
}

// states: disks with writes that aren't flushed, with power, without, and about to lose it.
func states(d api.Disk) []api.Disk {
	d.Cache = []api.Write{{At: 3, Data: block(71)}}
	l := []api.Disk{d, d, d, d}
	l[1].Fuse, l[2].Fuse, l[3].Down = 0, 1, true
	return l
}

// refused: a call answers ErrArg, and neither disk nor table is another one.
func refused(t *testing.T, d api.Disk, m api.Remap, c call) {
	t.Helper()
	endDisk, endTable, x := check(t, d, m, c)
	if !sameAnswer(x, answer{code: api.ErrArg}) || !sameDisk(endDisk, d) || !sameTable(endTable, m) {
		t.Errorf("%s of %v, %s: %s", c.name, m, told(d), said(x))
	}
}

// Sectors that may not be asked for: places of tables, spare ones, others, as A and as B.
func TestSectorsThatMayNotBe(t *testing.T) {
	for _, sectors := range []int{28, 46} {
		formatted, m := fresh(t, sectors)
		h := (sectors - 20) / 2
		for _, d := range states(formatted) {
			for _, m.Pairs = range [][]api.Pair{nil, paired(2, 2*h, h+2, 2*h+1)} {
				for _, n := range away(sectors) {
					for _, x := range [][2]int{{n, -1}, {n, 2}, {2, n}, {n, h + 2}, {h + 2, n}, {n, n}, {n, n ^ 1}, {-1, n}} {
						refused(t, d, m, putting(block(70), x[0], x[1]))
						for _, sum := range []api.Sum{sumOf(block(70)), {}, sumOf(api.Block{})} {
							p := api.Ptr{A: x[0], B: x[1], Sum: sum}
							refused(t, d, m, getting(p))
							refused(t, d, m, looking(p))
						}
					}
				}
			}
		}
	}
}

// Pointers that aren't right by their two sectors together.
func TestPointersThatAreNotRight(t *testing.T) {
	formatted, m := fresh(t, 28)
	for _, d := range states(formatted) {
		for _, x := range [][2]int{{2, 2}, {7, 7}, {-1, 2}, {-1, 7}, {-1, -1}} {
			refused(t, d, m, putting(block(2), x[0], x[1]))
			refused(t, d, m, putting(api.Block{}, x[0], x[1]))
			for _, sum := range []api.Sum{sumOf(block(2)), sumOf(api.Block{}), {0: 1}, {31: 1}} {
				p := api.Ptr{A: x[0], B: x[1], Sum: sum}
				refused(t, d, m, getting(p))
				refused(t, d, m, looking(p))
			}
		}
		refused(t, d, m, getting(api.Ptr{}))
		refused(t, d, m, looking(api.Ptr{}))
	}
}

// wrongTables: tables that aren't right for a disk of 28 sectors.
func wrongTables() []api.Remap {
	many := api.Remap{}
	for i := range 21 {
		many.Pairs = append(many.Pairs, api.Pair{From: []int{2, 3, 6, 7}[i%4], To: 8 + i%20})
	}
	l := []api.Remap{{Gen: -1}, {Gen: math.MinInt}, {Gen: 1<<62 + 1}, {Gen: math.MaxInt}, {Gen: -1, Pairs: paired(2, 8)}, many}
	for _, pairs := range [][]api.Pair{
		paired(2, 8, 2, 9), paired(2, 8, 6, 8), paired(2, 8, 2, 8), paired(3, 8, 2, 9, 3, 10),
		paired(0, 8), paired(1, 8), paired(4, 8), paired(5, 8), paired(8, 9), paired(27, 9), paired(28, 9), paired(-1, 8), paired(-2, 8),
		paired(2, 7), paired(2, 2), paired(2, 6), paired(2, 28), paired(2, 29), paired(2, -1), paired(2, 0), paired(3, 8, 2, 28),
		paired(math.MinInt+2, 8), paired(1<<32+2, 8), paired(2, math.MaxInt), paired(2, 1<<32+8),
	} {
		l = append(l, api.Remap{Gen: 1, Pairs: pairs})
	}
	return l
}

func pointers() []api.Ptr {
	return []api.Ptr{{A: -1, B: -1}, {A: 2, B: 6, Sum: sumOf(block(70))}, {A: 6, B: -1, Sum: sumOf(block(70))}, {A: 2, B: 7}, {A: 0, B: 2}, {}}
}

// A table that isn't right for the disk: ErrArg, of a hole too.
func TestTablesThatAreNotRight(t *testing.T) {
	good, _, _ := laid(t, 28, 2, 6)
	for _, d := range states(good) {
		for _, m := range wrongTables() {
			for _, x := range [][2]int{{2, 6}, {6, -1}, {2, 7}, {0, 2}} {
				refused(t, d, m, putting(block(71), x[0], x[1]))
			}
			for _, p := range pointers() {
				refused(t, d, m, getting(p))
				refused(t, d, m, looking(p))
			}
		}
	}
}

// noHalves: disks that aren't formed, or have no halves.
func noHalves(t *testing.T) []api.Disk {
	t.Helper()
	list := []api.Disk{{}, {Fuse: -1}, {Fuse: -1, Cache: []api.Write{{At: 2}}}, {Down: true}}
	for _, sectors := range []int{1, 2, 8, 20, 26, 27, 29, 31, 4095, 4097, 4098} {
		d := api.Disk{Sectors: make([]api.Sector, sectors), Fuse: -1}
		down := d
		down.Down = true
		list = append(list, d, down)
	}
	for _, at := range append([]int{28, 29, -1}, extremes()...) {
		d, _, _ := laid(t, 28, 2, 6)
		d.Cache = []api.Write{{At: 2, Data: block(1)}, {At: at, Data: block(2)}, {At: 3, Data: block(3)}}
		down := d
		down.Down = true
		list = append(list, d, down)
	}
	return list
}

// A disk without halves: ErrArg ahead of ErrDown, of a hole too.
func TestDisksWithoutHalves(t *testing.T) {
	for _, d := range noHalves(t) {
		for _, m := range []api.Remap{{}, {Gen: 1, Pairs: paired(2, 8)}, {Gen: -1}} {
			refused(t, d, m, putting(block(71), 2, 6))
			refused(t, d, m, putting(block(71), 2, -1))
			for _, p := range pointers() {
				refused(t, d, m, getting(p))
				refused(t, d, m, looking(p))
			}
		}
	}
}

// No disk, no table, neither of them.
func TestNothingAtAll(t *testing.T) {
	d, m, p := laid(t, 28, 2, 6)
	list := []call{putting(block(71), 2, 6), putting(block(71), -1, -1), getting(p), getting(api.Ptr{A: -1, B: -1}), getting(api.Ptr{}), looking(p), looking(api.Ptr{A: -1, B: -1}), looking(api.Ptr{})}
	for _, x := range states(d) {
		for _, c := range list {
			endDisk, endTable := copied(x, m)
			for _, got := range []answer{c.run(nil, &endTable), c.run(&endDisk, nil), c.run(nil, nil)} {
				if !sameAnswer(got, answer{code: api.ErrArg}) || !sameDisk(endDisk, x) || !sameTable(endTable, m) {
					t.Errorf("%s: %s", c.name, said(got))
				}
			}
		}
	}
}

// A hole means a block of zeros: nothing is read, and nothing done, so no power is asked for.
func TestHoles(t *testing.T) {
	hole := api.Ptr{A: -1, B: -1}
	for _, sectors := range []int{28, 30, 4096} {
		d, m := fresh(t, sectors)
		hit(t, &d, rotten|unread|unwrit, span(0, 27)...)
		for _, d := range states(d) {
			for _, m := range []api.Remap{m, {Gen: 1 << 62}, {Gen: 7, Pairs: paired(2, sectors-20)}} {
				for _, c := range []call{getting(hole), looking(hole)} {
					endDisk, endTable, x := check(t, d, m, c)
					if !sameAnswer(x, answer{}) || !sameDisk(endDisk, d) || !sameTable(endTable, m) {
						t.Errorf("%s of %s: %s", c.name, told(d), said(x))
					}
				}
			}
		}
	}
}

// A disk that is Down: ErrDown of all that is at home and no hole, whatever stands there.
func TestDown(t *testing.T) {
	for how := range 8 {
		for _, c := range []int{6, -1} {
			d, m, p := laid(t, 28, 2, c)
			hit(t, &d, how, 2)
			d.Down = true
			for _, d.Cache = range [][]api.Write{nil, {{At: 2, Data: block(70)}}, {{At: 2, Data: block(71)}, {At: 6, Data: block(70)}}} {
				for _, d.Fuse = range []int{-1, 0, 3} {
					for _, c := range []call{putting(block(71), 2, c), getting(p), looking(p)} {
						end, _, x := check(t, d, m, c)
						if !sameAnswer(x, answer{code: api.ErrDown}) || !sameDisk(end, d) {
							t.Errorf("%s of %s: %s", c.name, told(d), said(x))
						}
					}
				}
			}
		}
	}
}

// What is told of two copies, by what became of each.
func TestTwoCopies(t *testing.T) {
	for _, x := range []struct {
		first, second  int
		healed         int
		read           bool
		bad, well      int
		replaced, spot int
	}{
		{0, 0, 0, true, 0, 0, 0, 0},
		{rotten, 0, 1, true, 1, 1, 0, 2},
		{unread, 0, 1, true, 1, 1, 0, 2},
		{rotten | unread, 0, 1, true, 1, 1, 0, 2},
		{unwrit, 0, 0, true, 0, 0, 0, 0},
		{rotten | unwrit, 0, 1, true, 1, 1, 1, 2},
		{unread | unwrit, unwrit, 1, true, 1, 1, 1, 2},
		{rotten | unread | unwrit, unwrit, 1, true, 1, 1, 1, 2},
		{0, rotten, 0, true, 1, 1, 0, 6},
		{0, unread, 0, true, 1, 1, 0, 6},
		{0, unwrit, 0, true, 0, 0, 0, 0},
		{unwrit, rotten | unread | unwrit, 0, true, 1, 1, 1, 6},
		{rotten, rotten, 0, false, 2, 0, 0, 0},
		{rotten, unread, 0, false, 2, 0, 0, 0},
		{unread, unread, 0, false, 2, 0, 0, 0},
		{unread | unwrit, rotten | unwrit, 0, false, 2, 0, 0, 0},
	} {
		d, m, p := laid(t, 28, 2, 6)
		hit(t, &d, x.first, 2)
		hit(t, &d, x.second, 6)
		_, table, got := check(t, d, m, getting(p))
		want := answer{block: block(70), healed: x.healed}
		if !x.read {
			want = answer{code: api.ErrIO}
		}
		if !sameAnswer(got, want) || table.Gen != x.replaced*x.healed {
			t.Errorf("%d, %d: get: %s, %v", x.first, x.second, said(got), table)
		}
		end, table, got := check(t, d, m, looking(p))
		want = answer{report: api.Report{Seen: 2, Bad: x.bad, Healed: x.well}}
		if !x.read {
			want.code = api.ErrIO
		}
		if !sameAnswer(got, want) || table.Gen != x.replaced {
			t.Errorf("%d, %d: look: %s, %v", x.first, x.second, said(got), table)
		}
		if x.spot == 0 && !sameDisk(end, d) {
			t.Errorf("%d, %d: look changes the disk: %s", x.first, x.second, told(end))
		}
		if x.spot != 0 {
			if b, e := remap.Read(&end, table, x.spot); b != block(70) || e != api.OK || remap.At(table, x.spot) != x.spot*(1-x.replaced)+8*x.replaced {
				t.Errorf("%d, %d: look: sector %d isn't well: %v %v", x.first, x.second, x.spot, e, table)
			}
		}
	}
}

// A single copy is not healed: there is nothing that it could be healed from.
func TestOneCopy(t *testing.T) {
	for how := range 8 {
		for _, at := range []int{2, 7} {
			d, m, p := laid(t, 28, at, -1)
			hit(t, &d, how, at)
			get, look := answer{block: block(70)}, answer{report: api.Report{Seen: 1}}
			if how&(rotten|unread) != 0 {
				get, look = answer{code: api.ErrIO}, answer{report: api.Report{Seen: 1, Bad: 1}, code: api.ErrIO}
			}
			for i, c := range []call{getting(p), looking(p)} {
				end, _, x := check(t, d, m, c)
				if !sameAnswer(x, []answer{get, look}[i]) || !sameDisk(end, d) {
					t.Errorf("hit %d, %s: %s", how, c.name, said(x))
				}
			}
		}
	}
}

// A pointer whose sum is no block's that stands there: zeros are a sum as any other one.
func TestOtherSums(t *testing.T) {
	d, m, p := laid(t, 28, 2, 6)
	for _, sum := range []api.Sum{{}, sumOf(api.Block{}), sumOf(block(71)), {31: 1}} {
		for _, c := range []int{6, -1} {
			for _, c := range []call{getting(api.Ptr{A: 2, B: c, Sum: sum}), looking(api.Ptr{A: 2, B: c, Sum: sum})} {
				if end, _, x := check(t, d, m, c); x.code != api.ErrIO || !sameDisk(end, d) {
					t.Errorf("%s: %s", c.name, said(x))
				}
			}
		}
	}
	// Two blocks that stand in for one another: each pointer takes its own alone.
	if e := remap.Write(&d, &m, 2, block(71)); e != api.OK {
		t.Fatal(e)
	}
	if _, _, x := check(t, d, m, getting(p)); x.block != block(70) || x.healed != 1 {
		t.Error(said(x))
	}
	p.Sum = sumOf(block(71))
	if _, _, x := check(t, d, m, getting(p)); x.block != block(71) || x.healed != 0 {
		t.Error(said(x))
	}
	if end, table, x := check(t, d, m, looking(p)); x.report.Healed != 1 || !goodAt(&end, table, 6, block(71)) {
		t.Error(said(x))
	}
}

// goodAt: does the block stand there?
func goodAt(d *api.Disk, m api.Remap, at int, want api.Block) bool {
	b, e := remap.Read(d, m, at)
	return b == want && e == api.OK
}

// A healing that finds no spare sector left, or whose table finds no place: the copy stays bad, and the block is told.
func TestHealingsThatFail(t *testing.T) {
	full := api.Remap{}
	for i := range 20 {
		full.Pairs = append(full.Pairs, api.Pair{From: []int{2, 15}[i/10] + i%10, To: 46 - 20 + i})
	}
	for _, x := range []struct {
		name    string
		sectors int
		m       api.Remap
		bad     int
		fails   []int
		gen     int
	}{
		{"all spare sectors fail", 28, api.Remap{}, 2, append(span(8, 27), 2), 0},
		{"all other spare sectors fail", 28, api.Remap{Gen: 5, Pairs: paired(2, 9)}, 2, span(8, 27), 5},
		{"all spare sectors are taken", 46, full, 12, []int{12}, 0},
		{"all spare sectors are taken, its own one too", 46, full, 2, []int{26}, 0},
		{"both copies of the table fail", 28, api.Remap{}, 2, []int{2, 1, 5}, 0},
		{"both copies of the table fail, behind spare sectors", 28, api.Remap{Gen: 3}, 2, []int{2, 0, 4, 8, 9}, 3},
		{"no table follows", 28, api.Remap{Gen: 1 << 62}, 2, []int{2}, 1 << 62},
	} {
		for _, other := range []int{3, 7} {
			for _, p := range []api.Ptr{{A: x.bad, B: other}, {A: other, B: x.bad}} {
				p.Sum = sumOf(block(70))
				d, _ := fresh(t, x.sectors)
				for _, at := range []int{p.A, p.B} {
					d.Sectors[remap.At(x.m, at)].Data = block(70)
				}
				hit(t, &d, rotten, remap.At(x.m, x.bad))
				hit(t, &d, unwrit, x.fails...)
				_, table, got := check(t, d, x.m, getting(p))
				if !sameAnswer(got, answer{block: block(70)}) || !sameTable(table, x.m) {
					t.Errorf("%s: get %v: %s, %v", x.name, p, said(got), table)
				}
				end, table, got := check(t, d, x.m, looking(p))
				if !sameAnswer(got, answer{report: api.Report{Seen: 2, Bad: 1}}) || !sameTable(table, x.m) || table.Gen != x.gen || goodAt(&end, table, x.bad, block(70)) {
					t.Errorf("%s: look %v: %s, %v", x.name, p, said(got), table)
				}
			}
		}
	}
}

// What is written to a sector that fails, ahead of and behind a good one.
func TestPutsThatFail(t *testing.T) {
	for _, x := range []struct {
		name  string
		m     api.Remap
		fails []int
		code  api.Errno
		at    []int // where both copies are
		cache []int
	}{
		{"none", api.Remap{}, nil, api.OK, []int{2, 6}, []int{2, 6}},
		{"A", api.Remap{}, []int{2}, api.OK, []int{8, 6}, []int{6}},
		{"B", api.Remap{}, []int{6}, api.OK, []int{2, 8}, nil},
		{"both", api.Remap{}, []int{2, 6}, api.OK, []int{8, 9}, nil},
		{"both, and spare ones", api.Remap{}, []int{2, 6, 8, 10}, api.OK, []int{9, 11}, nil},
		{"those that stand for both", api.Remap{Gen: 1, Pairs: paired(2, 8, 6, 9)}, []int{8, 9}, api.OK, []int{10, 11}, nil},
		{"A, and all spare ones", api.Remap{}, append(span(8, 27), 2), api.ErrSpares, nil, nil},
		{"B, and all spare ones", api.Remap{}, append(span(8, 27), 6), api.ErrSpares, nil, []int{2}},
		{"both, and all spare ones but one", api.Remap{}, append(span(9, 27), 2, 6), api.ErrSpares, nil, nil},
		{"A, and both copies of the table", api.Remap{}, []int{2, 1, 5}, api.ErrIO, nil, nil},
		{"B, and both copies of the table", api.Remap{}, []int{6, 1, 5}, api.ErrIO, nil, nil},
		{"A, and one copy of the table", api.Remap{}, []int{2, 1}, api.OK, []int{8, 6}, []int{6}},
		{"A, and no table follows", api.Remap{Gen: 1 << 62}, []int{2}, api.ErrArg, nil, nil},
	} {
		d, _ := fresh(t, 28)
		hit(t, &d, unwrit, x.fails...)
		d, m, got := check(t, d, x.m, putting(block(70), 2, 6))
		want := answer{code: x.code}
		if x.code == api.OK {
			want.ptr = api.Ptr{A: 2, B: 6, Sum: sumOf(block(70))}
		}
		var cache []int
		for _, w := range d.Cache {
			cache = append(cache, w.At)
		}
		if !sameAnswer(got, want) || !slices.Equal(cache, x.cache) {
			t.Errorf("%s: %s, %s", x.name, said(got), told(d))
		}
		for i, at := range x.at {
			if n := []int{2, 6}[i]; remap.At(m, n) != at || !goodAt(&d, m, n, block(70)) {
				t.Errorf("%s: %d isn't in %d: %v", x.name, n, at, m)
			}
		}
	}
}

// The power goes at each act of a call: ErrDown, and nothing beside it; what was done till then stays.
func TestFalls(t *testing.T) {
	for _, x := range []struct {
		name  string
		fails []int
		call  func(p api.Ptr) call
		acts  int // of the whole call
		gen   int
	}{
		{"put", nil, func(api.Ptr) call { return putting(block(71), 2, 6) }, 2, 0},
		{"put, once", nil, func(api.Ptr) call { return putting(block(71), 2, -1) }, 1, 0},
		{"put, A is replaced", []int{2}, func(api.Ptr) call { return putting(block(71), 2, 6) }, 7, 1},
		{"put, both are replaced", []int{2, 6}, func(api.Ptr) call { return putting(block(71), 2, 6) }, 12, 2},
		{"get", nil, getting, 1, 0},
		{"get, A is replaced", []int{2}, getting, 6, 1},
		{"get, A is replaced, spare ones fail", []int{2, 8, 9}, getting, 8, 1},
		{"look", nil, looking, 1, 0},
		{"look, A is replaced", []int{2}, looking, 6, 1},
	} {
		good, m, p := laid(t, 28, 2, 6)
		hit(t, &good, rotten, 2)
		hit(t, &good, unwrit, x.fails...)
		c := x.call(p)
		for fuse := range x.acts + 2 {
			d := good
			d.Fuse = fuse
			end, table, got := check(t, d, m, c)
			if fuse < x.acts && (!sameAnswer(got, answer{code: api.ErrDown}) || !end.Down) {
				t.Errorf("%s, fuse %d: %s", x.name, fuse, said(got))
			}
			if fuse >= x.acts && (got.code != api.OK || end.Down || end.Fuse != fuse-x.acts || table.Gen != x.gen) {
				t.Errorf("%s, fuse %d: %s, %s", x.name, fuse, said(got), told(end))
			}
		}
	}
	// Where nothing is to be healed no act is done.
	for _, sides := range [][2]int{{0, 0}, {0, rotten}, {rotten, rotten}, {unread, unread}} {
		d, m, p := laid(t, 28, 2, 6)
		hit(t, &d, sides[0], 2)
		hit(t, &d, sides[1], 6)
		d.Fuse = 0
		if end, _, x := check(t, d, m, getting(p)); x.code == api.ErrDown || end.Down {
			t.Errorf("%v: %s", sides, said(x))
		}
	}
}

// All that may become of both copies, of the sectors that replace them and of the table, with the power going at each act.
func TestAllStates(t *testing.T) {
	r := rand.New(rand.NewSource(606))
	spares := [][]int{nil, {8}, {8, 9, 10, 11}, span(8, 26), span(8, 27)}
	tables := [][]int{nil, {0}, {1}, {5}, {4, 5}, {1, 5}, {0, 4}}
	pairs := [][]api.Pair{nil, paired(2, 8), paired(6, 9), paired(7, 11, 6, 8, 2, 10)}
	for range 1000 {
		m := api.Remap{Gen: r.Intn(3), Pairs: pairs[r.Intn(len(pairs))]}
		p := api.Ptr{A: 2, B: []int{6, 6, 6, -1}[r.Intn(4)], Sum: sumOf(block(70))}
		if p.B == 6 && r.Intn(2) == 0 {
			p.A, p.B = p.B, p.A
		}
		d, _ := fresh(t, 28)
		for _, at := range []int{2, 6} {
			d.Sectors[remap.At(m, at)].Data = block(70)
			hit(t, &d, r.Intn(8), remap.At(m, at))
		}
		hit(t, &d, unwrit, spares[r.Intn(len(spares))]...)
		hit(t, &d, unwrit, tables[r.Intn(len(tables))]...)
		if r.Intn(4) == 0 {
			d.Cache = []api.Write{{At: 3, Data: block(9)}, {At: remap.At(m, []int{2, 6}[r.Intn(2)]), Data: block(70 + r.Intn(2))}}
		}
		for _, c := range []call{putting(block(71), p.A, p.B), getting(p), looking(p)} {
			check(t, d, m, c)
			for fuse := range 40 {
				x := d
				x.Fuse = fuse
				if _, _, got := check(t, x, m, c); got.code != api.ErrDown {
					break
				}
			}
		}
	}
}

// What was handed in elsewhere, a copy of the disk or of the table, stays, whatever is done with the other one.
func TestCopiesStay(t *testing.T) {
	d, m, p := laid(t, 28, 2, 6)
	hit(t, &d, unread|unwrit, 2)
	m.Pairs = append(make([]api.Pair, 0, 8), m.Pairs...)
	snapDisk, snapTable := d, m
	wasDisk, wasTable := whole(d, m)
	if _, n, e := ditto.Get(&d, &m, p); n != 1 || e != api.OK {
		t.Fatal(n, e)
	}
	hit(t, &d, rotten, 6)
	if r, e := ditto.Look(&d, &m, p); r.Healed != 1 || e != api.OK {
		t.Fatal(r, e)
	}
	if _, e := ditto.Put(&d, &m, block(71), 6, 7); e != api.OK {
		t.Fatal(e)
	}
	nowDisk, nowTable := whole(snapDisk, snapTable)
	if !sameDisk(nowDisk, wasDisk) || !sameTable(nowTable, wasTable) {
		t.Error("a copy is changed")
	}
	if b, n, e := ditto.Get(&snapDisk, &snapTable, p); b != block(70) || n != 1 || e != api.OK || !sameTable(snapTable, api.Remap{Gen: 1, Pairs: paired(2, 8)}) {
		t.Error(n, e, snapTable)
	}
}

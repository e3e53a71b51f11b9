package geom_test

import (
	"math"
	"math/rand"
	"testing"

	"lazaret/api"
	"lazaret/geom"
	"lazaret/remap"
	"lazaret/space"
)

// The chapter's example.
func TestExample(t *testing.T) {
	g := layout(t, 4)
	if g.Size != 128 || g.Half != 156 || g.Sectors != 332 {
		t.Errorf("%+v", g)
	}
	if n, e := geom.RootAt(g, 3, 1); n != 159 || e != api.OK {
		t.Error("root", n, e)
	}
	if n, e := geom.LogAt(g, 0, 0); n != 4 || e != api.OK {
		t.Error("log", n, e)
	}
	if n, e := geom.RegionAt(g, 1); n != 184 || e != api.OK {
		t.Error("region", n, e)
	}
}

// Layouts written out: the smallest ones and the greatest.
func TestLayouts(t *testing.T) {
	for q, want := range map[int]api.Geom{
		4:   {Sectors: 332, Half: 156, Root: 2, Log: 4, Region: 28, Size: 128},
		5:   {Sectors: 336, Half: 158, Root: 2, Log: 4, Region: 28, Size: 130},
		40:  {Sectors: 476, Half: 228, Root: 2, Log: 4, Region: 28, Size: 200},
		899: {Sectors: 3912, Half: 1946, Root: 2, Log: 4, Region: 28, Size: 1918},
		900: {Sectors: 3916, Half: 1948, Root: 2, Log: 4, Region: 28, Size: 1920},
	} {
		if g := layout(t, q); g != want {
			t.Errorf("for quota %d: %+v, not %+v", q, g, want)
		}
		if g, e := geom.ForSectors(want.Sectors); g != want || e != api.OK {
			t.Errorf("for %d sectors: %+v %v, not %+v", want.Sectors, g, e, want)
		}
		if n := geom.Quota(want); n != q {
			t.Errorf("quota of %+v: %d, not %d", want, n, q)
		}
	}
}

func checkQuota(t *testing.T, m model, q int) {
	t.Helper()
	want, ok := m.byQuota[q]
	code := api.ErrArg
	if ok {
		code = api.OK
	}
	if g, e := geom.ForQuota(q); g != want || e != code {
		t.Errorf("for quota %d: %+v %v, not %+v %v", q, g, e, want, code)
	}
}

func TestForQuota(t *testing.T) {
	m := newModel()
	for q := -5000; q <= 5000; q++ {
		checkQuota(t, m, q)
	}
	for _, q := range extremes() {
		checkQuota(t, m, q)
	}
	for _, q := range []int{3, 901} {
		if g, e := geom.ForQuota(q); g != (api.Geom{}) || e != api.ErrArg {
			t.Errorf("for quota %d: %+v %v", q, g, e)
		}
	}
}

func checkSectors(t *testing.T, m model, n int) {
	t.Helper()
	want, ok := m.bySectors[n]
	code := api.ErrArg
	if ok {
		code = api.OK
	}
	if g, e := geom.ForSectors(n); g != want || e != code {
		t.Errorf("for %d sectors: %+v %v, not %+v %v", n, g, e, want, code)
	}
}

func TestForSectors(t *testing.T) {
	m := newModel()
	for n := -5000; n <= 10000; n++ {
		checkSectors(t, m, n)
	}
	for _, n := range extremes() {
		checkSectors(t, m, n)
	}
	for _, n := range []int{0, 20, 28, 316, 328, 331, 333, 334, 335, 337, 3915, 3917, 3918, 3920, 4096} {
		if g, e := geom.ForSectors(n); g != (api.Geom{}) || e != api.ErrArg {
			t.Errorf("for %d sectors: %+v %v", n, g, e)
		}
	}
}

func TestQuota(t *testing.T) {
	m := newModel()
	for g, q := range m.quota {
		if n := geom.Quota(g); n != q {
			t.Errorf("quota of %+v: %d, not %d", g, n, q)
		}
	}
	for _, g := range wrong(m) {
		if n := geom.Quota(g); n != 0 {
			t.Errorf("quota of %+v: %d", g, n)
		}
	}
}

// All layouts that are close to right ones, and many that chance makes of the numbers of right ones.
func TestQuotaNearby(t *testing.T) {
	m := newModel()
	check := func(g api.Geom) {
		if n := geom.Quota(g); n != m.quota[g] {
			t.Errorf("quota of %+v: %d, not %d", g, n, m.quota[g])
		}
	}
	around := []int{-4, -2, -1, 0, 1, 2, 4}
	for _, q := range []int{4, 5, 900} {
		for _, sectors := range around {
			for _, half := range around {
				for _, size := range around {
					for i := range 27 {
						g := m.byQuota[q]
						g.Sectors, g.Half, g.Size = g.Sectors+sectors, g.Half+half, g.Size+size
						g.Root, g.Log, g.Region = g.Root+i%3-1, g.Log+i/3%3-1, g.Region+i/9-1
						check(g)
					}
				}
			}
		}
	}
	r := rand.New(rand.NewSource(8))
	for range 20000 {
		var g api.Geom
		for i, f := range fields(&g) {
			other := m.byQuota[4+r.Intn(3)]
			*f = *fields(&other)[i]
		}
		check(g)
	}
}

// What is no layout has no sectors: ErrArg, or nothing, and all numbers are 0, wherever the other arguments lead to.
func TestNoLayout(t *testing.T) {
	for _, g := range wrong(newModel()) {
		for _, half := range []int{0, 1, 2, -1} {
			for _, i := range []int{0, 1, 23, -1, math.MaxInt} {
				if n, e := geom.RootAt(g, i, half); n != 0 || e != api.ErrArg {
					t.Errorf("root %d, %d of %+v: %d %v", i, half, g, n, e)
				}
				if n, e := geom.LogAt(g, i, half); n != 0 || e != api.ErrArg {
					t.Errorf("log %d, %d of %+v: %d %v", i, half, g, n, e)
				}
			}
			if n, e := geom.RegionAt(g, half); n != 0 || e != api.ErrArg {
				t.Errorf("region %d of %+v: %d %v", half, g, n, e)
			}
		}
		for _, at := range []int{0, 1, 2, 4, 28, 155, 156, 331, 332, -1, g.Half, g.Sectors - 1, g.Sectors, math.MaxInt, math.MinInt} {
			if kind, half, i := geom.What(g, at); kind != 0 || half != 0 || i != 0 {
				t.Errorf("what in %d of %+v: %d %d %d", at, g, kind, half, i)
			}
		}
	}
}

// notHalves: numbers of halves that no layout has.
func notHalves() []int { return append(extremes(), 2, 3, -1, -2) }

func TestRootAt(t *testing.T) {
	for _, q := range quotas() {
		g := layout(t, q)
		for gen, place := range map[int]int{0: 2, 1: 3, 2: 2, 3: 3, 4: 2, 1 << 62: 2, 1<<62 + 1: 3, math.MaxInt - 1: 2, math.MaxInt: 3, math.MaxInt32: 3, 1 << 32: 2} {
			for half := range 2 {
				if n, e := geom.RootAt(g, gen, half); n != place+half*g.Half || e != api.OK {
					t.Errorf("quota %d, root %d, %d: %d %v", q, gen, half, n, e)
				}
			}
			for _, half := range notHalves() {
				if n, e := geom.RootAt(g, gen, half); n != 0 || e != api.ErrArg {
					t.Errorf("quota %d, root %d, %d: %d %v", q, gen, half, n, e)
				}
			}
		}
		for _, gen := range extremes() {
			for _, half := range []int{0, 1, 2, -1} {
				if n, e := geom.RootAt(g, gen, half); gen < 0 && (n != 0 || e != api.ErrArg) {
					t.Errorf("quota %d, root %d, %d: %d %v", q, gen, half, n, e)
				}
			}
		}
	}
}

func TestLogAt(t *testing.T) {
	for _, q := range quotas() {
		g := layout(t, q)
		for i := range 24 {
			for half := range 2 {
				if n, e := geom.LogAt(g, i, half); n != 4+i+half*g.Half || e != api.OK {
					t.Errorf("quota %d, log %d, %d: %d %v", q, i, half, n, e)
				}
			}
			for _, half := range notHalves() {
				if n, e := geom.LogAt(g, i, half); n != 0 || e != api.ErrArg {
					t.Errorf("quota %d, log %d, %d: %d %v", q, i, half, n, e)
				}
			}
		}
		for _, i := range append(extremes(), 24, 25, 28, -1) {
			for _, half := range []int{0, 1, 2, -1} {
				if n, e := geom.LogAt(g, i, half); n != 0 || e != api.ErrArg {
					t.Errorf("quota %d, log %d, %d: %d %v", q, i, half, n, e)
				}
			}
		}
	}
}

func TestRegionAt(t *testing.T) {
	for _, q := range quotas() {
		g := layout(t, q)
		for half := range 2 {
			if n, e := geom.RegionAt(g, half); n != 28+half*g.Half || e != api.OK {
				t.Errorf("quota %d, region %d: %d %v", q, half, n, e)
			}
		}
		for _, half := range notHalves() {
			if n, e := geom.RegionAt(g, half); n != 0 || e != api.ErrArg {
				t.Errorf("quota %d, region %d: %d %v", q, half, n, e)
			}
		}
	}
}

// The first and the last sector of each kind in each half, written out, and sectors that the layout doesn't have.
func TestWhatEdges(t *testing.T) {
	for q, edges := range map[int]map[int]thing{
		4: {
			0: {1, 0, 0}, 1: {1, 0, 1}, 2: {2, 0, 0}, 3: {2, 0, 1}, 4: {3, 0, 0}, 5: {3, 0, 1}, 26: {3, 0, 22}, 27: {3, 0, 23}, 28: {4, 0, 0}, 29: {4, 0, 1}, 154: {4, 0, 126}, 155: {4, 0, 127},
			156: {1, 1, 0}, 157: {1, 1, 1}, 158: {2, 1, 0}, 159: {2, 1, 1}, 160: {3, 1, 0}, 161: {3, 1, 1}, 182: {3, 1, 22}, 183: {3, 1, 23}, 184: {4, 1, 0}, 185: {4, 1, 1}, 310: {4, 1, 126}, 311: {4, 1, 127},
			312: {5, 0, 0}, 313: {5, 0, 1}, 330: {5, 0, 18}, 331: {5, 0, 19}, 332: {}, 333: {}, 3915: {}, 4096: {}, -1: {}, -2: {}, -156: {},
		},
		900: {
			0: {1, 0, 0}, 1: {1, 0, 1}, 2: {2, 0, 0}, 3: {2, 0, 1}, 4: {3, 0, 0}, 27: {3, 0, 23}, 28: {4, 0, 0}, 1947: {4, 0, 1919},
			1948: {1, 1, 0}, 1949: {1, 1, 1}, 1950: {2, 1, 0}, 1951: {2, 1, 1}, 1952: {3, 1, 0}, 1975: {3, 1, 23}, 1976: {4, 1, 0}, 3895: {4, 1, 1919},
			3896: {5, 0, 0}, 3915: {5, 0, 19}, 3916: {}, 3917: {}, 4095: {}, 4096: {}, -1: {}, -1948: {},
		},
	} {
		g := layout(t, q)
		for at, want := range edges {
			if kind, half, i := geom.What(g, at); (thing{kind, half, i}) != want {
				t.Errorf("quota %d, what in %d: %d %d %d, not %v", q, at, kind, half, i, want)
			}
		}
		for _, at := range extremes() {
			if kind, half, i := geom.What(g, at); (at < 0 || at >= g.Sectors) && (kind != 0 || half != 0 || i != 0) {
				t.Errorf("quota %d, what in %d: %d %d %d", q, at, kind, half, i)
			}
		}
	}
}

// Each sector of each layout is of one kind, half and number, and no two are of the same ones.
func TestEachOnce(t *testing.T) {
	for q := range newModel().byQuota {
		g := layout(t, q)
		want := things(g)
		if len(want) != g.Sectors {
			t.Fatalf("quota %d: %d sectors, not %d", q, g.Sectors, len(want))
		}
		met := map[thing]int{}
		for at, x := range want {
			kind, half, i := geom.What(g, at)
			got := thing{kind, half, i}
			if got != x {
				t.Fatalf("quota %d, what in %d: %v, not %v", q, at, got, x)
			}
			if other, ok := met[got]; ok {
				t.Fatalf("quota %d: %d and %d are both %v", q, other, at, got)
			}
			met[got] = at
		}
	}
}

// Where roots, journals and regions are told to stand they do, and nowhere else.
func TestWhereTold(t *testing.T) {
	for _, q := range quotas() {
		g := layout(t, q)
		told := map[int]thing{}
		tell := func(x thing) func(int, api.Errno) {
			return func(at int, e api.Errno) {
				t.Helper()
				kind, half, i := geom.What(g, at)
				if (thing{kind, half, i}) != x || e != api.OK {
					t.Errorf("quota %d: %v is told to stand in %d, %v; there is %d %d %d", q, x, at, e, kind, half, i)
				}
				told[at] = x
			}
		}
		for half := range 2 {
			for gen := range 2 {
				tell(thing{2, half, gen})(geom.RootAt(g, gen, half))
				tell(thing{2, half, gen})(geom.RootAt(g, gen+2, half))
			}
			for i := range 24 {
				tell(thing{3, half, i})(geom.LogAt(g, i, half))
			}
			first, e := geom.RegionAt(g, half)
			for i := range g.Size {
				tell(thing{4, half, i})(first+i, e)
			}
		}
		for at := range g.Sectors {
			kind, half, i := geom.What(g, at)
			if _, ok := told[at]; ok != (kind >= 2 && kind <= 4) {
				t.Errorf("quota %d, %d: %d %d %d, told: %v", q, at, kind, half, i, ok)
			}
		}
	}
}

// The layers below find what is theirs where the layout has it: tables and spare sectors of a disk of so many sectors, and two regions.
func TestLayersBelow(t *testing.T) {
	for q := range newModel().byQuota {
		g := layout(t, q)
		if h := remap.Half(g.Sectors); h != g.Half {
			t.Errorf("quota %d: half %d, of the disk %d", q, g.Half, h)
		}
		for at := range g.Sectors {
			kind, _, _ := geom.What(g, at)
			from := remap.Right(api.Remap{Pairs: []api.Pair{{From: at, To: g.Sectors - 1}}}, g.Sectors)
			to := remap.Right(api.Remap{Pairs: []api.Pair{{From: 2, To: at}}}, g.Sectors)
			if from != (kind >= 2 && kind <= 4) || to != (kind == 5) {
				t.Fatalf("quota %d, %d: kind %d, replaced %v, spare %v", q, at, kind, from, to)
			}
		}
		a, first := geom.RegionAt(g, 0)
		b, second := geom.RegionAt(g, 1)
		if _, e := space.New(a, b, g.Size); first != api.OK || second != api.OK || e != api.OK {
			t.Errorf("quota %d: no space of %d, %d, %d: %v", q, a, b, g.Size, e)
		}
	}
}

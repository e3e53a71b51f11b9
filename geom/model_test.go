package geom_test

import (
	"math"
	"testing"

	"lazaret/api"
	"lazaret/geom"
)

// What the calls must answer, told by the chapter's words, and layouts that are none.

// thing: what stands in a sector.
type thing struct{ kind, half, i int }

// model: all layouts there are.
type model struct {
	byQuota   map[int]api.Geom
	bySectors map[int]api.Geom
	quota     map[api.Geom]int
}

func newModel() model {
	m := model{map[int]api.Geom{}, map[int]api.Geom{}, map[api.Geom]int{}}
	for q := 4; q <= 900; q++ {
		size := q + q + 120
		half := 28 + size
		g := api.Geom{Sectors: half + half + 20, Half: half, Root: 2, Log: 4, Region: 28, Size: size}
		m.byQuota[q], m.bySectors[g.Sectors], m.quota[g] = g, g, q
	}
	return m
}

// things: what stands in each sector of a layout, laid one behind the other.
func things(g api.Geom) []thing {
	var l []thing
	lay := func(kind, half, many int) {
		for i := range many {
			l = append(l, thing{kind, half, i})
		}
	}
	for half := range 2 {
		lay(1, half, 2)
		lay(2, half, 2)
		lay(3, half, 24)
		lay(4, half, g.Size)
	}
	lay(5, 0, 20)
	return l
}

// layout: the one for a quota, as the program tells it.
func layout(t *testing.T, q int) api.Geom {
	t.Helper()
	g, e := geom.ForQuota(q)
	if e != api.OK {
		t.Fatal(q, e)
	}
	return g
}

// quotas: some, the smallest and the greatest among them.
func quotas() []int { return []int{4, 5, 6, 7, 63, 64, 100, 450, 899, 900} }

// extremes: numbers near the ends of their type, with which a sum could run over, or that look like another one in fewer bytes.
func extremes() []int {
	var l []int
	for _, x := range []int{math.MinInt, math.MinInt / 2, math.MinInt32, -1 << 32, math.MaxInt/2 + 1, 1 << 32, 1 << 31, 1 << 16} {
		for _, y := range []int{0, 1, 2, 3, 4, 5, 20, 24, 28, 128, 156, 184, 316, 332, 336, 900, 1920, 1948, 3916, 3920} {
			l = append(l, x+y)
			if x > math.MinInt {
				l = append(l, x-y)
			}
		}
	}
	for y := range 400 {
		l = append(l, math.MaxInt-y)
	}
	return append(l, -1, -2, -3, -4, -20, -128, -156, -316, -332, -3916)
}

// fields: all of a layout's numbers, by what leads to them.
func fields(g *api.Geom) []*int {
	return []*int{&g.Sectors, &g.Half, &g.Root, &g.Log, &g.Region, &g.Size}
}

// wrong: layouts of which one number or several are other ones.
func wrong(m model) []api.Geom {
	l := []api.Geom{{}, {Sectors: 5}, {Sectors: 332}, {Sectors: 20}, {Size: 120}, {Size: 128}, {Half: 28}, {Half: 1}, {Sectors: 316, Half: 148, Root: 2, Log: 4, Region: 28, Size: 120}}
	for _, q := range []int{3, 2, 1, 0, -1, -60, 901, 902, 1000, math.MaxInt / 8, math.MinInt / 8} {
		l = append(l, api.Geom{Sectors: 4*q + 316, Half: 2*q + 148, Root: 2, Log: 4, Region: 28, Size: 2*q + 120})
	}
	for _, q := range quotas() {
		g := m.byQuota[q]
		for f, of := range fields(&g) {
			others := append(extremes(), 0, *of-4, *of-2, *of-1, *of+1, *of+2, *of+4, -*of, 2**of)
			for _, p := range quotas() {
				other := m.byQuota[p]
				others = append(others, *fields(&other)[f])
			}
			for _, x := range others {
				w := g
				*fields(&w)[f] = x
				l = append(l, w)
			}
		}
		for _, x := range extremes() {
			l = append(l, api.Geom{Sectors: x, Half: x, Root: x, Log: x, Region: x, Size: x}, api.Geom{Sectors: g.Sectors + x, Half: g.Half + x, Root: g.Root, Log: g.Log, Region: g.Region, Size: g.Size + x})
		}
	}
	var none []api.Geom
	for _, g := range l {
		if _, ok := m.quota[g]; !ok {
			none = append(none, g)
		}
	}
	return none
}

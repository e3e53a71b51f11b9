package remap_test

import (
	"encoding/hex"
	"slices"
	"strings"
	"testing"

	"lazaret/api"
	"lazaret/remap"
)

func TestHalf(t *testing.T) {
	for _, x := range []struct{ sectors, h int }{
		{-28, 0}, {-1, 0}, {0, 0}, {1, 0}, {20, 0}, {22, 0}, {26, 0}, {27, 0}, {28, 4}, {29, 0}, {30, 5}, {31, 0}, {32, 6}, {332, 156}, {4094, 2037}, {4095, 0}, {4096, 2038}, {4097, 0}, {4098, 0}, {8192, 0},
	} {
		if h := remap.Half(x.sectors); h != x.h {
			t.Errorf("%d sectors: %d, not %d", x.sectors, h, x.h)
		}
	}
	for sectors := -100; sectors < 5000; sectors++ {
		if h := remap.Half(sectors); h != halfOf(sectors) {
			t.Errorf("%d sectors: %d", sectors, h)
		}
	}
	for _, sectors := range extremes() {
		if h := remap.Half(sectors); h != 0 {
			t.Errorf("%d sectors: %d", sectors, h)
		}
	}
}

// many: the first n pairs that may stand together on a disk of 48 sectors, the last sectors first.
func many(n int) []api.Pair {
	const h = 14
	var l []api.Pair
	for from := 2*h - 1; from >= 0 && len(l) < n; from-- {
		if from%h > 1 {
			l = append(l, api.Pair{From: from, To: 2*h + len(l)})
		}
	}
	return l
}

// sized: a table, and the sectors of a disk.
type sized struct {
	m       api.Remap
	sectors int
}

// rightOnes: tables that are right, at the edges of all that may stand there.
func rightOnes() []sized {
	list := []sized{
		{api.Remap{Pairs: []api.Pair{}}, 28},
		{api.Remap{Gen: 1, Pairs: paired(2, 8)}, 28},
		{api.Remap{Gen: 7, Pairs: paired(3, 27, 2, 8, 7, 20, 6, 26)}, 28},
		{api.Remap{Gen: 4, Pairs: paired(2, 10, 4, 11, 7, 29, 9, 12)}, 30},
		{api.Remap{Gen: 1<<62 - 1, Pairs: paired(4075, 4095, 2, 4076, 2037, 4077, 2040, 4078, 300, 4094)}, 4096},
		{api.Remap{Gen: 255, Pairs: many(1)}, 48},
		{api.Remap{Gen: 256, Pairs: many(2)}, 48},
		{api.Remap{Gen: 1 << 40, Pairs: many(19)}, 48},
		{api.Remap{Gen: 1 << 62, Pairs: many(20)}, 48},
	}
	for _, gen := range []int{0, 1, 2, 255, 256, 1<<32 - 1, 1 << 32, 1<<62 - 1, 1 << 62} {
		for _, sectors := range []int{28, 30, 4094, 4096} {
			list = append(list, sized{api.Remap{Gen: gen}, sectors}, sized{api.Remap{Gen: gen, Pairs: paired(3, sectors-1, 2, sectors-20)}, sectors})
		}
	}
	return list
}

// wrongOnes: tables that aren't right, for one reason each.
func wrongOnes() []sized {
	var list []sized
	for _, sectors := range append([]int{0, 1, 20, 26, 27, 29, 31, 4095, 4097, 4098}, extremes()...) {
		list = append(list, sized{api.Remap{}, sectors}, sized{api.Remap{Gen: 1, Pairs: paired(2, sectors-1)}, sectors})
	}
	for _, gen := range []int{-1, -2, -1 << 62, -1 << 63, 1<<62 + 1, 1<<62 + 2, 1<<63 - 1} {
		list = append(list, sized{api.Remap{Gen: gen}, 28}, sized{api.Remap{Gen: gen, Pairs: paired(2, 8)}, 28})
	}
	for _, from := range append([]int{0, 1, 4, 5, -1, 8, 9, 10, 11, 26, 27, 28, 30}, extremes()...) {
		list = append(list, wrong(api.Pair{From: from, To: 8})...)
	}
	for _, to := range append([]int{0, 1, 2, 3, 6, 7, 28, 29, -1}, extremes()...) {
		list = append(list, wrong(api.Pair{From: 2, To: to})...)
	}
	return append(list,
		sized{api.Remap{Pairs: paired(2, 8, 2, 9)}, 28},
		sized{api.Remap{Pairs: paired(2, 8, 2, 8)}, 28},
		sized{api.Remap{Pairs: paired(2, 8, 3, 9, 2, 10)}, 28},
		sized{api.Remap{Pairs: paired(2, 8, 3, 8)}, 28},
		sized{api.Remap{Pairs: paired(2, 8, 3, 9, 6, 8)}, 28},
		sized{api.Remap{Pairs: paired(5, 10)}, 30},
		sized{api.Remap{Pairs: paired(6, 10)}, 30},
		sized{api.Remap{Pairs: paired(2038, 4076)}, 4096},
		sized{api.Remap{Pairs: paired(2039, 4076)}, 4096},
		sized{api.Remap{Pairs: paired(4076, 4076)}, 4096},
		sized{api.Remap{Pairs: paired(4075, 4075)}, 4096},
		sized{api.Remap{Pairs: many(21)}, 48},
		sized{api.Remap{Pairs: slices.Concat(many(20), paired(2, 47))}, 48},
		sized{api.Remap{Pairs: slices.Concat(many(20), paired(2, 48))}, 48},
		sized{api.Remap{Pairs: make([]api.Pair, 100000)}, 48},
	)
}

// wrong: the pair, for a disk of 28 sectors, alone and between others.
func wrong(p api.Pair) []sized {
	var list []sized
	for _, l := range [][]api.Pair{
		{p},
		paired(7, 27, p.From, p.To),
		paired(p.From, p.To, 7, 27),
		paired(7, 27, p.From, p.To, 6, 26),
	} {
		list = append(list, sized{api.Remap{Gen: 3, Pairs: l}, 28})
	}
	return list
}

func TestRightTables(t *testing.T) {
	for _, x := range rightOnes() {
		if !isRight(x.m, x.sectors) || !remap.Right(x.m, x.sectors) {
			t.Errorf("%v isn't right for %d sectors", x.m, x.sectors)
		}
		b, e := remap.Put(x.m, x.sectors)
		if e != api.OK || b != bytesOf(x.m) {
			t.Errorf("%v for %d sectors: %v %x, not %x", x.m, x.sectors, e, b, bytesOf(x.m))
		}
		if m, e := remap.Take(b, x.sectors); e != api.OK || !sameTable(m, x.m) {
			t.Errorf("%v for %d sectors is taken as %v %v", x.m, x.sectors, m, e)
		}
	}
}

func TestWrongTables(t *testing.T) {
	for _, x := range wrongOnes() {
		if isRight(x.m, x.sectors) || remap.Right(x.m, x.sectors) {
			t.Errorf("%v is right for %d sectors", x.m, x.sectors)
		}
		if b, e := remap.Put(x.m, x.sectors); e != api.ErrArg || b != (api.Block{}) {
			t.Errorf("%v for %d sectors: %v %x", x.m, x.sectors, e, b)
		}
	}
}

// The bytes of some tables, byte by byte.
func TestBytes(t *testing.T) {
	for _, x := range []struct {
		sized
		bytes, sum string
	}{
		{sized{api.Remap{}, 28},
			"6d0000000000000000" + "00",
			"df417d749091cbbf4b8e79b170c8bc58d19567b123c689b84f27bbad837d41bf"},
		{sized{api.Remap{Gen: 1, Pairs: paired(2, 8)}, 28},
			"6d0100000000000000" + "01" + "02000800",
			"698d3889d9e4aa131bd53b4cc708f023562d9c80b180da8721fefcef3f36ea0b"},
		{sized{api.Remap{Gen: 0x3102030405060708, Pairs: paired(4075, 4095, 2, 4076)}, 4096},
			"6d0807060504030231" + "02" + "eb0fff0f" + "0200ec0f",
			"e08bc258b0e1d7e0c5f9649cba2cbecdf313b2d7e54fbc604605daf5d4a83241"},
		{sized{api.Remap{Gen: 1 << 62}, 30},
			"6d0000000000000040" + "00",
			"5f05e7190d99bd39ab8ee17df7d94e512c3b2c9dfe467231de734542269c86a2"},
	} {
		want := x.bytes + strings.Repeat("0", 192-len(x.bytes)) + x.sum
		b, e := remap.Put(x.m, x.sectors)
		if got := hex.EncodeToString(b[:]); e != api.OK || got != want {
			t.Errorf("%v: %v %s, not %s", x.m, e, got, want)
		}
	}
}

// refused: what Take must refuse.
func refused(t *testing.T, what string, b api.Block, sectors int) {
	t.Helper()
	if m, e := remap.Take(b, sectors); e != api.ErrForm || !sameTable(m, api.Remap{}) {
		t.Errorf("%s: %v %v", what, m, e)
	}
}

// Of a right table's bytes no byte may be another one.
func TestEachByteIsSeen(t *testing.T) {
	for _, x := range []sized{{api.Remap{}, 28}, {api.Remap{Gen: 1, Pairs: paired(2, 8)}, 28}, {api.Remap{Gen: 1 << 62, Pairs: many(20)}, 48}} {
		for place := range api.SectorSize {
			for by := 1; by < 256; by++ {
				b := bytesOf(x.m)
				b[place] ^= byte(by)
				if m, e := remap.Take(b, x.sectors); e != api.ErrForm || !sameTable(m, api.Remap{}) {
					t.Fatalf("%v, byte %d by %d: %v %v", x.m, place, by, m, e)
				}
			}
		}
	}
}

// fits: can the table's numbers stand in a block's first 96 bytes? (There is room for 21 pairs.)
func fits(m api.Remap) bool {
	wide := func(p api.Pair) bool { return p.From>>16 != 0 || p.To>>16 != 0 }
	return len(m.Pairs) <= 21 && !slices.ContainsFunc(m.Pairs, wide)
}

// A sum that is right says nothing of what it is the sum of.
func TestRightSumsOverWrongBytes(t *testing.T) {
	refused(t, "zeros", api.Block{}, 28)
	refused(t, "zeros with their sum", summed(api.Block{}), 28)
	for _, x := range wrongOnes() {
		if fits(x.m) {
			refused(t, "a wrong table", bytesOf(x.m), x.sectors)
		}
	}
	for _, gen := range []uint64{1<<62 + 1, 1<<63 - 1, 1 << 63, 1<<63 + 1, 1<<64 - 1} {
		refused(t, "a number", bytesOf(api.Remap{Gen: int(gen)}), 28)
	}
	for by := 1; by < 256; by++ {
		b := bytesOf(api.Remap{Gen: 1, Pairs: paired(2, 8)})
		b[0] ^= byte(by)
		refused(t, "another first byte", summed(b), 28)
	}
	for place := 14; place < 96; place++ {
		b := bytesOf(api.Remap{Gen: 1, Pairs: paired(2, 8)})
		b[place] = 1
		refused(t, "a byte behind the pairs that isn't 0", summed(b), 28)
	}
	full := bytesOf(api.Remap{Gen: 1, Pairs: many(20)})
	for place := 90; place < 96; place++ {
		b := full
		b[place] = 1
		refused(t, "a byte behind 20 pairs that isn't 0", summed(b), 48)
	}
	for count := range 256 {
		b := full
		b[9] = byte(count)
		if count != 20 {
			refused(t, "another count of pairs", summed(b), 48)
		}
		b = bytesOf(api.Remap{})
		b[9] = byte(count)
		if count != 0 {
			refused(t, "a count of pairs that aren't there", summed(b), 48)
		}
	}
}

// A table of one disk isn't right for any other one.
func TestTablesOfOtherDisks(t *testing.T) {
	b := bytesOf(api.Remap{Gen: 3, Pairs: paired(2, 10, 4, 11)})
	if m, e := remap.Take(b, 30); e != api.OK || m.Gen != 3 {
		t.Error(m, e)
	}
	for _, sectors := range append([]int{0, 27, 28, 29, 31, 32, 4095, 4096, 4097}, extremes()...) {
		refused(t, "a table of another disk", b, sectors)
	}
	for _, sectors := range append([]int{0, 1, 26, 27, 29, 4097}, extremes()...) {
		refused(t, "a table without pairs, and no disk with halves", bytesOf(api.Remap{}), sectors)
	}
}

func TestAt(t *testing.T) {
	m := api.Remap{Gen: -5, Pairs: paired(2, 8, 3, 9, 2, 10, 8, 11, -1, 4, 1<<62, -7, 3, 9, 5, 5)}
	for _, x := range []struct{ n, at int }{{2, 8}, {3, 9}, {8, 11}, {-1, 4}, {1 << 62, -7}, {5, 5}, {0, 0}, {9, 9}, {10, 10}, {-2, -2}, {4, 4}} {
		if at := remap.At(m, x.n); at != x.at {
			t.Errorf("sector of %d: %d, not %d", x.n, at, x.at)
		}
	}
	for _, n := range append([]int{0, 1, 2, 27}, extremes()...) {
		if at := remap.At(api.Remap{}, n); at != n {
			t.Errorf("sector of %d, without pairs: %d", n, at)
		}
		if at := remap.At(m, n); at != sectorOf(m, n) {
			t.Errorf("sector of %d: %d", n, at)
		}
	}
	for _, x := range rightOnes() {
		for _, p := range x.m.Pairs {
			if at := remap.At(x.m, p.From); at != p.To {
				t.Errorf("%v: sector of %d: %d", x.m, p.From, at)
			}
			if at := remap.At(x.m, p.To); at != p.To {
				t.Errorf("%v: sector of %d: %d", x.m, p.To, at)
			}
		}
	}
}

// What is handed in stays, with the room behind it, and what is taken is new memory.
func TestTablesShareNothing(t *testing.T) {
	for _, x := range append(rightOnes(), wrongOnes()...) {
		_, m := roomy(api.Disk{}, x.m)
		_, was := whole(api.Disk{}, m)
		remap.Right(m, x.sectors)
		b, e := remap.Put(m, x.sectors)
		remap.At(m, 2)
		if _, now := whole(api.Disk{}, m); !sameTable(now, was) {
			t.Errorf("%v is %v now", was, now)
		}
		if e != api.OK {
			continue
		}
		first, _ := remap.Take(b, x.sectors)
		second, _ := remap.Take(b, x.sectors)
		spoil(first.Pairs)
		if !sameTable(second, x.m) {
			t.Errorf("%v: two that were taken share their pairs", x.m)
		}
	}
}

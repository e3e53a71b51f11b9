package ditto_test

import (
	"math/rand"
	"slices"
	"testing"

	"lazaret/api"
	"lazaret/disk"
	"lazaret/ditto"
	"lazaret/remap"
)

// readAgain: the block is got; behind a Look both copies are good, and tell so; all of that lasts behind a crash.
func readAgain(t *testing.T, d *api.Disk, m *api.Remap, p api.Ptr, want api.Block) {
	t.Helper()
	if b, _, e := ditto.Get(d, m, p); b != want || e != api.OK {
		t.Fatalf("%d, %d: %x.. %v, not %x..", p.A, p.B, b[:2], e, want[:2])
	}
	if r, e := ditto.Look(d, m, p); r.Seen != 2 || r.Bad != r.Healed || e != api.OK {
		t.Fatalf("%d, %d: %v %v", p.A, p.B, r, e)
	}
	flush(t, d)
	disk.Crash(d)
	loaded, e := remap.Load(d)
	if e != api.OK || !sameTable(loaded, *m) {
		t.Fatalf("%v %v is loaded, not %v", loaded, e, *m)
	}
	if r, e := ditto.Look(d, m, p); !sameReport(r, api.Report{Seen: 2}) || e != api.OK {
		t.Fatalf("%d, %d: %v %v", p.A, p.B, r, e)
	}
	for _, at := range []int{p.A, p.B} {
		if !goodAt(d, loaded, at, want) {
			t.Fatalf("sector %d of %d, %d isn't well", at, p.A, p.B)
		}
	}
}

// Each byte of each copy is another one: the other copy is told, and the bad one made well.
func TestEachByte(t *testing.T) {
	for _, b := range []api.Block{block(70), {}} {
		good, table := fresh(t, 28)
		p, e := ditto.Put(&good, &table, b, 3, 7)
		if e != api.OK {
			t.Fatal(e)
		}
		flush(t, &good)
		for _, at := range []int{3, 7} {
			for place := range 128 {
				d, m := good, table
				if e := disk.Hit(&d, at, 1, place, 1<<(place%8)); e != api.OK {
					t.Fatal(e)
				}
				got, n, e := ditto.Get(&d, &m, p)
				if got != b || e != api.OK || (n == 1) != (at == 3) {
					t.Fatalf("byte %d of %d: %x.. %d %v", place, at, got[:2], n, e)
				}
				readAgain(t, &d, &m, p, b)
			}
		}
	}
}

// Whichever one of two copies was hit, and in whatever way, flushed or not.
func TestEitherCopy(t *testing.T) {
	for _, sectors := range []int{28, 30, 46, 4096} {
		h := (sectors - 20) / 2
		for _, sides := range [][2]int{{2, h + 2}, {h + 2, 2}, {h - 1, 2*h - 1}, {2*h - 1, 2}, {2, 3}} {
			for how := range 8 {
				for side, at := range sides {
					d, m, p := laid(t, sectors, sides[0], sides[1])
					hit(t, &d, how, at)
					wasBad := how&(rotten|unread) != 0
					if _, n, e := ditto.Get(&d, &m, p); e != api.OK || (n == 1) != (wasBad && side == 0) {
						t.Fatalf("%v, hit %d at %d: %d %v", sides, how, at, n, e)
					}
					readAgain(t, &d, &m, p, block(70))
					if replaced := wasBad && how&unwrit != 0; (m.Gen == 1) != replaced || (remap.At(m, at) == 2*h) != replaced {
						t.Fatalf("%v, hit %d at %d: %v", sides, how, at, m)
					}
				}
			}
		}
	}
}

// The copy that was hit is put again and again, and each time its sector, then the one that replaced it, fails: as long as there are spare ones it is healed; from then on it is read from the other copy.
func TestTillNoSectorIsLeft(t *testing.T) {
	for _, sides := range [][2]int{{2, 6}, {6, 2}} {
		for _, call := range []string{"get", "look"} {
			d, m, p := laid(t, 28, sides[0], sides[1])
			bad := p.A
			if call == "look" {
				bad = p.B
			}
			for i := range 24 {
				hit(t, &d, rotten|unread|unwrit, remap.At(m, bad))
				healed, wantTable := 1, api.Remap{Gen: i + 1, Pairs: paired(bad, 8+i)}
				if i >= 20 {
					healed, wantTable = 0, api.Remap{Gen: 20, Pairs: paired(bad, 27)}
				}
				if call == "get" {
					b, n, e := ditto.Get(&d, &m, p)
					if b != block(70) || n != healed || e != api.OK {
						t.Fatal(i, n, e)
					}
				} else if r, e := ditto.Look(&d, &m, p); e != api.OK || !sameReport(r, api.Report{Seen: 2, Bad: 1, Healed: healed}) {
					t.Fatal(i, r, e)
				}
				if !sameTable(m, wantTable) {
					t.Fatal(i, m)
				}
			}
			if b, n, e := ditto.Get(&d, &m, p); b != block(70) || n != 0 || e != api.OK {
				t.Error(n, e)
			}
		}
	}
}

// Many blocks, and whatever is hit of one half: all are got, and all their copies good behind it.
func TestOneHalfIsHit(t *testing.T) {
	r := rand.New(rand.NewSource(6))
	for round := range 60 {
		const sectors, h = 72, 26
		d, m := fresh(t, sectors)
		var l []api.Ptr
		for i, k := range r.Perm(h - 2) {
			p, e := ditto.Put(&d, &m, block(1000*round+i), 2+k, h+2+(k*5+round)%(h-2))
			if e != api.OK {
				t.Fatal(e)
			}
			if i%2 == 1 {
				// The second half first.
				if p, e = ditto.Put(&d, &m, block(1000*round+i), p.B, p.A); e != api.OK {
					t.Fatal(e)
				}
			}
			l = append(l, p)
		}
		flush(t, &d)
		failed := 0
		for at := 2; at < h; at++ {
			how := r.Intn(8)
			if how&unwrit != 0 {
				if failed++; failed > 20 {
					how &^= unwrit
				}
			}
			hit(t, &d, how, at+round%2*h)
		}
		for i, p := range l {
			b, _, e := ditto.Get(&d, &m, p)
			if b != block(1000*round+i) || e != api.OK {
				t.Fatalf("round %d, block %d: %x.. %v", round, i, b[:2], e)
			}
		}
		for i, p := range l {
			readAgain(t, &d, &m, p, block(1000*round+i))
		}
	}
}

// Long ways of all that may be done and become, held against the chapter's words.
func TestLongWays(t *testing.T) {
	r := rand.New(rand.NewSource(66))
	for range 60 {
		d, m := fresh(t, 30)
		known := []api.Ptr{{A: -1, B: -1}, {A: 2, B: 3}}
		for range 150 {
			somewhere := func() int { return r.Intn(11) - 1 }
			p := known[r.Intn(len(known))]
			switch r.Intn(9) {
			case 0:
				hit(t, &d, 1+r.Intn(7), r.Intn(30))
			case 1:
				d.Fuse = r.Intn(20) - 3
			case 2:
				disk.Flush(&d)
			case 3:
				if keep := slices.Repeat([]bool{r.Intn(2) == 0, true}, 9); d.Down || r.Intn(9) == 0 {
					disk.Crash(&d, keep...)
				}
				if l, e := remap.Load(&d); e == api.OK {
					m = l
				}
			case 4, 5:
				var x answer
				if d, m, x = check(t, d, m, putting(block(r.Intn(9)), somewhere(), somewhere())); x.code == api.OK {
					known = append(known, x.ptr)
				}
			case 6, 7:
				d, m, _ = check(t, d, m, getting(p))
			case 8:
				d, m, _ = check(t, d, m, looking(p))
			}
		}
	}
}

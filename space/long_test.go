package space_test

import (
	"math/rand"
	"slices"
	"testing"

	"lazaret/api"
	"lazaret/space"
)

// Long ways of calls.

// anySector: of a space, or just beside it.
func anySector(r *rand.Rand, s api.Space) int {
	at := s.At[r.Intn(2)] + r.Intn(s.Size)
	if r.Intn(12) == 0 {
		return s.At[r.Intn(2)] + []int{-1, s.Size}[r.Intn(2)]
	}
	return at
}

func anyPtr(r *rand.Rand, s api.Space) api.Ptr {
	switch r.Intn(12) {
	case 0:
		return hole
	case 1, 2, 3:
		return to(anySector(r, s), -1)
	}
	return to(anySector(r, s), anySector(r, s))
}

func anyCall(r *rand.Rand, s api.Space) call {
	switch r.Intn(16) {
	case 0, 1, 2, 3:
		return taking(1 + r.Intn(2))
	case 4, 5, 6, 7, 8:
		return dropping(anyPtr(r, s))
	case 9, 10:
		return marking(anyPtr(r, s))
	case 11, 12:
		return sweeping()
	case 13:
		return settling()
	case 14:
		return stating(anySector(r, s))
	}
	return []call{using(), rooming(), taking(0), taking(3)}[r.Intn(4)]
}

// P7.1: whatever was done, and what any space on the way had stays as it was till the end.
func TestLongWays(t *testing.T) {
	for seed := range 60 {
		r := rand.New(rand.NewSource(int64(seed)))
		size := 1 + r.Intn(8)
		a := r.Intn(5)
		s := fresh(t, a, a+size+r.Intn(4), size)
		var had, were []api.Space
		for range 400 {
			c := anyCall(r, s)
			old := s
			c.run(&s)
			end, _ := check(t, old, c)
			if !same(s, end) {
				t.Fatalf("seed %d, %s, %s: %s", seed, told(old), c.name, told(s))
			}
			had, were = append(had, s), append(were, copied(s))
		}
		for i := range had {
			if !same(had[i], were[i]) {
				t.Fatalf("seed %d: the space behind call %d is another one", seed, i)
			}
		}
	}
}

// owner: who has a sector: nobody (0), or a taking of that number.
type owner struct {
	who     int
	kept    bool // it stood there at a Settle, or was marked
	dropped bool
}

// owned: who has which sectors, by what was done alone; what it was told holds against what it knows.
type owned struct {
	t  *testing.T
	at map[int]owner
}

// takes: somebody does.
func (o owned) takes(at, who int, kept bool) {
	o.t.Helper()
	if x, ok := o.at[at]; ok {
		o.t.Fatalf("sector %d is taken by %d, but %+v has it", at, who, x)
	}
	o.at[at] = owner{who: who, kept: kept}
}

func (o owned) drops(at int) {
	x := o.at[at]
	x.dropped = true
	o.at[at] = x
}

// frees: those that are dropped; behind a Settle all of these, else those alone that weren't kept. All others are kept behind a Settle.
func (o owned) frees(settle bool) {
	for at, x := range o.at {
		switch {
		case x.dropped && (settle || !x.kept):
			delete(o.at, at)
		case settle:
			x.kept = true
			o.at[at] = x
		}
	}
}

// holds: just those that nobody has are free.
func (o owned) holds(s api.Space) {
	o.t.Helper()
	used := 0
	for _, first := range s.At {
		for at := first; at < first+s.Size; at++ {
			x, had := o.at[at]
			n, e := space.State(s, at)
			if e != api.OK || had == (n == api.Free) {
				o.t.Fatalf("sector %d is %d %v; %+v has it: %v", at, n, e, x, had)
			}
			if had && !x.dropped {
				used++
			}
		}
	}
	if space.Used(s) != used {
		o.t.Fatalf("%d are in use, not %d", space.Used(s), used)
	}
}

// P7.2: a sector that is taken was free, and is nobody else's till it is free again; that it is behind a Sweep, or a Settle, alone.
func TestNeverTwice(t *testing.T) {
	for seed := range 80 {
		r := rand.New(rand.NewSource(int64(seed)))
		size := 1 + r.Intn(10)
		s := fresh(t, 28, 28+size+r.Intn(9), size)
		o := owned{t, map[int]owner{}}
		live := map[int]api.Ptr{}
		for who := 1; who < 500; who++ {
			switch r.Intn(12) {
			case 0, 1, 2, 3, 4:
				a, b, e := space.Take(&s, 1+who%2)
				if e != api.OK {
					break
				}
				live[who] = to(a, b)
				o.takes(a, who, false)
				if who%2 == 1 {
					o.takes(b, who, false)
				}
			case 5, 6, 7, 8:
				o.dropOne(r, &s, live)
			case 9:
				p := to(28+r.Intn(size), s.At[1]+r.Intn(size))
				if space.Mark(&s, p) == api.OK {
					live[who] = p
					o.takes(p.A, who, true)
					o.takes(p.B, who, true)
				}
			case 10:
				if e := space.Sweep(&s); e != api.OK {
					t.Fatal(e)
				}
				o.frees(false)
			case 11:
				if e := space.Settle(&s); e != api.OK {
					t.Fatal(e)
				}
				o.frees(true)
			}
			o.holds(s)
		}
	}
}

// dropOne: one of those that are there is dropped, and isn't a second time.
func (o owned) dropOne(r *rand.Rand, s *api.Space, live map[int]api.Ptr) {
	o.t.Helper()
	if len(live) == 0 {
		return
	}
	var l []int
	for who := range live {
		l = append(l, who)
	}
	slices.Sort(l)
	who := l[r.Intn(len(l))]
	p := live[who]
	delete(live, who)
	if e := space.Drop(s, p); e != api.OK {
		o.t.Fatalf("drop %d, %d: %v", p.A, p.B, e)
	}
	if e := space.Drop(s, p); e != api.ErrArg {
		o.t.Fatalf("drop %d, %d, another time: %v", p.A, p.B, e)
	}
	for _, at := range []int{p.A, p.B} {
		if at != api.None {
			o.drops(at)
		}
	}
}

// What was dropped is free only behind a Sweep, what was kept only behind a Settle: each on its own.
func TestWhenItIsFree(t *testing.T) {
	for _, x := range []struct {
		name  string
		calls []call
		free  bool
	}{
		{"fresh, dropped", []call{dropping(to(4, 5))}, false},
		{"fresh, swept", []call{sweeping()}, false},
		{"fresh, settled", []call{settling()}, false},
		{"fresh, dropped, swept", []call{dropping(to(4, 5)), sweeping()}, true},
		{"fresh, dropped, settled", []call{dropping(to(4, 5)), settling()}, true},
		{"kept, dropped", []call{settling(), dropping(to(4, 5))}, false},
		{"kept, dropped, swept", []call{settling(), dropping(to(4, 5)), sweeping(), sweeping()}, false},
		{"kept, dropped, swept, settled", []call{settling(), dropping(to(4, 5)), sweeping(), settling()}, true},
		{"kept, dropped, settled", []call{settling(), dropping(to(4, 5)), settling()}, true},
		{"kept, settled", []call{settling(), settling()}, false},
	} {
		s := fresh(t, 4, 5, 1)
		for _, c := range append([]call{taking(2)}, x.calls...) {
			end, a := check(t, s, c)
			if a.code != api.OK {
				t.Fatalf("%s, %s: %v", x.name, c.name, a.code)
			}
			s = end
		}
		want := answer{code: api.ErrNoSpace}
		if x.free {
			want = answer{a: 4, b: 5}
		}
		if _, a := check(t, s, taking(2)); a != want {
			t.Errorf("%s: %+v", x.name, a)
		}
	}
}

// P1: what was handed in elsewhere, a copy of the space, stays, whatever is done with the other one, and the other way round.
func TestCopiesStay(t *testing.T) {
	for _, c := range []call{taking(1), taking(2), dropping(to(5, 11)), marking(to(4, 10)), sweeping(), settling()} {
		s := roomy(with(t, 4, 10, "0124", "0124"))
		snap, was := s, copied(s)
		if a := c.run(&s); a.code != api.OK {
			t.Fatalf("%s: %+v", c.name, a)
		}
		behind := copied(s)
		if !same(snap, was) || same(s, was) {
			t.Errorf("%s: %s, and its copy %s", c.name, told(s), told(snap))
		}
		spoil(snap)
		if !same(s, behind) {
			t.Errorf("%s: shares its list with its copy", c.name)
		}
	}
}

// P1: an answer hangs on the arguments alone, whatever was asked of another space ahead of it.
func TestNothingIsKept(t *testing.T) {
	r := rand.New(rand.NewSource(7))
	other := fresh(t, 0, 6, 6)
	for range 300 {
		anyCall(r, other).run(&other)
		s := with(t, 4, 10, "012", "340")
		for _, c := range []call{using(), rooming(), taking(2), taking(1), dropping(to(5, 6)), sweeping(), settling(), marking(to(5, 11))} {
			s, _ = check(t, s, c)
		}
		if want := with(t, 4, 10, "110", "011"); !same(s, want) {
			t.Fatal(told(s))
		}
	}
}

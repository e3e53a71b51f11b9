package space_test

import (
	"fmt"
	"math"
	"slices"
	"strings"
	"testing"

	"lazaret/api"
	"lazaret/space"
)

// The chapter's example.
func TestExample(t *testing.T) {
	s := fresh(t, 4, 10, 3)
	take := func(copies, a, b int) {
		t.Helper()
		end, x := check(t, s, taking(copies))
		if x != (answer{a: a, b: b}) {
			t.Errorf("take %d: %+v", copies, x)
		}
		s = end
	}
	state := func(at, want int) {
		t.Helper()
		if n, e := space.State(s, at); n != want || e != api.OK {
			t.Errorf("state of %d: %d %v, not %d", at, n, e, want)
		}
	}
	do := func(c call) {
		t.Helper()
		end, x := check(t, s, c)
		if x != (answer{}) {
			t.Errorf("%s: %+v", c.name, x)
		}
		s = end
	}
	take(2, 4, 10)
	take(1, 5, -1)
	do(dropping(to(4, 10)))
	do(sweeping())
	state(4, api.Free)
	state(10, api.Free)
	do(marking(to(4, -1)))
	state(4, api.Kept)
	do(dropping(to(4, -1)))
	state(4, api.Leaving)
	do(settling())
	state(4, api.Free)
}

// layout: beginnings and a size.
type layout struct{ a, b, size int }

// may: layouts that may be, at the edges.
func may() []layout {
	return []layout{
		{0, 1, 1}, {0, 4095, 1}, {4094, 4095, 1}, {7, 8, 1}, {4, 10, 3}, {4, 7, 3}, {0, 3, 3}, {4090, 4093, 3}, {0, 4093, 3}, {28, 184, 128},
		{0, 2000, 2000}, {96, 2096, 2000}, {0, 2096, 2000}, {95, 2095, 2000}, {0, 1999, 1999}, {98, 2097, 1999}, {28, 1976, 1920},
	}
}

// mayNot: layouts that may not be.
func mayNot() []layout {
	l := []layout{
		{4, 10, 0}, {0, 0, 0}, {4, 10, -1}, {4, 10, -3}, {10, 4, -3}, {0, 2001, 2001}, {0, 2048, 2048}, {0, 2095, 2001}, {0, 4096, 4096}, {0, 100000, 100000}, {0, 2000, 4000},
		{-1, 5, 2}, {-1, 5, 3}, {-3, 0, 3}, {-3, 5, 3}, {-5, -2, 3}, {-1, 0, 1}, {-4096, 0, 1}, {-2000, 0, 2000},
		{0, 0, 1}, {0, 1, 2}, {4, 6, 3}, {4, 5, 3}, {4, 4, 3}, {10, 4, 3}, {1, 0, 1}, {7, 4, 3}, {4, 3, 3}, {0, 1999, 2000}, {97, 2096, 2000}, {2000, 0, 2000}, {5, -1, 1}, {5, -3, 3}, {0, -2, 2},
		{0, 4096, 1}, {0, 4097, 1}, {4095, 4096, 1}, {4096, 4097, 1}, {0, 4094, 3}, {0, 4095, 2}, {0, 2097, 2000}, {96, 2097, 2000}, {97, 2097, 2000}, {4096, 6096, 2000}, {4100, 4200, 3},
	}
	for _, x := range extremes() {
		l = append(l, layout{4, 10, x}, layout{0, 0, x}, layout{0, x, x}, layout{x, x, x}, layout{-x, x, x}, layout{x, -x, x}, layout{x, 0, x})
		for _, size := range []int{1, 2, 3, 1999, 2000} {
			l = append(l, layout{x, 2050, size}, layout{0, x, size}, layout{x, x, size}, layout{x, x + size, size}, layout{x, x - size, size}, layout{x, -x, size}, layout{x - size, x, size})
		}
	}
	// What is among these by a number that ran over.
	return slices.DeleteFunc(l, func(x layout) bool {
		return x.size >= 1 && x.size <= 2000 && x.a >= 0 && x.a < 4096 && x.b >= x.a+x.size && x.b <= 4096-x.size
	})
}

func TestNew(t *testing.T) {
	for _, x := range may() {
		s, e := space.New(x.a, x.b, x.size)
		if want := (api.Space{At: [2]int{x.a, x.b}, Size: x.size, State: make([]byte, 2*x.size)}); e != api.OK || !same(s, want) || !space.Formed(s) {
			t.Errorf("%v: %v %s", x, e, told(s))
			continue
		}
		check(t, s, using())
		if _, a := check(t, s, rooming()); a.room != [2]int{x.size, x.size} {
			t.Errorf("%v: room %v", x, a.room)
		}
	}
	for _, x := range mayNot() {
		if s, e := space.New(x.a, x.b, x.size); e != api.ErrArg || !same(s, api.Space{}) {
			t.Errorf("%v: %v %s", x, e, told(s))
		}
	}
	// What is handed out is new each time.
	one, two := fresh(t, 4, 10, 3), fresh(t, 4, 10, 3)
	spoil(one)
	if !same(two, api.Space{At: [2]int{4, 10}, Size: 3, State: make([]byte, 6)}) {
		t.Error("two new spaces share a list")
	}
}

// Layouts around the edges, all of them, small and great.
func TestLayouts(t *testing.T) {
	for _, size := range []int{1, 2, 3, 1998, 1999, 2000, 2001, 2002, 2047, 2048} {
		for _, a := range []int{-2, -1, 0, 1, 4096 - 2*size - 1, 4096 - 2*size, 4096 - 2*size + 1, 4095 - size, 4096 - size} {
			for _, b := range []int{a - size, a - 1, a, a + 1, a + size - 1, a + size, a + size + 1, 4095 - size, 4096 - size, 4097 - size, 4095, 4096} {
				s := api.Space{At: [2]int{a, b}, Size: size, State: make([]byte, 2*size)}
				_, want := modelOf(s)
				if space.Formed(s) != want {
					t.Errorf("formed, %s: not %v", told(s), want)
				}
				if x, e := space.New(a, b, size); (e == api.OK) != want || want && !same(x, s) || !want && e != api.ErrArg {
					t.Errorf("new, %s: %v", told(s), e)
				}
			}
		}
	}
}

// mixed: so many states, of all kinds.
func mixed(n int) []byte {
	l := make([]byte, n)
	for i := range l {
		l[i] = byte(i % 5)
	}
	return l
}

// wrong: spaces that aren't formed.
func wrong() []api.Space {
	l := []api.Space{{}, {At: [2]int{4, 10}}, {At: [2]int{4, 10}, Size: 3}, {At: [2]int{4, 10}, Size: 3, State: []byte{}}, {State: []byte{0, 1}}}
	for _, x := range mayNot() {
		s := api.Space{At: [2]int{x.a, x.b}, Size: x.size, State: mixed(6)}
		if n := x.size; n >= -4000 && n <= 100000 {
			s.State = mixed(2 * max(n, -n))
		}
		l = append(l, s)
	}
	for _, x := range []layout{{4, 10, 3}, {0, 1, 1}, {96, 2096, 2000}} {
		for _, n := range []int{0, 1, x.size - 1, x.size, x.size + 1, 2*x.size - 1, 2*x.size + 1, 2*x.size + 2, 3 * x.size, 4 * x.size, 100000} {
			if n != 2*x.size {
				l = append(l, api.Space{At: [2]int{x.a, x.b}, Size: x.size, State: mixed(n)})
			}
		}
		for _, i := range []int{0, x.size - 1, x.size, 2*x.size - 1} {
			for _, by := range []byte{5, 6, 7, 8, 127, 128, 129, 132, 254, 255} {
				s := api.Space{At: [2]int{x.a, x.b}, Size: x.size, State: mixed(2 * x.size)}
				s.State[i] = by
				l = append(l, s)
			}
		}
	}
	return l
}

// of: one of each call, such as a space at 4 and 10 could answer.
func of() []call {
	l := []call{using(), rooming(), taking(1), taking(2), taking(0), sweeping(), settling(), dropping(hole), marking(hole), dropping(api.Ptr{}), marking(api.Ptr{})}
	for _, at := range []int{-1, 0, 1, 4, 10, 2096, math.MaxInt} {
		l = append(l, stating(at), dropping(to(at, -1)), marking(to(at, -1)), dropping(to(at, 10)), marking(to(4, at)))
	}
	return l
}

// A space that isn't formed: ErrArg, or zeros, and it stays as it is.
func TestNotFormed(t *testing.T) {
	for _, s := range wrong() {
		was := copied(s)
		if space.Formed(s) {
			t.Errorf("formed: %s", told(s))
		}
		for _, c := range of() {
			code := api.ErrArg
			if c.name == "used" || c.name == "room" {
				code = api.OK
			}
			refused(t, s, c, code)
		}
		if !same(s, was) {
			t.Errorf("another one: %s", told(s))
		}
	}
}

func TestFormed(t *testing.T) {
	for _, x := range may() {
		s := fresh(t, x.a, x.b, x.size)
		for i := range s.State {
			s.State[i] = byte(i % 5)
		}
		s = roomy(s)
		was := copied(s)
		if !space.Formed(s) || !same(s, was) {
			t.Errorf("not formed, or another one: %s", told(s))
		}
		for by := range 256 {
			for _, i := range []int{0, x.size - 1, x.size, 2*x.size - 1} {
				s.State[i] = byte(by)
				if space.Formed(s) != (by < 5) {
					t.Errorf("byte %d is %d: %v", i, by, space.Formed(s))
				}
				s.State[i] = was.State[i]
			}
		}
	}
}

// No space at all.
func TestNothingAtAll(t *testing.T) {
	for _, copies := range []int{-1, 0, 1, 2, 3} {
		if a, b, e := space.Take(nil, copies); a != 0 || b != 0 || e != api.ErrArg {
			t.Error("take", a, b, e)
		}
	}
	for _, p := range []api.Ptr{hole, {}, to(4, -1), to(4, 10), {A: math.MinInt, B: math.MaxInt}} {
		if e := space.Drop(nil, p); e != api.ErrArg {
			t.Error("drop", e)
		}
		if e := space.Mark(nil, p); e != api.ErrArg {
			t.Error("mark", e)
		}
	}
	if e := space.Sweep(nil); e != api.ErrArg {
		t.Error("sweep", e)
	}
	if e := space.Settle(nil); e != api.ErrArg {
		t.Error("settle", e)
	}
}

// The first and the last sector of each region, those beside them, and numbers far from all.
func TestState(t *testing.T) {
	for _, x := range may() {
		s := fresh(t, x.a, x.b, x.size)
		for i := range s.State {
			s.State[i] = byte((i*3 + 1) % 5)
		}
		for _, at := range append(extremes(), -2, -1, 0, 1, 4094, 4095, 4096, 4097) {
			check(t, s, stating(at))
		}
		for _, first := range s.At {
			for _, at := range []int{first - 1, first, first + 1, first + x.size - 2, first + x.size - 1, first + x.size, first + x.size + 1} {
				check(t, s, stating(at))
			}
		}
	}
	s := with(t, 4, 10, "012", "340")
	for at, want := range map[int]int{4: 0, 5: 1, 6: 2, 10: 3, 11: 4, 12: 0} {
		if n, e := space.State(s, at); n != want || e != api.OK {
			t.Errorf("state of %d: %d %v, not %d", at, n, e, want)
		}
	}
	for _, at := range []int{3, 7, 8, 9, 13, 0, -1} {
		refused(t, s, stating(at), api.ErrArg)
	}
}

// How many are in use, or free, whatever each sector is.
func TestUsedAndRoom(t *testing.T) {
	for _, x := range []struct {
		first, second string
		used          int
		room          [2]int
	}{
		{"0", "0", 0, [2]int{1, 1}},
		{"1", "0", 1, [2]int{0, 1}},
		{"0", "2", 1, [2]int{1, 0}},
		{"3", "4", 0, [2]int{0, 0}},
		{"1", "2", 2, [2]int{0, 0}},
		{"01234", "43210", 4, [2]int{1, 1}},
		{"00000", "11111", 5, [2]int{5, 0}},
		{"22222", "00000", 5, [2]int{0, 5}},
		{"33333", "44444", 0, [2]int{0, 0}},
		{"00012", "34000", 2, [2]int{3, 3}},
	} {
		for _, beginnings := range [][2]int{{0, 5}, {4, 90}, {28, 4091}} {
			s := with(t, beginnings[0], beginnings[1], x.first, x.second)
			if _, a := check(t, s, using()); a.n != x.used {
				t.Errorf("%s: %d are in use", told(s), a.n)
			}
			if _, a := check(t, s, rooming()); a.room != x.room {
				t.Errorf("%s: room %v", told(s), a.room)
			}
		}
	}
}

// wild: spaces with states of all kinds, small and great.
func wild(t *testing.T) []api.Space {
	t.Helper()
	var l []api.Space
	for _, x := range may() {
		for by := range 7 {
			s := fresh(t, x.a, x.b, x.size)
			for i := range s.State {
				s.State[i] = []byte{0, 1, 2, 3, 4, byte(i % 5), byte(i * i % 5)}[by]
			}
			l = append(l, s)
		}
	}
	return l
}

func TestAllStates(t *testing.T) {
	for _, s := range wild(t) {
		for _, c := range []call{using(), rooming(), taking(1), taking(2), sweeping(), settling()} {
			check(t, s, c)
		}
		first, last := s.At, [2]int{s.At[0] + s.Size - 1, s.At[1] + s.Size - 1}
		for _, p := range [][2]int{
			{first[0], first[1]}, {last[0], last[1]}, {first[0], last[0]}, {last[1], first[1]}, {first[1], -1}, {last[0], -1},
			{first[0] - 1, first[1]}, {last[0], first[1] - 1}, {last[1] + 1, first[0]}, {last[1], last[0] + 1}, {first[1] - 1, -1}, {last[1] + 1, -1},
		} {
			check(t, s, dropping(to(p[0], p[1])))
			check(t, s, marking(to(p[0], p[1])))
		}
	}
}

func TestTake(t *testing.T) {
	none := answer{code: api.ErrNoSpace}
	for _, x := range []struct {
		first, second string
		one, two      answer
	}{
		{"000", "000", answer{a: 4, b: -1}, answer{a: 4, b: 10}},
		{"100", "000", answer{a: 5, b: -1}, answer{a: 5, b: 10}},
		{"000", "200", answer{a: 4, b: -1}, answer{a: 4, b: 11}},
		{"120", "340", answer{a: 6, b: -1}, answer{a: 6, b: 12}},
		{"340", "120", answer{a: 6, b: -1}, answer{a: 6, b: 12}},
		{"010", "101", answer{a: 4, b: -1}, answer{a: 4, b: 11}},
		{"111", "000", answer{a: 10, b: -1}, none},
		{"234", "100", answer{a: 11, b: -1}, none},
		{"432", "340", answer{a: 12, b: -1}, none},
		{"000", "111", answer{a: 4, b: -1}, none},
		{"120", "234", answer{a: 6, b: -1}, none},
		{"333", "444", none, none},
		{"444", "333", none, none},
		{"111", "222", none, none},
	} {
		s := with(t, 4, 10, x.first, x.second)
		for copies, want := range []answer{1: x.one, 2: x.two} {
			if copies == 0 {
				continue
			}
			end, got := check(t, s, taking(copies))
			if got != want {
				t.Errorf("%s, take %d: %+v, not %+v", told(s), copies, got, want)
			}
			if want.code != api.OK {
				refused(t, s, taking(copies), want.code)
				continue
			}
			for i, at := range []int{got.a, got.b} {
				if n, e := space.State(end, at); i < copies && (n != api.Fresh || e != api.OK) {
					t.Errorf("%s, take %d: %d is %d %v", told(s), copies, at, n, e)
				}
			}
			if space.Used(end) != space.Used(s)+copies {
				t.Errorf("%s, take %d: %d are in use", told(s), copies, space.Used(end))
			}
		}
		// ErrArg, whether there is room or not.
		for _, copies := range append(extremes(), -2, -1, 0, 3, 4) {
			refused(t, s, taking(copies), api.ErrArg)
		}
	}
}

// All is taken till nothing is left: in what order, and what is told then.
func TestTakeAll(t *testing.T) {
	for _, x := range []layout{{4, 10, 3}, {0, 1, 1}, {4094, 4095, 1}, {96, 2096, 2000}} {
		s := fresh(t, x.a, x.b, x.size)
		for i := range x.size {
			a, b, e := space.Take(&s, 2)
			if a != x.a+i || b != x.b+i || e != api.OK {
				t.Fatalf("%v: %d, %d, %v", x, a, b, e)
			}
		}
		refused(t, s, taking(1), api.ErrNoSpace)
		refused(t, s, taking(2), api.ErrNoSpace)
		s = fresh(t, x.a, x.b, x.size)
		for i := range 2 * x.size {
			want := x.a + i
			if i >= x.size {
				want = x.b + i - x.size
			}
			if i == x.size || i == 2*x.size-1 {
				refused(t, s, taking(2), api.ErrNoSpace)
			}
			if a, b, e := space.Take(&s, 1); a != want || b != -1 || e != api.OK || space.Used(s) != i+1 {
				t.Fatalf("%v: %d, %d, %v, %d are in use", x, a, b, e, space.Used(s))
			}
		}
		refused(t, s, taking(1), api.ErrNoSpace)
		refused(t, s, taking(2), api.ErrNoSpace)
	}
}

// What each state becomes, by each call: "-" where the call is refused.
func TestEachState(t *testing.T) {
	for state, x := range []struct {
		drop, mark    string
		sweep, settle string
		code          api.Errno // of the mark that is refused
	}{
		api.Free:    {"-", "1", "0", "0", api.OK},
		api.Kept:    {"3", "-", "1", "1", api.ErrDamage},
		api.Fresh:   {"4", "-", "2", "1", api.ErrDamage},
		api.Leaving: {"-", "-", "3", "0", api.ErrDamage},
		api.Going:   {"-", "-", "0", "0", api.ErrDamage},
	} {
		for place := range 6 {
			at := []int{4, 5, 6, 10, 11, 12}[place]
			laid := func(state string) string { return strings.Repeat("0", place) + state + strings.Repeat("0", 5-place) }
			was := laid(fmt.Sprint(state))
			for _, y := range []struct {
				c    call
				want string
				code api.Errno
			}{
				{dropping(to(at, -1)), x.drop, api.ErrArg},
				{marking(to(at, -1)), x.mark, x.code},
				{sweeping(), x.sweep, api.OK},
				{settling(), x.settle, api.OK},
			} {
				s := with(t, 4, 10, was[:3], was[3:])
				if y.want == "-" {
					refused(t, s, y.c, y.code)
					continue
				}
				want := laid(y.want)
				if end, got := check(t, s, y.c); got != (answer{}) || !same(end, with(t, 4, 10, want[:3], want[3:])) {
					t.Errorf("%s, %s: %+v, %s", told(s), y.c.name, got, told(end))
				}
			}
		}
	}
}

// Of two sectors with any two states: both are dropped, or marked, or neither.
func TestTwoSectors(t *testing.T) {
	for first := range 5 {
		for second := range 5 {
			for _, p := range [][2]int{{4, 10}, {10, 4}, {6, 12}, {4, 5}, {5, 4}, {12, 11}, {10, 12}} {
				s := with(t, 4, 10, "000", "000")
				for i, state := range []int{first, second} {
					at := p[i]
					if at >= 10 {
						at -= 3
					}
					s.State[at-4] = byte(state)
				}
				end, x := check(t, s, dropping(to(p[0], p[1])))
				inUse := func(n int) bool { return n == api.Kept || n == api.Fresh }
				if ok := inUse(first) && inUse(second); ok != (x.code == api.OK) || !ok && (x.code != api.ErrArg || !same(end, s)) {
					t.Errorf("%s, drop %v: %v, %s", told(s), p, x.code, told(end))
				}
				end, x = check(t, s, marking(to(p[0], p[1])))
				if ok := first == api.Free && second == api.Free; ok != (x.code == api.OK) || !ok && (x.code != api.ErrDamage || !same(end, s)) {
					t.Errorf("%s, mark %v: %v, %s", told(s), p, x.code, told(end))
				}
			}
		}
	}
}

// Pointers that may be neither dropped nor marked, whatever the sectors are: ErrArg, ahead of ErrDamage.
func TestPointersThatMayNotBe(t *testing.T) {
	l := []api.Ptr{{}, {A: -1, B: -1, Sum: api.Sum{1}}, {A: -1, B: -1, Sum: api.Sum{31: 1}}, to(4, 4), to(10, 10), to(-1, 4), to(-1, 10)}
	for _, n := range append(extremes(), -2, -3, 0, 3, 7, 8, 9, 13, 14, 4094, 4095, 4096, 4097) {
		l = append(l, to(n, -1), to(n, 4), to(n, 10), to(4, n), to(10, n), to(n, n), to(-1, n), api.Ptr{A: n, B: 4}, api.Ptr{A: 4, B: n})
	}
	for state := range 5 {
		states := strings.Repeat(fmt.Sprint(state), 3)
		s := with(t, 4, 10, states, states)
		for _, p := range l {
			refused(t, s, dropping(p), api.ErrArg)
			refused(t, s, marking(p), api.ErrArg)
		}
	}
}

// Pointers as they may be: with any sum, with B or without, with both sectors in one region, a hole.
func TestPointersThatMayBe(t *testing.T) {
	for _, x := range []struct {
		p             api.Ptr
		first, second string // behind the mark
	}{
		{hole, "000", "000"},
		{to(4, -1), "100", "000"},
		{to(6, -1), "001", "000"},
		{to(10, -1), "000", "100"},
		{to(12, -1), "000", "001"},
		{to(4, 10), "100", "100"},
		{to(10, 4), "100", "100"},
		{to(6, 12), "001", "001"},
		{to(4, 6), "101", "000"},
		{to(12, 10), "000", "101"},
		{api.Ptr{A: 4, B: 10}, "100", "100"},
		{api.Ptr{A: 5, B: -1, Sum: api.Sum{31: 255}}, "010", "000"},
	} {
		s := with(t, 4, 10, "000", "000")
		marked := with(t, 4, 10, x.first, x.second)
		if end, a := check(t, s, marking(x.p)); a != (answer{}) || !same(end, marked) {
			t.Errorf("mark %v: %+v, %s", x.p, a, told(end))
		}
		left := with(t, 4, 10, strings.ReplaceAll(x.first, "1", "3"), strings.ReplaceAll(x.second, "1", "3"))
		if end, a := check(t, marked, dropping(x.p)); a != (answer{}) || !same(end, left) {
			t.Errorf("drop %v: %+v, %s", x.p, a, told(end))
		}
	}
	// A hole has no sectors: nothing is free that has to be, nothing in use.
	for _, s := range wild(t) {
		for _, c := range []call{dropping(hole), marking(hole)} {
			if end, a := check(t, s, c); a != (answer{}) || !same(end, s) {
				t.Errorf("%s, %s: %+v", told(s), c.name, a)
			}
		}
	}
}

// The chapter's words of Sweep and Settle, of all sectors together.
func TestSweepAndSettle(t *testing.T) {
	for _, x := range []struct{ first, second, sweep, settle string }{
		{"01234", "43210", "0123003210", "0110000110"},
		{"44444", "44444", "0000000000", "0000000000"},
		{"33333", "22222", "3333322222", "0000011111"},
		{"11111", "00000", "1111100000", "1111100000"},
		{"40404", "02020", "0000002020", "0000001010"},
	} {
		s := with(t, 0, 5, x.first, x.second)
		if end, a := check(t, s, sweeping()); a != (answer{}) || !same(end, with(t, 0, 5, x.sweep[:5], x.sweep[5:])) {
			t.Errorf("%s, sweep: %+v, %s", told(s), a, told(end))
		}
		if end, a := check(t, s, settling()); a != (answer{}) || !same(end, with(t, 0, 5, x.settle[:5], x.settle[5:])) {
			t.Errorf("%s, settle: %+v, %s", told(s), a, told(end))
		}
	}
}

package space_test

import (
	"bytes"
	"fmt"
	"maps"
	"math"
	"slices"
	"testing"

	"lazaret/api"
	"lazaret/space"
)

// What the calls must answer, and make of a space, told by the chapter's words; and what holds them against it.

// answer: what a call answers, as far as it does.
type answer struct {
	a, b int
	n    int
	room [2]int
	code api.Errno
}

// call: one of the calls with its arguments, and what it must answer and make of the sectors.
type call struct {
	name string
	run  func(s *api.Space) answer
	must func(m model) answer
}

// model: a formed space as a table of its sectors, and those of each region, rising.
type model struct {
	state  map[int]int
	region [2][]int
}

// numbers: from the first one on, so many.
func numbers(first, many int) []int {
	var l []int
	for n := first; len(l) < many; n++ {
		l = append(l, n)
	}
	return l
}

// modelOf: false, if the space isn't formed.
func modelOf(s api.Space) (model, bool) {
	if s.Size < 1 || s.Size > 2000 || len(s.State) != s.Size+s.Size {
		return model{}, false
	}
	m := model{state: map[int]int{}}
	for r, first := range s.At {
		if first < 0 || first > 4096 {
			return model{}, false
		}
		m.region[r] = numbers(first, s.Size)
	}
	all := slices.Concat(m.region[0], m.region[1])
	if !slices.IsSorted(all) {
		return model{}, false
	}
	for i, at := range all {
		m.state[at] = int(s.State[i])
		if at > 4095 || m.state[at] > 4 {
			return model{}, false
		}
	}
	// Regions that overlap by a sector are sorted still, but have fewer ones together.
	return m, len(m.state) == len(all)
}

// bytes: State of a space with these sectors.
func (m model) bytes() []byte {
	var l []byte
	for _, at := range slices.Concat(m.region[0], m.region[1]) {
		l = append(l, byte(m.state[at]))
	}
	return l
}

// first: the first free sector of those.
func (m model) first(l []int) (int, bool) {
	for _, at := range l {
		if m.state[at] == 0 {
			return at, true
		}
	}
	return 0, false
}

// sectors: of a pointer; false, if it isn't right, or one of them isn't of the space.
func (m model) sectors(p api.Ptr) ([]int, bool) {
	if p == (api.Ptr{A: -1, B: -1}) {
		return nil, true
	}
	l := []int{p.A, p.B}
	if p.B == -1 {
		l = l[:1]
	}
	for _, at := range l {
		if _, ok := m.state[at]; !ok {
			return nil, false
		}
	}
	return l, len(l) == 1 || p.A != p.B
}

func (m model) each(become map[int]int) {
	for at, x := range m.state {
		if y, ok := become[x]; ok {
			m.state[at] = y
		}
	}
}

func stating(at int) call {
	return call{
		fmt.Sprint("state of ", at),
		func(s *api.Space) answer {
			n, e := space.State(*s, at)
			return answer{n: n, code: e}
		},
		func(m model) answer {
			if x, ok := m.state[at]; ok {
				return answer{n: x}
			}
			return answer{code: api.ErrArg}
		},
	}
}

func using() call {
	return call{
		"used",
		func(s *api.Space) answer { return answer{n: space.Used(*s)} },
		func(m model) answer {
			l := slices.Collect(maps.Values(m.state))
			l = slices.DeleteFunc(l, func(x int) bool { return x != 1 && x != 2 })
			return answer{n: len(l)}
		},
	}
}

func rooming() call {
	return call{
		"room",
		func(s *api.Space) answer { return answer{room: space.Room(*s)} },
		func(m model) answer {
			var x answer
			for r, l := range m.region {
				for _, at := range l {
					if m.state[at] == 0 {
						x.room[r]++
					}
				}
			}
			return x
		},
	}
}

func taking(copies int) call {
	return call{
		fmt.Sprint("take ", copies),
		func(s *api.Space) answer {
			a, b, e := space.Take(s, copies)
			return answer{a: a, b: b, code: e}
		},
		func(m model) answer {
			a, first := m.first(m.region[0])
			b, second := m.first(m.region[1])
			switch {
			case copies != 1 && copies != 2:
				return answer{code: api.ErrArg}
			case copies == 1 && first:
				b = -1
			case copies == 1 && second:
				a, b = b, -1
			case copies == 1 || !first || !second:
				return answer{code: api.ErrNoSpace}
			}
			for _, at := range []int{a, b} {
				if at != -1 {
					m.state[at] = 2
				}
			}
			return answer{a: a, b: b}
		},
	}
}

func dropping(p api.Ptr) call {
	return call{
		fmt.Sprint("drop ", p.A, p.B, p.Sum[:2]),
		func(s *api.Space) answer { return answer{code: space.Drop(s, p)} },
		func(m model) answer {
			l, ok := m.sectors(p)
			for _, at := range l {
				ok = ok && (m.state[at] == 1 || m.state[at] == 2)
			}
			if !ok {
				return answer{code: api.ErrArg}
			}
			for _, at := range l {
				m.state[at] += 2 // Kept 1 is Leaving 3, Fresh 2 is Going 4
			}
			return answer{}
		},
	}
}

func marking(p api.Ptr) call {
	return call{
		fmt.Sprint("mark ", p.A, p.B, p.Sum[:2]),
		func(s *api.Space) answer { return answer{code: space.Mark(s, p)} },
		func(m model) answer {
			l, ok := m.sectors(p)
			if !ok {
				return answer{code: api.ErrArg}
			}
			for _, at := range l {
				if m.state[at] != 0 {
					return answer{code: api.ErrDamage}
				}
			}
			for _, at := range l {
				m.state[at] = 1
			}
			return answer{}
		},
	}
}

func sweeping() call {
	return call{
		"sweep",
		func(s *api.Space) answer { return answer{code: space.Sweep(s)} },
		func(m model) answer {
			m.each(map[int]int{4: 0})
			return answer{}
		},
	}
}

func settling() call {
	return call{
		"settle",
		func(s *api.Space) answer { return answer{code: space.Settle(s)} },
		func(m model) answer {
			m.each(map[int]int{2: 1, 3: 0, 4: 0})
			return answer{}
		},
	}
}

// room: how much stands behind a list that is handed in; no call may change it.
const room = 5

// roomy: the same space in a list of its own, with something in the room behind it.
func roomy(s api.Space) api.Space {
	l := slices.Concat(s.State, bytes.Repeat([]byte{9}, room))
	s.State = l[:len(s.State)]
	return s
}

// copied: the same space in a list of its own.
func copied(s api.Space) api.Space {
	s.State = slices.Clone(s.State)
	return s
}

func same(a, b api.Space) bool {
	return a.At == b.At && a.Size == b.Size && bytes.Equal(a.State, b.State)
}

// told: a space in few words.
func told(s api.Space) string {
	return fmt.Sprintf("at %v, size %d, %d states %v", s.At, s.Size, len(s.State), s.State[:min(40, len(s.State))])
}

// check: the call answers, and changes the space, as it must, and another time just so; the list that stood there, and the room behind it, stay, and one that is new shares nothing with it.
func check(t *testing.T, s api.Space, c call) (api.Space, answer) {
	t.Helper()
	s = roomy(s)
	old, was := s, slices.Clone(s.State[:cap(s.State)])
	end, want := copied(s), answer{}
	m, formed := modelOf(s)
	if formed {
		want = c.must(m)
		end.State = m.bytes()
	} else if c.name != "used" && c.name != "room" {
		want.code = api.ErrArg
	}
	got := c.run(&s)
	again := old
	gotAgain := c.run(&again)
	if got != want || !same(s, end) {
		t.Fatalf("%s, %s: %+v, %s, not %+v, %s", told(old), c.name, got, told(s), want, told(end))
	}
	if gotAgain != want || !same(again, end) {
		t.Fatalf("%s, %s: another time %+v, %s, not %+v, %s", told(old), c.name, gotAgain, told(again), want, told(end))
	}
	if !same(s, old) {
		spoil(s)
	}
	if !bytes.Equal(old.State[:cap(old.State)], was) {
		t.Fatalf("%s, %s: the list that stood there, or the room behind it, is changed", told(old), c.name)
	}
	return end, got
}

// spoil: makes another list of the space's, and of the room behind it.
func spoil(s api.Space) {
	l := s.State[:cap(s.State)]
	for i := range l {
		l[i] ^= 0x40
	}
}

// refused: a call answers an error, and nothing is changed.
func refused(t *testing.T, s api.Space, c call, code api.Errno) {
	t.Helper()
	if end, x := check(t, s, c); x != (answer{code: code}) || !same(end, s) {
		t.Errorf("%s, %s: %+v, %s", told(s), c.name, x, told(end))
	}
}

// fresh: a new space.
func fresh(t *testing.T, a, b, size int) api.Space {
	t.Helper()
	s, e := space.New(a, b, size)
	if e != api.OK {
		t.Fatal(a, b, size, e)
	}
	return s
}

// with: a new space whose regions have these states.
func with(t *testing.T, a, b int, first, second string) api.Space {
	t.Helper()
	s := fresh(t, a, b, len(first))
	for i, x := range first + second {
		s.State[i] = byte(x - '0')
	}
	return s
}

// to: a pointer to a block in these sectors.
func to(a, b int) api.Ptr { return api.Ptr{A: a, B: b, Sum: api.Sum{5, 6}} }

var hole = api.Ptr{A: -1, B: -1}

// extremes: numbers with which a sum, or a difference, could run over, or that look like another one in fewer bytes.
func extremes() []int {
	return []int{
		math.MinInt, math.MinInt + 1, math.MinInt + 2, math.MinInt + 4, math.MinInt + 2000, math.MinInt + 4095, math.MinInt / 2, math.MinInt32, -1 << 32, -1<<32 + 4, -65536, -4096, -2000,
		math.MaxInt, math.MaxInt - 1, math.MaxInt - 2, math.MaxInt - 1999, math.MaxInt - 4096, math.MaxInt/2 + 1, 1 << 62, 1<<62 + 4, math.MaxInt32, 1 << 32, 1<<32 + 4, 1<<32 + 10, math.MaxUint32, 65536, 65540,
	}
}

package entry_test

import (
	"bytes"
	"slices"
	"strings"
	"testing"

	"lazaret/api"
	"lazaret/entry"
)

// The chapter's examples.
func TestExamples(t *testing.T) {
	l, e := entry.With([]api.Entry{{Name: "b", Node: 2}}, api.Entry{Name: "a", Node: 5})
	if e != api.OK || !slices.Equal(l, []api.Entry{{Name: "a", Node: 5}, {Name: "b", Node: 2}}) {
		t.Error(l, e)
	}
	if b, e := entry.Put(l); e != api.OK || !bytes.Equal(b, []byte{5, 1, 'a', 2, 1, 'b'}) {
		t.Errorf("% x %v", b, e)
	}
	if l, e := entry.Take([]byte{5, 1}); e != api.ErrForm || len(l) != 0 {
		t.Error(l, e)
	}
}

// An ordinary directory: two names of one node, and others.
func TestOrdinary(t *testing.T) {
	l := []api.Entry{{Name: "bin", Node: 3}, {Name: "etc", Node: 64}, {Name: "notes.txt", Node: 7}, {Name: "src", Node: 3}}
	checkAll(t, l, []string{"a", "bin", "bin2", "c", "etc", "notes", "notes.txt", "src", "tmp"}, []int{1, 3, 7, 8, 64})
	if b, e := entry.Put(l); e != api.OK || string(b) != "\x03\x03bin\x40\x03etc\x07\x09notes.txt\x03\x03src" {
		t.Errorf("% x %v", b, e)
	}
	if s := entry.Names(l, 3); !slices.Equal(s, []string{"bin", "src"}) {
		t.Error(s)
	}
}

// No entries: right, without bytes, and there is nothing in them.
func TestNone(t *testing.T) {
	for _, l := range [][]api.Entry{nil, {}} {
		checkAll(t, l, append(goodNames(), badNames()...), append(goodNodes(), badNodes()...))
		if b, e := entry.Put(l); len(b) != 0 || e != api.OK || !entry.Right(l) {
			t.Error(b, e)
		}
	}
	for _, b := range [][]byte{nil, {}} {
		if l, e := entry.Take(b); len(l) != 0 || e != api.OK {
			t.Error(l, e)
		}
	}
}

// One entry, of each name with each node.
func TestOne(t *testing.T) {
	for _, name := range append(goodNames(), badNames()...) {
		for _, node := range append(goodNodes(), badNodes()...) {
			l := []api.Entry{{Name: name, Node: node}}
			checkAll(t, l, []string{name, "a", "", strings.Repeat("x", 25), name + "a", name + "\xff"}, []int{-1, 0, 1, 64, 65, node, node + 1})
			good := slices.Contains(goodNames(), name) && slices.Contains(goodNodes(), node)
			if entry.Right(l) != good {
				t.Errorf("right %s: %v", said(l), !good)
			}
		}
	}
}

// Two entries, of each two names: right just where the first one is less, byte by byte.
func TestTwo(t *testing.T) {
	names := append(goodNames(), "", "..", "a/b", "\x00", strings.Repeat("x", 25))
	for _, a := range names {
		for _, b := range names {
			l := of(a, b)
			checkAll(t, l, []string{a, b, "aa", "\x7f"}, []int{0, 1, 2, 3})
			good := slices.Contains(goodNames(), a) && slices.Contains(goodNames(), b) && a < b
			if entry.Right(l) != good {
				t.Errorf("right %s: %v", said(l), !good)
			}
			if got, _ := entry.Find(l, b); a == b && got != 1 {
				t.Errorf("%s: it isn't the first one that is found, but %d", said(l), got)
			}
		}
	}
}

// Three entries: what is wrong may stand in any place.
func TestThree(t *testing.T) {
	names := []string{"a", "aa", "b", "\xff", "..", strings.Repeat("x", 24), strings.Repeat("x", 25)}
	for _, a := range names {
		for _, b := range names {
			for _, c := range names {
				checkAll(t, of(a, b, c), []string{"a", "ab", "\xff"}, []int{2, 65})
			}
		}
	}
	for _, node := range badNodes() {
		for i := range 3 {
			l := of("a", "b", "c")
			l[i].Node = node
			checkAll(t, l, []string{"a", "b", "bb", "c"}, []int{1, 2, 3, node})
			if entry.Right(l) {
				t.Errorf("right: %s", said(l))
			}
		}
	}
}

// All names that may be, but for four: forty. Each goes, and comes back, in its place.
func TestEachPlace(t *testing.T) {
	names := goodNames()
	slices.Sort(names)
	l := of(names[:40]...)
	checkAll(t, l, append(goodNames(), badNames()...), []int{1, 64, 65})
	for i, x := range l {
		m := check(t, l, removing(x.Name))
		if m.e != api.OK || len(m.l) != 39 {
			t.Fatal(m)
		}
		checkAll(t, m.l, []string{x.Name, names[40], names[43]}, []int{x.Node, 64})
		if i > 0 && i < 39 && (m.l[i-1] != l[i-1] || m.l[i] != l[i+1]) {
			t.Errorf("%d: %s", i, said(m.l))
		}
	}
}

// 39, 40 and 41 entries: the last ones are too many.
func TestMany(t *testing.T) {
	for _, n := range []int{2, 38, 39, 40, 41, 42, 64, 65, 80, 255, 256, 257, 296, 300} {
		l := many(n)
		checkAll(t, l, []string{"a", "n0000", "n0000a", "n0039", "n0040", "n0041", "z", "", ".."}, []int{0, 1, 8, 64, 65})
		if entry.Right(l) != (n <= 40) {
			t.Errorf("%d entries: right: %v", n, n > 40)
		}
		got := checkTake(t, bytesOf(l))
		if (got.e == api.OK) != (n <= 40) {
			t.Errorf("%d entries: %v", n, got.e)
		}
		_, e := entry.With(l, api.Entry{Name: "n", Node: 64})
		want := map[bool]api.Errno{n < 40: api.OK, n == 40: api.ErrMany, n > 40: api.ErrArg}[true]
		if e != want {
			t.Errorf("%d entries, and one more: %v, not %v", n, e, want)
		}
	}
}

// Forty of the longest names, with nodes of two digits: the most bytes that there are.
func TestMostBytes(t *testing.T) {
	var l []api.Entry
	for i := range 40 {
		l = append(l, api.Entry{Name: strings.Repeat("\xff", 23) + string([]byte{byte('A' + i)}), Node: 25 + i})
	}
	put := check(t, l, putting())
	if len(put.b) != 40*26 || put.e != api.OK {
		t.Error(len(put.b), put.e)
	}
	checkAll(t, l, append(namesIn(l), "a"), []int{24, 25, 64, 65})
}

// All names that differ in one byte, whatever it is, stand in the order of that byte, as a number without a sign.
func TestEachByte(t *testing.T) {
	for a := range 256 {
		for _, b := range []int{0, 1, 46, 47, 48, 64, 96, 127, 128, 129, 254, 255, a} {
			first, second := "q"+string([]byte{byte(a)}), "q"+string([]byte{byte(b)})
			l := of(first, second)
			want := a < b && a != 0 && a != '/' && b != '/'
			if check(t, l, righting()).ok != want {
				t.Errorf("right %s: %v", said(l), !want)
			}
			check(t, of(first), adding(second, 5))
			check(t, of("q", "r"), adding(first, 5))
		}
	}
}

// Where two errors apply, the one that the chapter names first is told.
func TestFirstError(t *testing.T) {
	wrong := of("b", "a")
	full := many(40)
	for _, x := range []struct {
		why string
		l   []api.Entry
		x   api.Entry
		e   api.Errno
	}{
		{"a name that may not be, a node that may not be", of("a"), api.Entry{Name: "..", Node: 0}, api.ErrName},
		{"a name that may not be, a node that may not be", nil, api.Entry{Name: "", Node: 65}, api.ErrName},
		{"a name that may not be, and 40", full, api.Entry{Name: "a/b", Node: 1}, api.ErrName},
		{"a name that may not be, a node that may not be, and 40", full, api.Entry{Name: "", Node: -1}, api.ErrName},
		{"a node that may not be, and it is there", of("a"), api.Entry{Name: "a", Node: 65}, api.ErrArg},
		{"a node that may not be, and 40", full, api.Entry{Name: "a", Node: 0}, api.ErrArg},
		{"a node that may not be, it is there, and 40", full, api.Entry{Name: "n0003", Node: 0}, api.ErrArg},
		{"it is there, and 40", full, api.Entry{Name: "n0003", Node: 1}, api.ErrExist},
		{"it is there just so, and 40", full, full[39], api.ErrExist},
		{"40", full, api.Entry{Name: "n", Node: 1}, api.ErrMany},
		{"not right, a name that may not be", wrong, api.Entry{Name: "..", Node: 1}, api.ErrArg},
		{"not right, and it is there", wrong, api.Entry{Name: "b", Node: 1}, api.ErrArg},
		{"not right: 41, and a name that may not be", many(41), api.Entry{Name: "", Node: 1}, api.ErrArg},
		{"not right: 41, and it is there", many(41), api.Entry{Name: "n0003", Node: 1}, api.ErrArg},
		{"not right: 41", many(41), api.Entry{Name: "n", Node: 1}, api.ErrArg},
		{"not right: a name that may not be, as the new one", of(".."), api.Entry{Name: "..", Node: 1}, api.ErrArg},
	} {
		got := check(t, x.l, adding(x.x.Name, x.x.Node))
		if got.e != x.e {
			t.Errorf("%s: %v, not %v", x.why, got.e, x.e)
		}
	}
	for _, name := range []string{"a", "b", "c", "", "..", "a/b"} {
		if got := check(t, wrong, removing(name)); got.e != api.ErrArg {
			t.Errorf("without %q, of what isn't right: %v", name, got.e)
		}
		if got := check(t, of("x"), removing(name)); got.e != api.ErrNoEnt {
			t.Errorf("without %q: %v", name, got.e)
		}
	}
}

// Find and Names take whatever there is: the first one of a name, all of a node, as they stand there.
func TestWhateverThereIs(t *testing.T) {
	l := []api.Entry{{Name: "b", Node: 7}, {Name: "a", Node: -1}, {Name: "b", Node: 2}, {Name: "", Node: 0}, {Name: "..", Node: 65}, {Name: "a", Node: 7}, {Name: "x/y", Node: 7}, {Name: "b", Node: 7}, {Name: strings.Repeat("x", 300), Node: 1 << 40}, {Name: "a", Node: 0}, {Name: "\x00", Node: 0}}
	names := append(namesIn(l), "c", "B", "bb")
	checkAll(t, l, names, []int{-1, 0, 2, 7, 65, 1 << 40, 3})
	for name, node := range map[string]int{"b": 7, "a": -1, "": 0, "..": 65, "x/y": 7, strings.Repeat("x", 300): 1 << 40} {
		if n, e := entry.Find(l, name); n != node || e != api.OK {
			t.Errorf("%q: %d %v", name, n, e)
		}
	}
	if s := entry.Names(l, 7); !slices.Equal(s, []string{"b", "a", "x/y", "b"}) {
		t.Errorf("%q", s)
	}
	if s := entry.Names(l, 0); !slices.Equal(s, []string{"", "a", "\x00"}) {
		t.Errorf("%q", s)
	}
	slices.Reverse(l)
	checkAll(t, l, names, []int{-1, 0, 2, 7, 65, 1 << 40, 3})
	if n, e := entry.Find(l, "a"); n != 0 || e != api.OK {
		t.Error(n, e)
	}
	far := append(many(100000), api.Entry{Name: "last", Node: 77})
	if n, e := entry.Find(far, "last"); n != 77 || e != api.OK {
		t.Error(n, e)
	}
	if s := entry.Names(far, 77); !slices.Equal(s, []string{"last"}) {
		t.Errorf("%q", s)
	}
	if entry.Right(far) || entry.Right(far[:41]) || !entry.Right(far[:40]) {
		t.Error("right")
	}
}

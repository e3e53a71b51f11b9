package entry_test

import (
	"bytes"
	"fmt"
	"math"
	"slices"
	"sort"
	"strings"
	"testing"
	"unsafe"

	"lazaret/api"
	"lazaret/entry"
)

// What the calls must answer, told by the chapter's words of plain lists; entries at all edges; and what holds the one against the other.

// answer: whatever a call answers.
type answer struct {
	l     []api.Entry
	b     []byte
	names []string
	node  int
	ok    bool
	e     api.Errno
}

func (a answer) is(b answer) bool {
	return slices.Equal(a.l, b.l) && bytes.Equal(a.b, b.b) && slices.Equal(a.names, b.names) && a.node == b.node && a.ok == b.ok && a.e == b.e
}

func (a answer) String() string {
	return fmt.Sprintf("%s % x %q %d %v %v", said(a.l), a.b, a.names, a.node, a.ok, a.e)
}

// copied: the same answer in memory of its own.
func (a answer) copied() answer {
	a.l, a.b, a.names = twin(a.l), bytes.Clone(a.b), slices.Clone(a.names)
	for i, s := range a.names {
		a.names[i] = strings.Clone(s)
	}
	return a
}

// spoil: all that the answer's lists hold becomes something else, and their spare room.
func (a answer) spoil() {
	for i := range a.l[:cap(a.l)] {
		a.l[:cap(a.l)][i] = api.Entry{Name: "spoilt", Node: 99}
	}
	for i := range a.b[:cap(a.b)] {
		a.b[:cap(a.b)][i] ^= 0xa5
	}
	for i := range a.names[:cap(a.names)] {
		a.names[:cap(a.names)][i] = "spoilt"
	}
}

// call: of a list of entries; text: the name that it is handed beside these.
type call struct {
	name string
	text string
	do   func(l []api.Entry, text string) answer
	must func(l []api.Entry, text string) answer
}

func righting() call {
	return call{"right", "", func(l []api.Entry, _ string) answer { return answer{ok: entry.Right(l)} }, func(l []api.Entry, _ string) answer { return answer{ok: right(l)} }}
}

func putting() call {
	do := func(l []api.Entry, _ string) answer {
		b, e := entry.Put(l)
		return answer{b: b, e: e}
	}
	must := func(l []api.Entry, _ string) answer {
		if !right(l) {
			return answer{e: api.ErrArg}
		}
		return answer{b: bytesOf(l)}
	}
	return call{"put", "", do, must}
}

func finding(name string) call {
	do := func(l []api.Entry, text string) answer {
		n, e := entry.Find(l, text)
		return answer{node: n, e: e}
	}
	must := func(l []api.Entry, text string) answer {
		for _, x := range l {
			if x.Name == text {
				return answer{node: x.Node}
			}
		}
		return answer{e: api.ErrNoEnt}
	}
	return call{fmt.Sprintf("find %q", name), name, do, must}
}

func adding(name string, node int) call {
	do := func(l []api.Entry, text string) answer {
		m, e := entry.With(l, api.Entry{Name: text, Node: node})
		return answer{l: m, e: e}
	}
	must := func(l []api.Entry, text string) answer {
		switch {
		case !right(l):
			return answer{e: api.ErrArg}
		case !may(text):
			return answer{e: api.ErrName}
		case node < 1 || node > 64:
			return answer{e: api.ErrArg}
		case slices.Contains(namesIn(l), text):
			return answer{e: api.ErrExist}
		case len(l) >= 40:
			return answer{e: api.ErrMany}
		}
		return answer{l: sorted(append(twin(l), api.Entry{Name: text, Node: node}))}
	}
	return call{fmt.Sprintf("with %q %d", name, node), name, do, must}
}

func removing(name string) call {
	do := func(l []api.Entry, text string) answer {
		m, e := entry.Without(l, text)
		return answer{l: m, e: e}
	}
	must := func(l []api.Entry, text string) answer {
		switch {
		case !right(l):
			return answer{e: api.ErrArg}
		case !slices.Contains(namesIn(l), text):
			return answer{e: api.ErrNoEnt}
		}
		return answer{l: slices.DeleteFunc(twin(l), func(x api.Entry) bool { return x.Name == text })}
	}
	return call{fmt.Sprintf("without %q", name), name, do, must}
}

func naming(node int) call {
	do := func(l []api.Entry, _ string) answer { return answer{names: entry.Names(l, node)} }
	must := func(l []api.Entry, _ string) answer {
		return answer{names: namesIn(slices.DeleteFunc(twin(l), func(x api.Entry) bool { return x.Node != node }))}
	}
	return call{fmt.Sprintf("names of %d", node), "", do, must}
}

// may: may a name be? By layer 12's words.
func may(s string) bool {
	return s != "" && s != "." && s != ".." && len(s) <= 24 && !strings.ContainsAny(s, "/\x00")
}

// right: are they entries as the chapter says? Those that are stand as they do when they are sorted, and have as many names as there are of them.
func right(l []api.Entry) bool {
	names := map[string]int{}
	for i, x := range sorted(twin(l)) {
		if l[i].Name != x.Name || !may(x.Name) || x.Node < 1 || x.Node > 64 {
			return false
		}
		names[x.Name]++
	}
	return len(names) == len(l) && len(l) <= 40
}

// bytesOf: entries', right or not, as far as their numbers have room.
func bytesOf(l []api.Entry) []byte {
	var b bytes.Buffer
	for _, x := range l {
		b.WriteByte(byte(x.Node))
		b.WriteByte(byte(len(x.Name)))
		b.WriteString(x.Name)
	}
	return b.Bytes()
}

// taken: what Take must answer of bytes.
func taken(b []byte) answer {
	var l []api.Entry
	for at := 0; at < len(b); {
		if at+1 >= len(b) || at+2+int(b[at+1]) > len(b) {
			return answer{e: api.ErrForm}
		}
		next := at + 2 + int(b[at+1])
		l = append(l, api.Entry{Name: string(b[at+2 : next]), Node: int(b[at])})
		at = next
	}
	if !right(l) {
		return answer{e: api.ErrForm}
	}
	return answer{l: l}
}

// twin: the same entries in memory of their own.
func twin(l []api.Entry) []api.Entry {
	m := slices.Clone(l)
	for i, x := range m {
		m[i].Name = strings.Clone(x.Name)
	}
	return m
}

// sorted: by their names, byte by byte.
func sorted(l []api.Entry) []api.Entry {
	sort.SliceStable(l, func(i, j int) bool { return bytes.Compare([]byte(l[i].Name), []byte(l[j].Name)) < 0 })
	return l
}

// namesIn: of all entries, as they stand there.
func namesIn(l []api.Entry) []string {
	var names []string
	for _, x := range l {
		names = append(names, x.Name)
	}
	return names
}

// over: a text that stands in those bytes, whatever they become.
func over(b []byte) string { return unsafe.String(unsafe.SliceData(b), len(b)) }

// spare: what stands in a list's spare room.
var spare = []api.Entry{{Name: "spare", Node: 7}, {Name: "room", Node: -7}}

// done: what a call answers, with its arguments in memory of their own. They stay, their spare room too; what is answered is new memory, and the same each time.
func done(t *testing.T, l []api.Entry, c call) answer {
	t.Helper()
	var texts [][]byte
	held := make([]api.Entry, 0, len(l)+len(spare))
	for _, x := range l {
		texts = append(texts, []byte(x.Name))
		held = append(held, api.Entry{Name: over(texts[len(texts)-1]), Node: x.Node})
	}
	full := append(held, spare...)
	text := []byte(c.text)
	first := c.do(held, over(text))
	second := c.do(held, over(text))
	if !first.is(second) {
		t.Fatalf("%s of %s: %v, then %v", c.name, said(l), first, second)
	}
	told := second.copied()
	first.spoil()
	if !slices.Equal(full[:len(l)], l) || !slices.Equal(full[len(l):], spare) || string(text) != c.text {
		t.Fatalf("%s of %s: what was handed in is another one", c.name, said(l))
	}
	for _, b := range append(texts, text) {
		for i := range b {
			b[i] = '?'
		}
	}
	for i := range full {
		full[i] = api.Entry{Name: "handed in", Node: 98}
	}
	if !second.is(told) {
		t.Fatalf("%s of %s: %v became %v", c.name, said(l), told, second)
	}
	return told
}

// check: a call answers what it must.
func check(t *testing.T, l []api.Entry, c call) answer {
	t.Helper()
	got, want := done(t, l, c), c.must(l, c.text)
	if !got.is(want) {
		t.Fatalf("%s of %s: %v, not %v", c.name, said(l), got, want)
	}
	return got
}

// checkTake: it answers what it must, with bytes in memory of their own; what is taken is put as these bytes.
func checkTake(t *testing.T, b []byte) answer {
	t.Helper()
	full := append(make([]byte, 0, len(b)+8), b...)
	full = append(full, 5, 1, 'z', 1, 0, 0, 5, 2)
	held := full[:len(b)]
	take := func() answer {
		l, e := entry.Take(held)
		return answer{l: l, e: e}
	}
	first, second, want := take(), take(), taken(b)
	if !first.is(want) || !second.is(want) {
		t.Fatalf("take % x: %v, %v, not %v", b, first, second, want)
	}
	first.spoil()
	if !bytes.Equal(held, b) || !bytes.Equal(full[len(b):], []byte{5, 1, 'z', 1, 0, 0, 5, 2}) {
		t.Fatalf("take % x: the bytes are other ones", b)
	}
	for i := range full {
		full[i] ^= 0xa5
	}
	if !second.is(want) {
		t.Fatalf("take % x: %v became %v", b, want, second)
	}
	if again, e := entry.Put(want.l); want.e == api.OK && (e != api.OK || !bytes.Equal(again, b)) {
		t.Fatalf("take % x: put as % x, %v", b, again, e)
	}
	return want
}

// checkAll: each call of entries answers what it must; what is put is taken as it was; what is added is found, and taken away it is as before.
func checkAll(t *testing.T, l []api.Entry, names []string, nodes []int) {
	t.Helper()
	check(t, l, righting())
	if put := check(t, l, putting()); put.e == api.OK {
		if got := checkTake(t, put.b); got.e != api.OK || !slices.Equal(got.l, l) {
			t.Fatalf("%s: put, and taken as %s", said(l), said(got.l))
		}
	}
	for _, node := range nodes {
		check(t, l, naming(node))
	}
	for _, name := range names {
		check(t, l, finding(name))
		check(t, l, removing(name))
		for _, node := range nodes {
			m := check(t, l, adding(name, node))
			if m.e != api.OK {
				continue
			}
			if got := check(t, m.l, finding(name)); got.node != node || got.e != api.OK {
				t.Fatalf("%q, %d added to %s: it is found as %d, %v", name, node, said(l), got.node, got.e)
			}
			if got := check(t, m.l, removing(name)); got.e != api.OK || !slices.Equal(got.l, l) {
				t.Fatalf("%q, %d added to %s and taken away: %s", name, node, said(l), said(got.l))
			}
		}
	}
}

func said(l []api.Entry) string {
	if len(l) > 50 {
		return fmt.Sprintf("%d entries", len(l))
	}
	s := "["
	for _, x := range l {
		s += fmt.Sprintf(" %q:%d", x.Name, x.Node)
	}
	return s + " ]"
}

// The edges of what a node's number may be, and numbers that look like right ones in fewer bytes.
func goodNodes() []int { return []int{1, 2, 33, 63, 64} }

func badNodes() []int {
	return []int{-1, 0, 65, 66, -64, 127, 128, 255, 256, 257, 320, -255, -256, 1 << 16, 1<<16 + 1, 1<<32 + 1, 1 << 62, math.MinInt, math.MinInt + 1, math.MaxInt, math.MaxInt - 1, math.MinInt32, math.MaxUint32}
}

// goodNames: names that may be, at the edges of it; many of them alike but for a byte, or the beginning of another one.
func goodNames() []string {
	return []string{"\x01", "\x01\x01", " ", "-", "...", "....", ".a", ". ", "..a", "0", "1", "A", "B", "Z", "a", "a\x01", "a ", "a.", "aA", "aa", "aaa", "ab", "aba", "abb", "b", "ba", "z", "~", "\x7f", "\x80", "a\x80", "a\xff", "é", "名", "\xfe", "\xfe\xff", "\xff", "\xff\x01", "\xff\xff",
		strings.Repeat("x", 23), strings.Repeat("x", 24), strings.Repeat("x", 23) + "y", strings.Repeat("\xff", 24), strings.Repeat(".", 24)}
}

// badNames: names that may not be; two of them have as many bytes as a right one, in one byte.
func badNames() []string {
	return []string{"", ".", "..", "/", "a/", "/a", "a/b", "\x00", "a\x00", "\x00a", "a\x00b", strings.Repeat("x", 25), strings.Repeat("x", 23) + "/", strings.Repeat("x", 255), strings.Repeat("x", 256), strings.Repeat("x", 257), strings.Repeat("\xff", 25)}
}

// many: so many right entries.
func many(n int) []api.Entry {
	var l []api.Entry
	for i := range n {
		l = append(l, api.Entry{Name: fmt.Sprintf("n%04d", i), Node: 1 + i*7%64})
	}
	return l
}

// of: entries of these names, in this order, with nodes from 1 on.
func of(names ...string) []api.Entry {
	var l []api.Entry
	for i, s := range names {
		l = append(l, api.Entry{Name: s, Node: 1 + i%64})
	}
	return l
}

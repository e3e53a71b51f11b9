package folder_test

import (
	"bytes"
	"fmt"
	"slices"
	"sort"
	"strings"
	"testing"
	"unsafe"

	"lazaret/api"
	"lazaret/folder"
	"lazaret/space"
)

// What directories must be, told as plain data and by the chapters' words; and what holds the calls against it.

// thing: a node as plain data: its kind, how many names it has, and its bytes; or, of kind 0, none, and the bytes of a record that says nothing, if these aren't all 0.
type thing struct {
	kind, links int
	b           []byte
	bad         [64]byte
}

// plain: a table as plain data: things by their numbers, and how often its leaves are kept.
type plain struct {
	copies int
	at     [65]thing
}

// nothing: a table without nodes.
func nothing() plain { return plain{copies: 2} }

func (x plain) with(number int, n thing) plain {
	x.at[number] = n
	return x
}

// dirOf: a directory of these entries, right or not.
func dirOf(l ...api.Entry) thing { return bytesAsDir(bytesOf(l)) }

// bytesAsDir: a directory of these bytes, whatever they say.
func bytesAsDir(b []byte) thing { return thing{kind: api.KindDir, links: 1, b: b} }

// fileOf: a file of these bytes.
func fileOf(b string) thing { return thing{kind: api.KindFile, links: 3, b: []byte(b)} }

// linkOf: a symbolic link.
func linkOf(target string) thing { return thing{kind: api.KindLink, links: 99, b: []byte(target)} }

// badOf: a record that says nothing.
func badOf(b ...byte) thing {
	var n thing
	copy(n.bad[:], b)
	return n
}

// keeps: how often a thing's leaves are kept.
func (n thing) keeps() int {
	if n.kind == api.KindFile {
		return 1
	}
	return 2
}

// entries: of a directory, and which error there is ahead of any of a call's own.
func (x plain) entries(dir int) ([]api.Entry, api.Errno) {
	if e := x.node(dir); e != api.OK {
		return nil, e
	}
	return taken(x.at[dir].b)
}

// node: is there a directory?
func (x plain) node(dir int) api.Errno {
	if dir < 1 || dir > 64 {
		return api.ErrArg
	}
	switch n := x.at[dir]; {
	case n.bad != [64]byte{}:
		return api.ErrDamage
	case n.kind == 0:
		return api.ErrNoEnt
	case n.kind != api.KindDir:
		return api.ErrNotDir
	}
	return api.OK
}

// all: the numbers of all directories.
func (x plain) all() ([]int, api.Errno) {
	var l []int
	for number, n := range x.at {
		if n.bad != [64]byte{} {
			return nil, api.ErrDamage
		}
		if n.kind == api.KindDir {
			l = append(l, number)
		}
	}
	return l, api.OK
}

// shape: bytes of which a leaf is all zeros just where one of the table is.
func (x plain) shape() []byte {
	var b []byte
	for number, n := range x.at {
		if n.kind > 0 || n.bad != [64]byte{} {
			b = append(b, make([]byte, 64*number-len(b))...)
			b[64*number-1] = 1
		}
	}
	return b
}

// sectors: how many the table and all its things ask for.
func (x plain) sectors() int {
	used := sectors(x.shape(), x.copies)
	for _, n := range x.at {
		used += sectors(n.b, n.keeps())
	}
	return used
}

// may: may a name be? By layer 12's words.
func may(s string) bool {
	return s != "" && s != "." && s != ".." && len(s) <= 24 && !strings.ContainsAny(s, "/\x00")
}

// right: are they entries as layer 15 says? Those that are stand as they do when they are sorted, and have as many names as there are of them.
func right(l []api.Entry) bool {
	names := map[string]int{}
	for i, x := range sorted(l) {
		if l[i].Name != x.Name || !may(x.Name) || x.Node < 1 || x.Node > 64 {
			return false
		}
		names[x.Name]++
	}
	return len(names) == len(l) && len(l) <= 40
}

// bytesOf: entries', right or not, as far as their numbers have room.
func bytesOf(l []api.Entry) []byte {
	var b bytes.Buffer
	for _, x := range l {
		b.WriteByte(byte(x.Node))
		b.WriteByte(byte(len(x.Name)))
		b.WriteString(x.Name)
	}
	return b.Bytes()
}

// taken: the entries of bytes.
func taken(b []byte) ([]api.Entry, api.Errno) {
	var l []api.Entry
	for at := 0; at < len(b); {
		if at+1 >= len(b) || at+2+int(b[at+1]) > len(b) {
			return nil, api.ErrDamage
		}
		next := at + 2 + int(b[at+1])
		l = append(l, api.Entry{Name: string(b[at+2 : next]), Node: int(b[at])})
		at = next
	}
	if !right(l) {
		return nil, api.ErrDamage
	}
	return l, api.OK
}

// sorted: the same entries by their names, byte by byte.
func sorted(l []api.Entry) []api.Entry {
	l = slices.Clone(l)
	sort.SliceStable(l, func(i, j int) bool { return bytes.Compare([]byte(l[i].Name), []byte(l[j].Name)) < 0 })
	return l
}

// place: where an entry of a name stands; -1, if there is none.
func place(l []api.Entry, name string) int {
	for i, x := range l {
		if x.Name == name {
			return i
		}
	}
	return -1
}

// answer: what a call answers, as far as it does.
type answer struct {
	l    []api.Entry
	dirs []int
	node int
	code api.Errno
}

func (a answer) is(b answer) bool {
	return slices.Equal(a.l, b.l) && slices.Equal(a.dirs, b.dirs) && a.node == b.node && a.code == b.code
}

func (a answer) String() string { return fmt.Sprintf("%s %v %d %v", said(a.l), a.dirs, a.node, a.code) }

// copied: the same answer in memory of its own.
func (a answer) copied() answer {
	a.l, a.dirs = twin(a.l), slices.Clone(a.dirs)
	return a
}

// spoil: all that the answer's lists hold becomes something else, and their spare room.
func (a answer) spoil() {
	for i := range a.l[:cap(a.l)] {
		a.l[:cap(a.l)][i] = api.Entry{Name: "spoilt", Node: 99}
	}
	for i := range a.dirs[:cap(a.dirs)] {
		a.dirs[:cap(a.dirs)][i] = -99
	}
}

// call: one of the calls with its arguments; what it makes of plain data, and answers.
type call struct {
	name string
	dir  int         // the directory; 0: all of them
	l    []api.Entry // entries that are handed in
	text string      // a name that is
	over bool        // what stands in the directory isn't read
	run  func(v *api.Vol, s *api.Stem, l []api.Entry, text string) answer
	must func(x plain) (plain, answer)
}

// some: the stem that a pointer leads to, if there is one.
func some(s *api.Stem) api.Stem {
	if s == nil {
		return api.Stem{}
	}
	return *s
}

func reading(dir int) call {
	return call{
		name: fmt.Sprintf("read %d", dir), dir: dir,
		run: func(v *api.Vol, s *api.Stem, _ []api.Entry, _ string) answer {
			l, e := folder.Read(v, some(s), dir)
			return answer{l: l, code: e}
		},
		must: func(x plain) (plain, answer) {
			l, e := x.entries(dir)
			return x, answer{l: l, code: e}
		},
	}
}

func finding(dir int, name string) call {
	return call{
		name: fmt.Sprintf("find %q in %d", name, dir), dir: dir, text: name,
		run: func(v *api.Vol, s *api.Stem, _ []api.Entry, text string) answer {
			n, e := folder.Find(v, some(s), dir, text)
			return answer{node: n, code: e}
		},
		must: func(x plain) (plain, answer) {
			l, e := x.entries(dir)
			if e != api.OK {
				return x, answer{code: e}
			}
			if i := place(l, name); i >= 0 {
				return x, answer{node: l[i].Node}
			}
			return x, answer{code: api.ErrNoEnt}
		},
	}
}

// becomes: the directory has these bytes.
func (x plain) becomes(dir int, b []byte) (plain, answer) {
	n := x.at[dir]
	n.b = b
	return x.with(dir, n), answer{}
}

func writing(dir int, l ...api.Entry) call {
	return call{
		name: fmt.Sprintf("write %s to %d", said(l), dir), dir: dir, l: l, over: true,
		run: func(v *api.Vol, s *api.Stem, l []api.Entry, _ string) answer {
			return answer{code: folder.Write(v, s, dir, l)}
		},
		must: func(x plain) (plain, answer) {
			if e := x.node(dir); e != api.OK {
				return x, answer{code: e}
			}
			if !right(l) {
				return x, answer{code: api.ErrArg}
			}
			return x.becomes(dir, bytesOf(l))
		},
	}
}

func adding(dir int, name string, node int) call {
	return call{
		name: fmt.Sprintf("add %q, %d to %d", name, node, dir), dir: dir, text: name,
		run: func(v *api.Vol, s *api.Stem, _ []api.Entry, text string) answer {
			return answer{code: folder.Add(v, s, dir, api.Entry{Name: text, Node: node})}
		},
		must: func(x plain) (plain, answer) {
			l, e := x.entries(dir)
			switch {
			case e != api.OK:
				return x, answer{code: e}
			case !may(name):
				return x, answer{code: api.ErrName}
			case node < 1 || node > 64:
				return x, answer{code: api.ErrArg}
			case place(l, name) >= 0:
				return x, answer{code: api.ErrExist}
			case len(l) >= 40:
				return x, answer{code: api.ErrMany}
			}
			return x.becomes(dir, bytesOf(sorted(append(l, api.Entry{Name: name, Node: node}))))
		},
	}
}

func removing(dir int, name string) call {
	return call{
		name: fmt.Sprintf("remove %q from %d", name, dir), dir: dir, text: name,
		run: func(v *api.Vol, s *api.Stem, _ []api.Entry, text string) answer {
			return answer{code: folder.Remove(v, s, dir, text)}
		},
		must: func(x plain) (plain, answer) {
			l, e := x.entries(dir)
			if e != api.OK {
				return x, answer{code: e}
			}
			i := place(l, name)
			if i < 0 {
				return x, answer{code: api.ErrNoEnt}
			}
			return x.becomes(dir, bytesOf(slices.Delete(l, i, i+1)))
		},
	}
}

func alling() call {
	return call{
		name: "all",
		run: func(v *api.Vol, s *api.Stem, _ []api.Entry, _ string) answer {
			l, e := folder.All(v, some(s))
			return answer{dirs: l, code: e}
		},
		must: func(x plain) (plain, answer) {
			l, e := x.all()
			return x, answer{dirs: l, code: e}
		},
	}
}

// over: a text that stands in those bytes, whatever they become.
func over(b []byte) string { return unsafe.String(unsafe.SliceData(b), len(b)) }

// twin: the same entries in memory of their own.
func twin(l []api.Entry) []api.Entry {
	l = slices.Clone(l)
	for i, x := range l {
		l[i].Name = strings.Clone(x.Name)
	}
	return l
}

// spare: what stands in a list's spare room.
var spare = []api.Entry{{Name: "spare", Node: 7}, {Name: "room", Node: -7}}

// held: a call's arguments in memory of their own, that can be spoilt.
type held struct {
	list  []api.Entry // with what stands in its spare room
	names [][]byte
	text  []byte
}

func hold(c call) held {
	h := held{text: []byte(c.text)}
	for _, x := range c.l {
		b := []byte(x.Name)
		h.names, h.list = append(h.names, b), append(h.list, api.Entry{Name: over(b), Node: x.Node})
	}
	h.list = append(h.list, spare...)
	return h
}

func (h held) run(c call, v *api.Vol, s *api.Stem) answer {
	return c.run(v, s, h.list[:len(c.l)], over(h.text))
}

// stays: do the arguments stand as they were handed in?
func (h held) stays(c call) bool {
	return slices.Equal(h.list[:len(c.l)], c.l) && slices.Equal(h.list[len(c.l):], spare) && string(h.text) == c.text
}

func (h held) spoil() {
	for _, b := range append(h.names, h.text) {
		for i := range b {
			b[i] = '?'
		}
	}
	for i := range h.list {
		h.list[i] = api.Entry{Name: "handed in", Node: 98}
	}
}

// done: a call is done; another time it does the same. What was handed in stays, the room behind lists too; those that are new share nothing with them. Beside an error nothing else is answered, and table and Space are as they were.
func done(t *testing.T, v api.Vol, s api.Stem, c call) (api.Vol, api.Stem, answer) {
	t.Helper()
	v = roomy(v)
	old, oldStem, was, h := v, s, whole(v), hold(c)
	got := h.run(c, &v, &s)
	end, answered := copied(v), got.copied()
	again, stemAgain := old, oldStem
	gotAgain := h.run(c, &again, &stemAgain)
	if !gotAgain.is(got) || !same(again, v) || stemAgain != s {
		t.Fatalf("%s: another time %v, %s, not %v, %s", c.name, gotAgain, toldStem(stemAgain), got, toldStem(s))
	}
	if got.code != api.OK && (!got.is(answer{code: got.code}) || s != oldStem || !sameSpace(v.Space, old.Space)) {
		t.Fatalf("%s: beside an error: %v, %s", c.name, got, toldStem(s))
	}
	if !h.stays(c) {
		t.Fatalf("%s: what was handed in is another one", c.name)
	}
	h.spoil()
	got.spoil()
	spoil(v, old)
	if !same(whole(old), was) {
		t.Fatalf("%s: lists that stood there, or the room behind them, are changed", c.name)
	}
	if !gotAgain.is(answered) || !same(again, end) {
		t.Fatalf("%s: what is answered shares memory with what was handed in, or with another answer", c.name)
	}
	return end, s, answered
}

// check: a call on a volume on which the table stands alone, with power, good sectors and much room: what it must do and answer. The answer is what there is then.
func check(t *testing.T, v api.Vol, s api.Stem, x plain, c call) (api.Vol, api.Stem, plain) {
	t.Helper()
	end, next, got := done(t, v, s, c)
	want, must := c.must(x)
	if !got.is(must) {
		t.Fatalf("%s: %v, not %v", c.name, got, must)
	}
	if (got.code != api.OK || c.dir == 0 || bytes.Equal(want.at[c.dir].b, x.at[c.dir].b)) && (!same(end, v) || next != s) {
		t.Fatalf("%s: %v: nothing becomes another one, but something is changed", c.name, got)
	}
	if same(end, v) && next == s {
		return end, next, want
	}
	holds(t, end, next, want)
	// What stood there still does.
	old := end
	old.Space = v.Space
	stands(t, old, s, x)
	return end, next, want
}

// refused: a call answers an error, and nothing at all is changed.
func refused(t *testing.T, v api.Vol, s api.Stem, c call, code api.Errno) {
	t.Helper()
	if end, next, got := done(t, v, s, c); got.code != code || !same(end, v) || next != s {
		t.Fatalf("%s: %v, %s, not %v", c.name, got, toldStem(next), code)
	}
}

// failed: a call answers an error, beside which table and Space are as they were.
func failed(t *testing.T, v api.Vol, s api.Stem, c call, code api.Errno) {
	t.Helper()
	if _, _, got := done(t, v, s, c); got.code != code {
		t.Fatalf("%s: %v, not %v", c.name, got, code)
	}
}

// holds: the table is that data, each directory is read as that data says, and just as many sectors are in use as that asks for.
func holds(t *testing.T, v api.Vol, s api.Stem, x plain) {
	t.Helper()
	stands(t, v, s, x)
	tells(t, v, s, x)
	if used := space.Used(v.Space); used != x.sectors() {
		t.Fatalf("%d sectors are in use, not %d", used, x.sectors())
	}
}

// tells: each number is read, some entries of each directory are found, and all directories are told, as that data says.
func tells(t *testing.T, v api.Vol, s api.Stem, x plain) {
	t.Helper()
	for dir := 0; dir <= 65; dir++ {
		want, code := x.entries(dir)
		l, e := folder.Read(&v, s, dir)
		if e != code || !slices.Equal(l, want) {
			t.Fatalf("read of %d: %s, %v, not %s, %v", dir, said(l), e, said(want), code)
		}
		for i := dir % 3; i < len(want); i += 1 + len(want)/3 {
			x := want[i]
			if n, e := folder.Find(&v, s, dir, x.Name); n != x.Node || e != api.OK {
				t.Fatalf("find of %q in %d: %d, %v, not %d", x.Name, dir, n, e, x.Node)
			}
		}
	}
	want, code := x.all()
	if l, e := folder.All(&v, s); e != code || !slices.Equal(l, want) {
		t.Fatalf("all: %v, %v, not %v, %v", l, e, want, code)
	}
}

func said(l []api.Entry) string {
	if len(l) > 9 {
		return fmt.Sprintf("%d entries", len(l))
	}
	s := "["
	for _, x := range l {
		s += fmt.Sprintf(" %q:%d", x.Name, x.Node)
	}
	return s + " ]"
}

package folder_test

import (
	"fmt"
	"math"
	"slices"
	"strings"
	"testing"

	"lazaret/api"
	"lazaret/folder"
	"lazaret/inode"
	"lazaret/space"
	"lazaret/table"
)

// goodNames: names that may be, at the edges of it; many of them alike but for a byte, or the beginning of another one.
func goodNames() []string {
	return []string{"\x01", " ", "...", ".a", "..a", "A", "a", "a ", "a.", "aa", "aaa", "ab", "b", "z", "\x7f", "\x80", "a\x80", "a\xff", "é", "名", "\xff", "\xff\xff",
		strings.Repeat("x", 23), strings.Repeat("x", 24), strings.Repeat("x", 23) + "y", strings.Repeat("\xff", 24), strings.Repeat(".", 24)}
}

// badNames: names that may not be; two of them have as many bytes as a right one, in one byte.
func badNames() []string {
	return []string{"", ".", "..", "/", "a/", "/a", "a/b", "\x00", "a\x00", "\x00a", "a\x00b", strings.Repeat("x", 25), strings.Repeat("x", 23) + "/", strings.Repeat("x", 255), strings.Repeat("x", 256), strings.Repeat("x", 257), strings.Repeat("\xff", 25)}
}

// badNodes: numbers that no node has; some look like a right one in fewer bytes.
func badNodes() []int {
	return []int{-1, 0, 65, 66, -64, 128, 255, 256, 257, -255, 1<<16 + 1, 1<<32 + 1, 1 << 62, math.MinInt, math.MinInt + 1, math.MaxInt}
}

// many: so many right entries, with names of so many bytes.
func many(n, long int) []api.Entry {
	var l []api.Entry
	for i := range n {
		s := fmt.Sprintf("%02d", i)
		l = append(l, api.Entry{Name: s + strings.Repeat("n", long-len(s)), Node: 1 + i*7%64})
	}
	return l
}

// of: entries of these names, in this order, with nodes from 1 on.
func of(names ...string) []api.Entry {
	var l []api.Entry
	for i, s := range names {
		l = append(l, api.Entry{Name: s, Node: 1 + i%64})
	}
	return l
}

// ordinary: directories, files and links, in this order: 1 a directory, 2 a file, 3 a link, 5 and 8 directories, 64 too; there are no others.
func ordinary() plain {
	return nothing().with(1, dirOf(of("bin", "etc", "src")...)).with(2, fileOf("some bytes")).with(3, linkOf("/bin")).
		with(5, dirOf()).with(8, dirOf(many(20, 12)...)).with(64, dirOf(of("a", "aa", "b")...))
}

// numbers: at all edges, and some between.
func numbers() []int {
	return append(extremes(), -1, 0, 1, 2, 3, 4, 5, 8, 9, 63, 64, 65, 66, 128, 256, 257)
}

// callsOf: all calls of a directory, with arguments that may be where there is such a name, or is none.
func callsOf(dir int) []call {
	return []call{
		reading(dir), finding(dir, "a"), finding(dir, "bin"), finding(dir, ".."), writing(dir), writing(dir, of("a", "c")...), adding(dir, "a", 64), adding(dir, "c", 1),
		removing(dir, "a"), removing(dir, "etc"), removing(dir, ""),
	}
}

// wrongCallsOf: such calls with arguments that are refused wherever a directory is read as it must be.
func wrongCallsOf(dir int) []call {
	return []call{finding(dir, "none"), writing(dir, of("b", "a")...), writing(dir, many(41, 3)...), adding(dir, "a/b", 1), adding(dir, "c", 0), removing(dir, "none")}
}

// The chapter's example.
func TestExample(t *testing.T) {
	v, s := fresh(t, 40), empty()
	n, _ := inode.New(1, api.KindDir)
	if e := table.Set(&v, &s, n); e != api.OK {
		t.Fatal(e)
	}
	if e := folder.Add(&v, &s, 1, api.Entry{Name: "a", Node: 2}); e != api.OK {
		t.Error(e)
	}
	if k, e := folder.Find(&v, s, 1, "a"); k != 2 || e != api.OK {
		t.Error(k, e)
	}
	if e := folder.Add(&v, &s, 1, api.Entry{Name: "a", Node: 3}); e != api.ErrExist {
		t.Error(e)
	}
}

// Two directories by hand: what is told, and how many sectors are in use, behind each step. The table has six: two leaves and the node above them, each twice.
func TestByHand(t *testing.T) {
	v, s := fresh(t, 40), empty()
	for k, kind := range []int{api.KindDir, api.KindFile, api.KindDir} {
		n, _ := inode.New(k+1, kind)
		if e := table.Set(&v, &s, n); e != api.OK {
			t.Fatal(e)
		}
	}
	long := strings.Repeat("n", 24)
	step := func(what string, e api.Errno, used int, want ...api.Entry) {
		t.Helper()
		l, code := folder.Read(&v, s, 1)
		if e != api.OK || code != api.OK || !slices.Equal(l, want) || space.Used(v.Space) != used {
			t.Errorf("%s: %v, then %s, %v, %d sectors", what, e, said(l), code, space.Used(v.Space))
		}
	}
	step("add b", folder.Add(&v, &s, 1, api.Entry{Name: "b", Node: 2}), 8, api.Entry{Name: "b", Node: 2})
	step("add a", folder.Add(&v, &s, 1, api.Entry{Name: "a", Node: 3}), 8, api.Entry{Name: "a", Node: 3}, api.Entry{Name: "b", Node: 2})
	step("write 5 to the other one", folder.Write(&v, &s, 3, many(5, 24)), 14, api.Entry{Name: "a", Node: 3}, api.Entry{Name: "b", Node: 2})
	step("remove b", folder.Remove(&v, &s, 1, "b"), 14, api.Entry{Name: "a", Node: 3})
	step("add a long name", folder.Add(&v, &s, 1, api.Entry{Name: long, Node: 64}), 14, api.Entry{Name: "a", Node: 3}, api.Entry{Name: long, Node: 64})
	step("write 4 to the other one", folder.Write(&v, &s, 3, many(4, 24)), 10, api.Entry{Name: "a", Node: 3}, api.Entry{Name: long, Node: 64})
	step("write none", folder.Write(&v, &s, 1, nil), 8)
	step("write none to the other one", folder.Write(&v, &s, 3, []api.Entry{}), 6)
	if l, e := folder.All(&v, s); !slices.Equal(l, []int{1, 3}) || e != api.OK {
		t.Error(l, e)
	}
}

// Each number, at all edges: of a directory, a file, a link, no node, and none that a node may have.
func TestEachNumber(t *testing.T) {
	t.Parallel()
	x := ordinary()
	v, s, _ := planted(t, 20, x)
	holds(t, v, s, x)
	check(t, v, s, x, alling())
	for _, dir := range numbers() {
		for _, c := range append(callsOf(dir), wrongCallsOf(dir)...) {
			check(t, v, s, x, c)
		}
	}
	// In each kind of order: what isn't a directory first, and last.
	for _, x := range []plain{
		nothing(), nothing().with(1, fileOf("")), nothing().with(1, linkOf("a")), nothing().with(64, fileOf("")), nothing().with(64, linkOf("a")).with(63, dirOf()),
		nothing().with(1, dirOf()), nothing().with(64, dirOf(of("a", "etc")...)), nothing().with(1, linkOf("/")).with(2, dirOf(of("a", "etc")...)), nothing().with(2, dirOf()).with(3, fileOf("a file")),
	} {
		v, s, _ := planted(t, 20, x)
		holds(t, v, s, x)
		check(t, v, s, x, alling())
		for _, dir := range []int{math.MinInt, -1, 0, 1, 2, 3, 4, 63, 64, 65, math.MaxInt} {
			for _, c := range append(callsOf(dir), wrongCallsOf(dir)...) {
				check(t, v, s, x, c)
			}
		}
	}
	// A file or a link is no directory, though its bytes are entries'.
	b := string(bytesOf(of("a", "etc")))
	x = nothing().with(1, fileOf(b)).with(2, linkOf(b))
	v, s, _ = planted(t, 20, x)
	for _, c := range slices.Concat(callsOf(1), callsOf(2), wrongCallsOf(1), wrongCallsOf(2)) {
		refused(t, v, s, c, api.ErrNotDir)
	}
}

// No entries, one, and as many as there may be, and one more, with short names and with the longest ones: each call.
func TestHowMany(t *testing.T) {
	t.Parallel()
	for _, long := range []int{2, 3, 23, 24} {
		for _, n := range []int{0, 1, 2, 4, 5, 10, 20, 39, 40, 41} {
			if long == 23 && n < 39 {
				continue
			}
			l := many(n, long)
			x := nothing().with(7, dirOf(l...)).with(8, dirOf(of("other")...))
			v, s, _ := planted(t, 20, x)
			holds(t, v, s, x)
			list := callsOf(7)
			for _, i := range []int{0, 1, n / 2, n - 2, n - 1} {
				if i >= 0 && i < n {
					list = append(list, finding(7, l[i].Name), removing(7, l[i].Name), adding(7, l[i].Name, 64), finding(7, l[i].Name+"n"), removing(7, l[i].Name+"n"))
				}
			}
			for _, m := range []int{0, 1, 39, 40, 41} {
				list = append(list, writing(7, many(m, 24)...), writing(7, many(m, 2)...))
			}
			list = append(list, writing(7, l...), adding(7, " ", 1), adding(7, "\xff", 64), adding(7, strings.Repeat("\xff", 24), 9), adding(7, strings.Repeat(" ", 24), 9))
			for _, c := range list {
				check(t, v, s, x, c)
			}
		}
	}
}

// Names at all edges are added, found, and removed, alone and beside others; those that may not be are refused, and two alike.
func TestNames(t *testing.T) {
	t.Parallel()
	for _, l := range [][]api.Entry{nil, of("a"), of("A", "a", "b", "\xfe"), many(39, 24)} {
		x := nothing().with(1, dirOf(l...))
		v, s, _ := planted(t, 10, x)
		for i, name := range append(goodNames(), badNames()...) {
			check(t, v, s, x, finding(1, name))
			check(t, v, s, x, removing(1, name))
			end, next, y := check(t, v, s, x, adding(1, name, 1+i%64))
			check(t, v, s, x, adding(1, name, badNodes()[i%len(badNodes())]))
			if added := !slices.Equal(y.at[1].b, x.at[1].b); added != (may(name) && place(l, name) < 0) {
				t.Errorf("%q to %s: %v", name, said(l), added)
			} else if !added {
				continue
			}
			check(t, end, next, y, finding(1, name))
			check(t, end, next, y, adding(1, name, 64))
			check(t, end, next, y, adding(1, "y", 64))
			// Taken away, it is as before.
			if _, last, z := check(t, end, next, y, removing(1, name)); !slices.Equal(z.at[1].b, x.at[1].b) || last.Size != s.Size {
				t.Errorf("%q to %s, and away: % x", name, said(l), z.at[1].b)
			}
		}
		for _, node := range append(badNodes(), 1, 2, 63, 64) {
			check(t, v, s, x, adding(1, "new", node))
			check(t, v, s, x, adding(1, "a", node))
		}
	}
}

// wrong: entries that aren't right, for one reason each.
func wrong() [][]api.Entry {
	l := [][]api.Entry{of("b", "a"), of("a", "a"), of("aa", "a"), of("a", "c", "b"), of("a", "b", "a"), of("\x80", "\x7f"), many(41, 24), many(41, 2), many(99, 3), {{Name: "a", Node: 1}, {Name: "a", Node: 2}}, {{}}, slices.Repeat(of("a"), 41)}
	for _, name := range badNames() {
		l = append(l, of(name), of("\x01", name, "\xff\xff\xff"))
	}
	for i, node := range badNodes() {
		x := of("a", "b", "c")
		x[i%3].Node = node
		l = append(l, x, []api.Entry{{Name: "a", Node: node}})
	}
	full := many(40, 24)
	full[39].Name = full[38].Name
	return append(l, full)
}

// Entries that aren't right are not written, whatever stands there: ErrArg.
func TestWriteOfWrongEntries(t *testing.T) {
	t.Parallel()
	x := ordinary().with(9, bytesAsDir([]byte{9}))
	v, s, _ := planted(t, 20, x)
	for _, l := range wrong() {
		if right(l) {
			t.Fatal(said(l))
		}
		for _, dir := range []int{1, 5, 8, 9} {
			check(t, v, s, x, writing(dir, l...))
			refused(t, v, s, writing(dir, l...), api.ErrArg)
		}
	}
	holds(t, v, s, x)
}

// Each list is written over each other one, also over bytes that are no entries'.
func TestWrite(t *testing.T) {
	t.Parallel()
	lists := [][]api.Entry{nil, of("a"), of("b"), of("a", "b"), many(4, 24), many(5, 24), many(14, 24), many(15, 24), many(39, 24), many(40, 24), many(40, 2), {{Name: strings.Repeat("\xff", 24), Node: 64}}}
	for i, was := range lists {
		x := nothing().with(64, dirOf(was...)).with(2, fileOf("a file")).with(1, dirOf(of("other")...))
		if i%3 == 2 {
			x = x.with(64, bytesAsDir(slices.Repeat([]byte{9}, 100*i)))
		}
		v, s, _ := planted(t, 20, x)
		for _, l := range lists {
			end, next, y := check(t, v, s, x, writing(64, l...))
			if !slices.Equal(y.at[64].b, bytesOf(l)) {
				t.Fatal(said(l))
			}
			check(t, end, next, y, writing(64, was...))
			check(t, end, next, y, writing(64, l...))
		}
	}
}

// All directories, rising, with files, links and no nodes between; whatever their bytes say.
func TestAll(t *testing.T) {
	t.Parallel()
	every := nothing()
	for number := 1; number <= 64; number++ {
		every = every.with(number, []thing{fileOf(""), dirOf(), linkOf("/"), dirOf(), {}}[number%5])
	}
	dirs := nothing()
	for number := 1; number <= 64; number++ {
		dirs = dirs.with(number, dirOf())
	}
	for _, x := range []plain{nothing(), every, dirs, ordinary(), ordinary().with(1, bytesAsDir([]byte{9})), ordinary().with(4, badOf(9)), ordinary().with(64, badOf(2, 1, 1)), nothing().with(64, dirOf())} {
		v, s, _ := planted(t, 60, x)
		holds(t, v, s, x)
		check(t, v, s, x, alling())
	}
	v, s, _ := planted(t, 20, ordinary())
	if l, e := folder.All(&v, s); !slices.Equal(l, []int{1, 5, 8, 64}) || e != api.OK {
		t.Error(l, e)
	}
}

// 64 directories of one table: what is added to each stands in none of the others.
func TestManyDirectories(t *testing.T) {
	t.Parallel()
	x := nothing()
	for dir := 1; dir <= 64; dir++ {
		x = x.with(dir, dirOf())
	}
	v, s, _ := planted(t, 150, x)
	for _, dir := range []int{1, 64, 2, 63, 31, 32, 33, 34} {
		for k := range 3 {
			v, s, x = check(t, v, s, x, adding(dir, fmt.Sprintf("%d of %d", k, dir), dir))
		}
		space.Sweep(&v.Space)
	}
	for dir := 1; dir <= 64; dir++ {
		if e := folder.Add(&v, &s, dir, api.Entry{Name: "more", Node: 65 - dir}); e != api.OK {
			t.Fatal(e)
		}
		l, _ := x.entries(dir)
		x, _ = x.becomes(dir, bytesOf(sorted(append(l, api.Entry{Name: "more", Node: 65 - dir}))))
		space.Sweep(&v.Space)
	}
	holds(t, v, s, x)
}

// Behind whatever was added and written, when all is taken away again there are as few sectors in use as before.
func TestTakenAway(t *testing.T) {
	t.Parallel()
	x := ordinary()
	v, s, _ := planted(t, 20, x)
	used, size := space.Used(v.Space), s.Size
	start := x
	for _, l := range [][]api.Entry{many(40, 24), many(13, 7)} {
		for i := range l {
			v, s, x = check(t, v, s, x, adding(5, l[(i*7)%len(l)].Name, l[i].Node))
			space.Sweep(&v.Space)
		}
		if got := len(x.at[5].b); got != len(bytesOf(l)) {
			t.Fatal(got)
		}
		for i := range l {
			v, s, x = check(t, v, s, x, removing(5, l[(i*3)%len(l)].Name))
			space.Sweep(&v.Space)
		}
		if space.Used(v.Space) != used || s.Size != size {
			t.Errorf("%d are in use, not %d", space.Used(v.Space), used)
		}
		v, s, x = check(t, v, s, x, writing(5, l...))
		space.Settle(&v.Space)
		v, s, x = check(t, v, s, x, writing(5))
		space.Settle(&v.Space)
		if space.Used(v.Space) != used || s.Size != size {
			t.Errorf("%d are in use, not %d", space.Used(v.Space), used)
		}
	}
	holds(t, v, s, start)
}

// A table whose leaves are kept once is as layer 10 asks; a directory is kept twice all the same. One that says that it is kept once is no node.
func TestCopies(t *testing.T) {
	t.Parallel()
	x := ordinary()
	x.copies = 1
	v, s, l := planted(t, 20, x)
	holds(t, v, s, x)
	for _, dir := range []int{1, 2, 4, 5, 8, 64} {
		for _, c := range append(callsOf(dir), wrongCallsOf(dir)...) {
			check(t, v, s, x, c)
		}
	}
	once := l[1].stem
	once.Copies = 1
	raw := recordOf(api.KindDir, 1, once)
	x = nothing().with(2, badOf(raw[:]...))
	v, s, _ = planted(t, 20, x)
	for _, c := range append(callsOf(2), alling()) {
		refused(t, v, s, c, api.ErrDamage)
	}
}

// What else is known of a directory's node stays: how many names it has, its kind, and each other node's.
func TestWhatElseIsKnown(t *testing.T) {
	for _, links := range []int{0, 1, 99} {
		n := dirOf(of("a", "b")...)
		n.links = links
		x := nothing().with(1, n).with(2, fileOf("a file")).with(3, linkOf("b"))
		v, s, _ := planted(t, 20, x)
		for _, c := range []call{writing(1), writing(1, many(40, 24)...), adding(1, "c", 3), removing(1, "a")} {
			check(t, v, s, x, c)
		}
	}
}

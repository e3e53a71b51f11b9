package folder_test

import (
	"fmt"
	"math/rand"
	"slices"
	"testing"

	"lazaret/api"
	"lazaret/disk"
	"lazaret/folder"
	"lazaret/remap"
	"lazaret/space"
)

// Many orders of what is added and removed, and long ways of calls, by chance.

// Whatever order names come in, and go in: there are the same entries, and as many sectors in use.
func TestAllOrders(t *testing.T) {
	t.Parallel()
	names := []string{"b", "ab", "\x80", "a"}
	start := nothing().with(3, dirOf(of("m")...)).with(5, dirOf())
	full := bytesOf([]api.Entry{{Name: "a", Node: 4}, {Name: "ab", Node: 2}, {Name: "b", Node: 1}, {Name: "m", Node: 1}, {Name: "\x80", Node: 3}})
	var come func(v api.Vol, s api.Stem, x plain, left []int)
	var leave func(v api.Vol, s api.Stem, x plain, left []int)
	come = func(v api.Vol, s api.Stem, x plain, left []int) {
		for i, k := range left {
			v, s, x := check(t, v, s, x, adding(3, names[k], k+1))
			space.Sweep(&v.Space)
			come(v, s, x, slices.Delete(slices.Clone(left), i, i+1))
		}
		if len(left) == 0 {
			if !slices.Equal(x.at[3].b, full) {
				t.Fatalf("% x", x.at[3].b)
			}
			leave(v, s, x, []int{0, 1, 2, 3})
		}
	}
	leave = func(v api.Vol, s api.Stem, x plain, left []int) {
		for i, k := range left {
			// Of all orders to go in just one in two.
			if len(left) == 4 && i%2 == 0 {
				continue
			}
			v, s, x := check(t, v, s, x, removing(3, names[k]))
			space.Sweep(&v.Space)
			leave(v, s, x, slices.Delete(slices.Clone(left), i, i+1))
		}
		if len(left) == 0 && !slices.Equal(x.at[3].b, start.at[3].b) {
			t.Fatalf("% x", x.at[3].b)
		}
	}
	v, s, _ := planted(t, 10, start)
	come(v, s, start, []int{0, 1, 2, 3})
}

// names: that calls by chance are of; some of them long.
func names() []string {
	l := goodNames()
	for i := range 40 {
		l = append(l, fmt.Sprintf("%d", i), fmt.Sprintf("a name of 24 bytes, %4d", i))
	}
	return l
}

// someEntries: right, by chance; now and then not.
func someEntries(r *rand.Rand, n int) []api.Entry {
	pool := names()
	var l []api.Entry
	for _, i := range r.Perm(len(pool))[:n] {
		l = append(l, api.Entry{Name: pool[i], Node: 1 + r.Intn(64)})
	}
	l = sorted(l)
	if n > 0 && r.Intn(8) == 0 {
		switch i := r.Intn(n); r.Intn(3) {
		case 0:
			l[i].Name = badNames()[r.Intn(len(badNames()))]
		case 1:
			l[i].Node = badNodes()[r.Intn(len(badNodes()))]
		case 2:
			l[i].Name = l[n/2].Name
		}
	}
	return l
}

// someCall: as chance says; more is added, or removed, by grow. most: of the entries that are written at once.
func someCall(r *rand.Rand, x plain, grow bool, most int) call {
	dir, want := r.Intn(66), api.KindDir
	switch r.Intn(20) {
	case 0:
		want = 0
	case 1:
		want = api.KindFile + r.Intn(2)*(api.KindLink-api.KindFile)
	}
	for _, i := range r.Perm(65) {
		if want > 0 && x.at[i].kind == want {
			dir = i
		}
	}
	l, _ := x.entries(dir)
	name, node := names()[r.Intn(len(names()))], 1+r.Intn(64)
	if len(l) > 0 && r.Intn(3) == 0 {
		name = l[r.Intn(len(l))].Name
	}
	if r.Intn(30) == 0 {
		name = badNames()[r.Intn(len(badNames()))]
	}
	if r.Intn(30) == 0 {
		node = badNodes()[r.Intn(len(badNodes()))]
	}
	switch k := r.Intn(20); {
	case k < 3 || k < 9 && !grow:
		if len(l) > 0 && r.Intn(4) > 0 {
			name = l[r.Intn(len(l))].Name
		}
		return removing(dir, name)
	case k < 13:
		return adding(dir, name, node)
	case k < 15 && grow || k < 14:
		// Often as many as there may be: so that one more is too many.
		return writing(dir, someEntries(r, min(most, r.Intn(most*3/2+1)))...)
	case k < 17:
		return finding(dir, name)
	case k < 19:
		return reading(dir)
	}
	return alling()
}

// someTable: directories, with files and links between, by chance.
func someTable(r *rand.Rand, n int) plain {
	x := nothing()
	for _, i := range r.Perm(64)[:n] {
		switch r.Intn(5) {
		case 0:
			x = x.with(i+1, fileOf("a file")).with(1+r.Intn(64), dirOf())
		case 1:
			x = x.with(i+1, linkOf("/a/b")).with(1+r.Intn(64), dirOf())
		case 2:
			x = x.with(i+1, dirOf(of("a")...))
		default:
			x = x.with(i+1, dirOf())
		}
	}
	return x
}

// Long ways of calls on tables of few directories and of many: each call does what it must; and as many sectors are in use as table and directories ask for, when all is taken away again as few as before.
func TestLongWays(t *testing.T) {
	t.Parallel()
	r := rand.New(rand.NewSource(16))
	told := map[api.Errno]int{}
	for _, k := range []struct{ quota, nodes, steps, most int }{{20, 1, 300, 40}, {40, 5, 250, 40}, {60, 12, 200, 40}, {150, 50, 80, 8}} {
		start := someTable(r, k.nodes)
		for dir := range start.at {
			if start.at[dir].kind == api.KindDir {
				start = start.with(dir, dirOf())
			}
		}
		v, s, _ := planted(t, k.quota, start)
		x, used := start, space.Used(v.Space)
		for step := range k.steps {
			c := someCall(r, x, step%100 < 60, k.most)
			_, must := c.must(x)
			told[must.code]++
			v, s, x = check(t, v, s, x, c)
			switch r.Intn(5) {
			case 0:
				space.Settle(&v.Space)
			case 1:
				flush(t, &v)
			}
			space.Sweep(&v.Space)
		}
		holds(t, v, s, x)
		for dir := range 65 {
			l, e := x.entries(dir)
			if e != api.OK {
				continue
			}
			for _, i := range r.Perm(len(l)) {
				if e := folder.Remove(&v, &s, dir, l[i].Name); e != api.OK {
					t.Fatalf("remove of %q from %d: %v", l[i].Name, dir, e)
				}
				space.Sweep(&v.Space)
			}
			x, _ = x.becomes(dir, nil)
		}
		holds(t, v, s, start)
		if space.Used(v.Space) != used {
			t.Errorf("%d are in use, not %d", space.Used(v.Space), used)
		}
	}
	for _, code := range []api.Errno{api.OK, api.ErrArg, api.ErrNoEnt, api.ErrExist, api.ErrNotDir, api.ErrName, api.ErrMany} {
		if told[code] == 0 {
			t.Errorf("no call was to be answered with %v", code)
		}
	}
}

// What was flushed, and isn't needed any more but wasn't swept, stands behind any crash; what is flushed behind a call does, too.
func TestCrashes(t *testing.T) {
	t.Parallel()
	r := rand.New(rand.NewSource(1616))
	x := ordinary()
	v, s, _ := planted(t, 60, x)
	for range 50 {
		flush(t, &v)
		space.Settle(&v.Space)
		old, oldStem, was := v, s, x
		for range 1 + r.Intn(3) {
			v, s, x = check(t, v, s, x, someCall(r, x, true, 10))
		}
		var keep []bool
		for range v.Disk.Cache {
			keep = append(keep, r.Intn(2) == 0)
		}
		crashed := copied(v)
		disk.Crash(&crashed.Disk, keep...)
		crashed.Space = old.Space
		holds(t, crashed, oldStem, was)
		crashed = copied(v)
		flush(t, &crashed)
		disk.Crash(&crashed.Disk)
		holds(t, crashed, s, x)
	}
}

// Whatever is hit, and wherever the power goes, with much room or little: each call ends, with an error beside which all is as it was, or does what it must; each directory is read as it must be, or can't be.
func TestByChance(t *testing.T) {
	t.Parallel()
	r := rand.New(rand.NewSource(161616))
	codes := map[api.Errno]int{}
	for round := range 24 {
		x := someTable(r, 1+r.Intn(20))
		v, s, _ := planted(t, 30, x)
		if round%3 == 1 {
			v = crowded(v, [2]int{12, 12})
		}
		if round%5 == 0 {
			for at := len(v.Disk.Sectors) - 20; at < len(v.Disk.Sectors); at++ {
				disk.Hit(&v.Disk, at, 3, 0, 0)
			}
		}
		for range 30 {
			mishap(t, r, &v)
			c := someCall(r, x, true, 30)
			var got answer
			v, s, got = done(t, v, s, c)
			codes[got.code]++
			switch want, must := c.must(x); got.code {
			case api.ErrIO, api.ErrDown, api.ErrNoSpace, api.ErrSpares:
				if must.code == api.ErrArg && (c.dir < 1 || c.dir > 64) {
					t.Fatalf("%s: %v, not %v", c.name, got, must)
				}
			default:
				if !got.is(must) {
					t.Fatalf("%s: %v, not %v", c.name, got, must)
				}
				x = want
			}
			if used := space.Used(v.Space); used != x.sectors() {
				t.Fatalf("%s: %v: %d are in use, not %d", c.name, got, used, x.sectors())
			}
			readable(t, v, s, x)
		}
	}
	for _, code := range []api.Errno{api.OK, api.ErrArg, api.ErrIO, api.ErrDown, api.ErrNoEnt, api.ErrNotDir, api.ErrNoSpace, api.ErrSpares, api.ErrExist} {
		if codes[code] == 0 {
			t.Errorf("no call was answered with %v", code)
		}
	}
}

// mishap: sectors are hit, the power goes soon or comes again, room is swept; or nothing is done.
func mishap(t *testing.T, r *rand.Rand, v *api.Vol) {
	t.Helper()
	switch r.Intn(8) {
	case 0, 1:
		for range 4 {
			hit(t, v, 1+r.Intn(3), v.Space.At[0]+r.Intn(60), v.Space.At[1]+r.Intn(60))
		}
	case 2:
		v.Disk.Fuse = r.Intn(20) - 1
	case 3:
		disk.Crash(&v.Disk, slices.Repeat([]bool{true}, len(v.Disk.Cache))...)
		if m, e := remap.Load(&v.Disk); e == api.OK {
			v.Map = m
		}
	case 4, 5:
		space.Sweep(&v.Space)
	}
}

// readable: each directory is read as it must be, or can't be.
func readable(t *testing.T, v api.Vol, s api.Stem, x plain) {
	t.Helper()
	v.Disk.Fuse = -1
	for dir := range 66 {
		_, _, got := done(t, v, s, reading(dir))
		_, must := reading(dir).must(x)
		if !got.is(must) && !got.is(answer{code: api.ErrIO}) && !(v.Disk.Down && got.is(answer{code: api.ErrDown})) {
			t.Fatalf("read of %d: %v, not %v", dir, got, must)
		}
	}
}

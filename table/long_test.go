package table_test

import (
	"math/rand"
	"slices"
	"testing"

	"lazaret/api"
	"lazaret/disk"
	"lazaret/remap"
	"lazaret/space"
	"lazaret/stem"
	"lazaret/table"
)

// Many orders of sets and clears, and long ways of calls, by chance.

// All orders of so many sets and clears of some numbers.
func TestAllOrders(t *testing.T) {
	t.Parallel()
	for _, k := range []struct {
		numbers []int
		long    int
	}{{[]int{1, 2, 3}, 4}, {[]int{1, 2}, 5}, {[]int{6, 7}, 4}, {[]int{2, 64}, 4}, {[]int{1, 19, 55}, 3}, {[]int{32, 33, 34}, 3}} {
		var list []call
		for i, number := range k.numbers {
			list = append(list, setting(node(number, i)), clearing(number))
		}
		var from func(v api.Vol, s api.Stem, x plain, left int)
		from = func(v api.Vol, s api.Stem, x plain, left int) {
			if left == 0 {
				return
			}
			for _, c := range list {
				v, s, x := check(t, v, s, x, c)
				space.Sweep(&v.Space)
				from(v, s, x, left-1)
			}
		}
		from(fresh(t, 10), empty(), of(), k.long)
	}
}

// Where the same nodes are set, and others came and went between, the tables are the same but for sectors.
func TestSameNodesSameBytes(t *testing.T) {
	t.Parallel()
	r := rand.New(rand.NewSource(14))
	want := of(nodes(3, 1, 4, 9, 16, 25, 36)...)
	for range 20 {
		v, s, x := fresh(t, 60), empty(), of()
		for _, i := range r.Perm(64) {
			if number := i + 1; want.at[number].n.Number > 0 || r.Intn(5) == 0 {
				if e := table.Set(&v, &s, node(number, r.Intn(1000))); e != api.OK {
					t.Fatal(e)
				}
				x = x.with(node(number, 0))
				space.Sweep(&v.Space)
			}
		}
		for _, i := range r.Perm(64) {
			number := i + 1
			e := api.OK
			switch n := want.at[number].n; {
			case n.Number > 0:
				e = table.Set(&v, &s, n)
			case x.at[number].n.Number > 0:
				e = table.Clear(&v, &s, number)
			}
			if e != api.OK {
				t.Fatal(number, e)
			}
			space.Sweep(&v.Space)
		}
		holds(t, v, s, want)
		if used := space.Used(v.Space); used != sectors(want.bytes(), 2) {
			t.Fatalf("%d are in use", used)
		}
	}
}

// someCall: as chance says; more of sets, or of clears, by grow.
func someCall(r *rand.Rand, x plain, grow bool) call {
	number := 1 + r.Intn(64)
	if l, _ := x.list(); len(l) > 0 && r.Intn(3) > 0 {
		number = l[r.Intn(len(l))].Number
	}
	if r.Intn(40) == 0 {
		number = []int{0, 65, -1, 1 << 32}[r.Intn(4)]
	}
	switch k := r.Intn(20); {
	case k < 8 && !grow || k < 3:
		return clearing(number)
	case k < 15:
		if least, e := x.next(); e == api.OK && r.Intn(2) == 0 {
			number = least
		}
		n := node(number, r.Intn(1000))
		if r.Intn(30) == 0 {
			n.Links += 100
		}
		return setting(n)
	case k < 17:
		return getting(number)
	case k < 18:
		return listing()
	}
	return nexting()
}

// Two tables on one volume, with little room and with much: each call does what it must, or says that there is no room, where that may be; as many sectors are in use as their bytes ask for.
func TestLongWays(t *testing.T) {
	t.Parallel()
	r := rand.New(rand.NewSource(1414))
	for _, q := range []int{4, 30, 100} {
		v := fresh(t, q)
		stems, data := []api.Stem{empty(), empty()}, []plain{of(), of()}
		for step := range 240 {
			i := r.Intn(2)
			v, stems[i], data[i] = check(t, v, stems[i], data[i], someCall(r, data[i], step/80 != 1))
			if used := sectors(data[0].bytes(), 2) + sectors(data[1].bytes(), 2); space.Used(v.Space) != used {
				t.Fatalf("%d are in use, not %d", space.Used(v.Space), used)
			}
			switch r.Intn(8) {
			case 0, 1, 2, 3:
				space.Sweep(&v.Space)
			case 4:
				space.Settle(&v.Space)
			case 5:
				flush(t, &v)
			}
		}
		for i, s := range stems {
			holds(t, v, s, data[i])
			if e := stem.Drop(&v, &stems[i]); e != api.OK {
				t.Fatal(e)
			}
		}
		if space.Used(v.Space) != 0 {
			t.Error("something is left")
		}
	}
}

// What was flushed, and isn't needed any more but wasn't swept, stands behind any crash; what is flushed behind a call does, too.
func TestCrashes(t *testing.T) {
	t.Parallel()
	r := rand.New(rand.NewSource(141414))
	v, s, x := fresh(t, 60), empty(), of()
	for range 60 {
		flush(t, &v)
		space.Settle(&v.Space)
		old, oldStem, was := v, s, x
		for range 1 + r.Intn(3) {
			v, s, x = check(t, v, s, x, someCall(r, x, true))
		}
		var keep []bool
		for range v.Disk.Cache {
			keep = append(keep, r.Intn(2) == 0)
		}
		crashed := copied(v)
		disk.Crash(&crashed.Disk, keep...)
		crashed.Space = old.Space
		holds(t, crashed, oldStem, was)
		crashed = copied(v)
		flush(t, &crashed)
		disk.Crash(&crashed.Disk)
		holds(t, crashed, s, x)
	}
}

// Whatever is hit, and wherever the power goes: each call ends, with an error beside which all is as it was, or does what it must; each number is told as it must be, or can't be read.
func TestByChance(t *testing.T) {
	t.Parallel()
	r := rand.New(rand.NewSource(41))
	codes := map[api.Errno]int{}
	for round := range 24 {
		x := of()
		for range r.Intn(40) {
			x = x.with(node(1+r.Intn(64), r.Intn(1000)))
		}
		v, s, _, _ := planted(t, 20, x)
		if round%3 == 1 {
			v = crowded(v, [2]int{12, 12})
		}
		if round%5 == 0 {
			for at := len(v.Disk.Sectors) - 20; at < len(v.Disk.Sectors); at++ {
				disk.Hit(&v.Disk, at, 3, 0, 0)
			}
		}
		for range 30 {
			switch r.Intn(8) {
			case 0, 1:
				for range 4 {
					hit(t, &v, 1+r.Intn(3), v.Space.At[0]+r.Intn(60), v.Space.At[1]+r.Intn(60))
				}
			case 2:
				v.Disk.Fuse = r.Intn(20) - 1
			case 3:
				disk.Crash(&v.Disk, slices.Repeat([]bool{true}, len(v.Disk.Cache))...)
				if m, e := remap.Load(&v.Disk); e == api.OK {
					v.Map = m
				}
			case 4, 5:
				space.Sweep(&v.Space)
			}
			c := someCall(r, x, true)
			var got answer
			v, s, got = done(t, v, s, c)
			codes[got.code]++
			want, must := c.must(x)
			switch {
			case must.code == api.ErrArg || got.code == api.OK || got.code == api.ErrArg || got.code == api.ErrNoEnt || got.code == api.ErrMany || got.code == api.ErrDamage:
				if !got.is(must) {
					t.Fatalf("%s: %s, not %s", c.name, said(got), said(must))
				}
				x = want
			}
			if s.Size != x.size || space.Used(v.Space) != sectors(x.bytes(), 2) {
				t.Fatalf("%s: %s, %d are in use, not %d", c.name, toldStem(s), space.Used(v.Space), sectors(x.bytes(), 2))
			}
			readable(t, v, s, x)
		}
	}
	for _, code := range []api.Errno{api.OK, api.ErrArg, api.ErrIO, api.ErrDown, api.ErrNoEnt, api.ErrNoSpace, api.ErrSpares} {
		if codes[code] == 0 {
			t.Errorf("no call was answered with %v", code)
		}
	}
}

// readable: each number is told as it must be, or can't be read.
func readable(t *testing.T, v api.Vol, s api.Stem, x plain) {
	t.Helper()
	v.Disk.Fuse = -1
	for number := 1; number <= 64; number++ {
		n, e := table.Get(&v, s, number)
		want, code := x.get(number)
		switch {
		case n == want && e == code:
		case n == (api.Inode{}) && (e == api.ErrIO || e == api.ErrDown && v.Disk.Down):
		default:
			t.Fatalf("get of %d: %s, %v", number, toldNode(n), e)
		}
	}
}

package stem_test

import (
	"math/rand"
	"slices"
	"testing"

	"lazaret/api"
	"lazaret/disk"
	"lazaret/remap"
	"lazaret/space"
	"lazaret/stem"
)

// Long ways of calls, by chance.

// some: a call, as chance says, on a stem that is such data.
func some(r *rand.Rand, x plain) call {
	n := len(x.leaves)
	switch k := r.Intn(20); {
	case k < 6 && n > 0:
		return laying(r.Intn(n), block(r.Intn(60)))
	case k < 9 && n > 0:
		return laying(r.Intn(n), api.Block{})
	case k < 10 && n > 0:
		i := r.Intn(n)
		return laying(i, x.leaves[i])
	case k < 15:
		return resizing([]int{r.Intn(8193), r.Intn(1300), x.size + r.Intn(300), x.size - r.Intn(300), 128 * r.Intn(65)}[r.Intn(5)])
	case k < 17:
		return recopying(1 + r.Intn(2))
	case k < 18 && n > 0:
		return leafing(r.Intn(n+2) - 1)
	case k == 19 && r.Intn(6) == 0:
		return dropping()
	}
	return walking()
}

// Three stems on one volume, with little room and with much: each call does what it must, or says that there is no room just where there is none; whatever came between, the same leaves have the same tree.
func TestLongWays(t *testing.T) {
	t.Parallel()
	r := rand.New(rand.NewSource(10))
	for _, q := range []int{4, 4, 30, 100} {
		v := fresh(t, q)
		stems, data := []api.Stem{empty(1), empty(1), empty(2)}, []plain{of(0, 1), of(0, 1), of(0, 2)}
		for range 350 {
			i := r.Intn(3)
			v, stems[i], data[i] = check(t, v, stems[i], data[i], some(r, data[i]))
			used := 0
			for _, x := range data {
				used += x.sectors()
			}
			if space.Used(v.Space) != used {
				t.Fatalf("%d are in use, not %d", space.Used(v.Space), used)
			}
			switch r.Intn(12) {
			case 0, 1, 2, 3:
				space.Sweep(&v.Space)
			case 4:
				space.Settle(&v.Space)
			case 5, 6:
				flush(t, &v)
			}
		}
		for i, s := range stems {
			holds(t, v, s, data[i])
			next, again, _ := planted(t, 100, data[i])
			if a, b := shape(t, &v, s.Root, data[i].depth()), shape(t, &next, again.Root, data[i].depth()); a != b {
				t.Errorf("%s, laid at once %s", a, b)
			}
			if e := stem.Drop(&v, &stems[i]); e != api.OK {
				t.Fatal(e)
			}
		}
		if space.Used(v.Space) != 0 {
			t.Error("something is left")
		}
	}
}

// What was flushed, and isn't needed any more but wasn't swept, stands behind any crash; what is flushed behind a call does, too.
func TestCrashes(t *testing.T) {
	t.Parallel()
	r := rand.New(rand.NewSource(110))
	v, s, x := fresh(t, 40), empty(2), of(0, 2)
	for range 150 {
		flush(t, &v)
		space.Settle(&v.Space)
		old, oldStem, was := v, s, x
		for range 1 + r.Intn(4) {
			v, s, x = check(t, v, s, x, some(r, x))
		}
		var keep []bool
		for range v.Disk.Cache {
			keep = append(keep, r.Intn(2) == 0)
		}
		crashed := copied(v)
		disk.Crash(&crashed.Disk, keep...)
		crashed.Space = old.Space
		holds(t, crashed, oldStem, was)
		crashed = copied(v)
		disk.Flush(&crashed.Disk)
		disk.Crash(&crashed.Disk)
		holds(t, crashed, s, x)
	}
}

// Whatever is hit, and wherever the power goes: each call ends, with an error beside which all is as it was, or does what it must; each leaf is what it must be, or can't be read.
func TestByChance(t *testing.T) {
	t.Parallel()
	r := rand.New(rand.NewSource(1010))
	told := map[api.Errno]int{}
	for round := range 40 {
		x := patterned(1+r.Intn(64), 1+r.Intn(2), func(int) bool { return r.Intn(3) > 0 })
		v, s, _ := planted(t, 20, x)
		if round%5 == 0 {
			hit(t, &v, unwrit, span(len(v.Disk.Sectors)-20, len(v.Disk.Sectors)-1)...)
		}
		for range 40 {
			switch r.Intn(8) {
			case 0, 1:
				hit(t, &v, 1+r.Intn(7), 28+r.Intn(120), v.Space.At[1]+r.Intn(120))
			case 2:
				v.Disk.Fuse = r.Intn(20) - 1
			case 3:
				disk.Crash(&v.Disk, slices.Repeat([]bool{true}, len(v.Disk.Cache))...)
				if m, e := remap.Load(&v.Disk); e == api.OK {
					v.Map = m
				}
			case 4, 5:
				space.Sweep(&v.Space)
			}
			c := some(r, x)
			var got answer
			v, s, got = done(t, v, s, c)
			told[got.code]++
			want, ok := c.must(x)
			switch {
			case !ok && got.code != api.ErrArg:
				t.Fatalf("%s: %s", c.name, said(got))
			case got.code == api.OK:
				x = want
			case ok && got.code == api.ErrArg:
				t.Fatalf("%s: %s", c.name, said(got))
			}
			if s.Size != x.size || s.Copies != x.copies || space.Used(v.Space) != x.sectors() {
				t.Fatalf("%s: %s, %d are in use", c.name, toldStem(s), space.Used(v.Space))
			}
			readable(t, v, s, x)
		}
	}
	for _, code := range []api.Errno{api.OK, api.ErrIO, api.ErrDown, api.ErrNoSpace, api.ErrSpares} {
		if told[code] == 0 {
			t.Errorf("no call was answered with %v", code)
		}
	}
}

// readable: each leaf is what it must be, or can't be read.
func readable(t *testing.T, v api.Vol, s api.Stem, x plain) {
	t.Helper()
	v.Disk.Fuse = -1
	for i := range x.leaves {
		b, e := stem.Leaf(&v, s, i)
		switch {
		case e == api.OK && b == x.leaves[i]:
		case b == api.Block{} && (e == api.ErrIO || e == api.ErrDown && v.Disk.Down):
		default:
			t.Fatalf("leaf %d: %x.. %v, not %x..", i, b[:2], e, x.leaves[i][:2])
		}
	}
}

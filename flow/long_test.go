package flow_test

import (
	"math/rand"
	"slices"
	"testing"

	"lazaret/api"
	"lazaret/disk"
	"lazaret/flow"
	"lazaret/remap"
	"lazaret/space"
	"lazaret/stem"
)

// Long ways of calls, by chance.

// someBytes: so many at the most, all of them some, or zeros, or zeros here and there.
func someBytes(r *rand.Rand, most int) []byte {
	n := r.Intn(most + 1)
	switch r.Intn(4) {
	case 0:
		return make([]byte, n)
	case 1:
		third := r.Intn(3)
		return holed(n, func(i int) bool { return i%3 == third })
	}
	return noise(r.Intn(1000), n)
}

// someCall: as chance says, on a stem of so many bytes.
func someCall(r *rand.Rand, size int) call {
	places := []int{r.Intn(8193), r.Intn(1500), r.Intn(size + 1), size, size + r.Intn(400), max(0, size-r.Intn(300)), 128 * r.Intn(12)}
	at := places[r.Intn(len(places))]
	switch k := r.Intn(20); {
	case k < 8:
		return writing(at, someBytes(r, []int{3, 200, 1024}[r.Intn(3)]))
	case k < 13:
		return cutting(at)
	case k < 15:
		return filling(someBytes(r, 1200))
	case k < 16 && r.Intn(6) == 0:
		return filling(someBytes(r, 8192))
	case k < 17:
		return holing()
	}
	return reading(at, r.Intn(600))
}

// Three stems on one volume, with little room and with much: each call does what it must, or says that there is no room, where that may be; as many sectors are in use as these bytes ask for.
func TestLongWays(t *testing.T) {
	t.Parallel()
	r := rand.New(rand.NewSource(11))
	for _, q := range []int{4, 30, 100} {
		v := fresh(t, q)
		stems, data := []api.Stem{empty(1), empty(1), empty(2)}, []plain{{nil, 1}, {nil, 1}, {nil, 2}}
		for range 250 {
			i := r.Intn(3)
			v, stems[i], data[i] = check(t, v, stems[i], data[i], someCall(r, len(data[i].b)))
			used := 0
			for _, x := range data {
				used += x.sectors()
			}
			if space.Used(v.Space) != used {
				t.Fatalf("%d are in use, not %d", space.Used(v.Space), used)
			}
			switch r.Intn(8) {
			case 0, 1, 2, 3:
				space.Sweep(&v.Space)
			case 4:
				space.Settle(&v.Space)
			case 5:
				flush(t, &v)
			}
		}
		for i, s := range stems {
			holds(t, v, s, data[i])
			if e := stem.Drop(&v, &stems[i]); e != api.OK {
				t.Fatal(e)
			}
		}
		if space.Used(v.Space) != 0 {
			t.Error("something is left")
		}
	}
}

// What was flushed, and isn't needed any more but wasn't swept, stands behind any crash; what is flushed behind a call does, too.
func TestCrashes(t *testing.T) {
	t.Parallel()
	r := rand.New(rand.NewSource(111))
	v, s, x := fresh(t, 60), empty(2), plain{nil, 2}
	for range 80 {
		flush(t, &v)
		space.Settle(&v.Space)
		old, oldStem, was := v, s, x
		for range 1 + r.Intn(3) {
			v, s, x = check(t, v, s, x, someCall(r, len(x.b)))
		}
		var keep []bool
		for range v.Disk.Cache {
			keep = append(keep, r.Intn(2) == 0)
		}
		crashed := copied(v)
		disk.Crash(&crashed.Disk, keep...)
		crashed.Space = old.Space
		holds(t, crashed, oldStem, was)
		crashed = copied(v)
		flush(t, &crashed)
		disk.Crash(&crashed.Disk)
		holds(t, crashed, s, x)
	}
}

// Whatever is hit, and wherever the power goes: each call ends, with an error beside which all is as it was, or does what it must; each byte is what it must be, or can't be read.
func TestByChance(t *testing.T) {
	t.Parallel()
	r := rand.New(rand.NewSource(1111))
	codes := map[api.Errno]int{}
	for round := range 30 {
		x := plain{someBytes(r, 3000), 1 + r.Intn(2)}
		v, s, _, _ := planted(t, 20, x)
		if round%5 == 0 {
			for at := len(v.Disk.Sectors) - 20; at < len(v.Disk.Sectors); at++ {
				disk.Hit(&v.Disk, at, 3, 0, 0)
			}
		}
		for range 30 {
			switch r.Intn(8) {
			case 0, 1:
				hit(t, &v, 1+r.Intn(3), 28+r.Intn(160), v.Space.At[1]+r.Intn(160))
			case 2:
				v.Disk.Fuse = r.Intn(20) - 1
			case 3:
				disk.Crash(&v.Disk, slices.Repeat([]bool{true}, len(v.Disk.Cache))...)
				if m, e := remap.Load(&v.Disk); e == api.OK {
					v.Map = m
				}
			case 4, 5:
				space.Sweep(&v.Space)
			}
			c := someCall(r, len(x.b))
			var got answer
			v, s, got = done(t, v, s, c)
			codes[got.code]++
			want, must := c.must(x)
			switch {
			case must.code != api.OK || got.code == api.OK:
				if !got.is(must) {
					t.Fatalf("%s: %s, not %s", c.name, said(got), said(must))
				}
				x = want
			case got.code == api.ErrArg || got.code == api.ErrTooBig:
				t.Fatalf("%s: %s", c.name, said(got))
			}
			if s.Size != len(x.b) || s.Copies != x.copies || space.Used(v.Space) != x.sectors() {
				t.Fatalf("%s: %s, %d are in use, not %d", c.name, toldStem(s), space.Used(v.Space), x.sectors())
			}
			readable(t, v, s, x)
		}
	}
	for _, code := range []api.Errno{api.OK, api.ErrIO, api.ErrDown, api.ErrNoSpace, api.ErrSpares, api.ErrTooBig} {
		if codes[code] == 0 {
			t.Errorf("no call was answered with %v", code)
		}
	}
}

// readable: the bytes of each leaf are what they must be, or can't be read.
func readable(t *testing.T, v api.Vol, s api.Stem, x plain) {
	t.Helper()
	v.Disk.Fuse = -1
	for at := 0; at < len(x.b); at += 128 {
		b, e := flow.Read(&v, s, at, 128)
		switch {
		case e == api.OK && slices.Equal(b, x.b[at:min(len(x.b), at+128)]):
		case len(b) == 0 && (e == api.ErrIO || e == api.ErrDown && v.Disk.Down):
		default:
			t.Fatalf("at %d: %s, %v", at, told(b), e)
		}
	}
}

package vol_test

import (
	"math/rand"
	"testing"

	"lazaret/api"
	"lazaret/disk"
	"lazaret/remap"
	"lazaret/space"
	"lazaret/vol"
)

// keeper: what a volume must have, told by what was added, swapped and dropped alone.
type keeper struct {
	blocks map[api.Ptr]api.Block
	state  map[int]int // of each sector that isn't free
	first  [2]int
	size   int
}

func newKeeper(v api.Vol) *keeper {
	half := (len(v.Disk.Sectors) - 20) / 2
	return &keeper{map[api.Ptr]api.Block{}, map[int]int{}, [2]int{28, half + 28}, half - 28}
}

// full: has that region no free sector?
func (k *keeper) full(r int) bool {
	n := 0
	for at := range k.state {
		if at >= k.first[r] && at < k.first[r]+k.size {
			n++
		}
	}
	return n == k.size
}

// noRoom: is a region that is needed full?
func (k *keeper) noRoom(copies int) bool {
	if copies == 2 {
		return k.full(0) || k.full(1)
	}
	return k.full(0) && k.full(1)
}

// laid: its sectors were free, are the region's, and nobody else's from now on.
func (k *keeper) laid(t *testing.T, p api.Ptr, b api.Block, copies int) {
	t.Helper()
	l := sectors(p)
	if len(l) != copies || p.Sum != sumOf(b) {
		t.Fatalf("%v, %d times", p, copies)
	}
	for i, at := range l {
		r := i
		if copies == 1 && k.full(0) {
			r = 1
		}
		if k.state[at] != 0 || at < k.first[r] || at >= k.first[r]+k.size {
			t.Fatalf("%v: %d isn't free", p, at)
		}
	}
	for _, at := range l {
		k.state[at] = api.Fresh
	}
	k.blocks[p] = b
}

func (k *keeper) dropped(p api.Ptr) {
	for _, at := range sectors(p) {
		k.state[at] += 2
	}
	delete(k.blocks, p)
}

// freed: what was dropped, and with settled what was kept too, is free.
func (k *keeper) freed(settled bool) {
	for at, x := range k.state {
		switch {
		case x == api.Going || settled && x == api.Leaving:
			delete(k.state, at)
		case settled && x == api.Fresh:
			k.state[at] = api.Kept
		}
	}
}

// some: one of the pointers, or a hole.
func (k *keeper) some(r *rand.Rand, v api.Vol) api.Ptr {
	for range 9 {
		i := r.Intn(2 * k.size)
		for p := range k.blocks {
			if place(v.Space, p.A) == i || place(v.Space, p.B) == i {
				return p
			}
		}
	}
	return hole
}

// holds: as many sectors are in use as the blocks have copies, the regions have the room that is left, and each block is got.
func (k *keeper) holds(t *testing.T, v *api.Vol) {
	t.Helper()
	n := 0
	for p, b := range k.blocks {
		n += len(sectors(p))
		if x, e := vol.Get(v, p); x != b || e != api.OK || !vol.Mine(*v, p) {
			t.Fatalf("%v: %x.. %v, not %x..", p, x[:2], e, b[:2])
		}
	}
	if used := space.Used(v.Space); used != n || !vol.Right(*v) {
		t.Fatalf("%d are in use, not %d", used, n)
	}
}

// add: what Add does, or Swap of p.
func (k *keeper) add(t *testing.T, v *api.Vol, p api.Ptr, b api.Block, copies int, swap bool) {
	t.Helper()
	was := v.Space
	var next api.Ptr
	var e api.Errno
	if swap {
		next, e = vol.Swap(v, p, b, copies)
	} else {
		next, e = vol.Add(v, b, copies)
	}
	had, there := k.blocks[p]
	switch {
	case swap && (p == hole && b == api.Block{} || there && had == b && len(sectors(p)) == copies):
		if next != p || e != api.OK || !sameSpace(v.Space, was) {
			t.Fatalf("%v: %v %v", p, next, e)
		}
		return
	case b == api.Block{}:
		if next != hole || e != api.OK {
			t.Fatalf("%v %v", next, e)
		}
	case k.noRoom(copies):
		if next != (api.Ptr{}) || e != api.ErrNoSpace || !sameSpace(v.Space, was) {
			t.Fatalf("%d times, no room: %v %v", copies, next, e)
		}
		return
	case e != api.OK:
		t.Fatalf("%d times: %v", copies, e)
	default:
		k.laid(t, next, b, copies)
	}
	if swap {
		k.dropped(p)
	}
}

// step: one thing is done, as chance says; more is added than dropped, or less.
func (k *keeper) step(t *testing.T, r *rand.Rand, v *api.Vol, more bool) {
	t.Helper()
	b := block(r.Intn(40))
	if r.Intn(12) == 0 {
		b = api.Block{}
	}
	p, copies := k.some(r, *v), 1+r.Intn(2)
	switch n := r.Intn(20); {
	case n < 8 && more || n < 3:
		k.add(t, v, hole, b, copies, false)
	case n < 13 && more || n < 6:
		k.add(t, v, p, b, copies, true)
	case n < 17:
		if e := vol.Drop(v, p); e != api.OK {
			t.Fatal(p, e)
		}
		k.dropped(p)
	case n < 19:
		space.Sweep(&v.Space)
		k.freed(false)
	default:
		space.Settle(&v.Space)
		k.freed(true)
	}
}

// Long ways of adding, swapping and dropping, with regions that fill and empty.
func TestLongWays(t *testing.T) {
	r := rand.New(rand.NewSource(9))
	for _, q := range []int{4, 4, 4, 5, 9} {
		v := fresh(t, q)
		k := newKeeper(v)
		for i := range 2400 {
			k.step(t, r, &v, i%1000 < 600)
			if i%60 == 0 {
				disk.Flush(&v.Disk)
				k.holds(t, &v)
			}
		}
		k.holds(t, &v)
		for p := range k.blocks {
			if e := vol.Drop(&v, p); e != api.OK {
				t.Fatal(e)
			}
		}
		space.Settle(&v.Space)
		if space.Room(v.Space) != [2]int{v.Space.Size, v.Space.Size} {
			t.Error("something is left:", told(v))
		}
	}
}

// A region is filled to its last sector, and both are; from then on there is no space, till something is free again.
func TestFull(t *testing.T) {
	for _, q := range []int{4, 11} {
		v := fresh(t, q)
		k := newKeeper(v)
		for i := range v.Space.Size {
			k.add(t, &v, hole, block(i), 2, false)
			disk.Flush(&v.Disk)
		}
		for copies := 1; copies <= 2; copies++ {
			refused(t, v, adding(block(1), copies), api.ErrNoSpace)
		}
		k.holds(t, &v)
		p := k.some(rand.New(rand.NewSource(1)), v)
		if e := vol.Drop(&v, p); e != api.OK {
			t.Fatal(e)
		}
		// What was dropped isn't free yet.
		refused(t, v, adding(block(1), 1), api.ErrNoSpace)
		space.Sweep(&v.Space)
		if x := add(t, &v, block(1), 2); x.A != p.A || x.B != p.B {
			t.Error(x, p)
		}
	}
	// Blocks that are there once fill the first region, then the second one.
	v := fresh(t, 4)
	for i := range 256 {
		want := 28 + i
		if i >= 128 {
			want = 184 + i - 128
		}
		if p := add(t, &v, block(i), 1); p.A != want || p.B != api.None {
			t.Fatal(i, p)
		}
		if i >= 127 {
			refused(t, v, adding(block(i), 2), api.ErrNoSpace)
		}
		disk.Flush(&v.Disk)
	}
	refused(t, v, adding(block(1), 1), api.ErrNoSpace)
}

// placed: a block that was added, and the pointer to it.
type placed struct {
	p api.Ptr
	b api.Block
}

// filled: a volume with many blocks that are there twice, flushed, and some of its sectors replaced.
func filled(t *testing.T, r *rand.Rand) (api.Vol, []placed) {
	t.Helper()
	v := fresh(t, 4)
	for range r.Intn(6) {
		hit(t, &v.Disk, unwrit, v.Space.At[r.Intn(2)]+r.Intn(90))
	}
	var l []placed
	for i := range 60 + r.Intn(68) {
		l = append(l, placed{add(t, &v, block(i), 2), block(i)})
	}
	for i, x := range l {
		if r.Intn(9) != 0 {
			continue
		}
		if next, e := vol.Swap(&v, x.p, block(i+500), 2); e == api.OK {
			l[i] = placed{next, block(i + 500)}
		}
	}
	flush(t, &v)
	return v, l
}

// allGot: each block is, as it was.
func allGot(t *testing.T, v *api.Vol, l []placed) {
	t.Helper()
	for _, x := range l {
		if b, e := vol.Get(v, x.p); b != x.b || e != api.OK {
			t.Fatalf("%v: %x.. %v", x.p, b[:2], e)
		}
	}
}

// Whatever is hit of one region, all of it too: what is there twice is got, and got again behind a crash.
func TestOneRegionIsHit(t *testing.T) {
	r := rand.New(rand.NewSource(99))
	for round := range 60 {
		v, l := filled(t, r)
		first := v.Space.At[round%2]
		for at := first; at < first+v.Space.Size; at++ {
			how := r.Intn(8)
			switch round / 2 {
			case 0, 1:
				how = []int{rotten, unread}[round/2]
			case 2, 3:
				how = rotten | unread | unwrit
			}
			// The sector that stands there, and the one that does so for it.
			hit(t, &v.Disk, how, at, remap.At(v.Map, at))
		}
		allGot(t, &v, l)
		flush(t, &v)
		disk.Crash(&v.Disk)
		allGot(t, &v, l)
	}
}

// What was read from its second copy is made well: then the other region may be hit, as long as there are spare sectors.
func TestHealedThenHit(t *testing.T) {
	r := rand.New(rand.NewSource(999))
	for range 20 {
		v, l := filled(t, r)
		for at := 28; at < 156; at++ {
			hit(t, &v.Disk, rotten|unread, remap.At(v.Map, at))
		}
		for i := range 9 {
			hit(t, &v.Disk, unwrit, remap.At(v.Map, 40+3*i))
		}
		allGot(t, &v, l)
		flush(t, &v)
		disk.Crash(&v.Disk)
		for at := 184; at < 312; at++ {
			hit(t, &v.Disk, rotten|unread, remap.At(v.Map, at))
		}
		allGot(t, &v, l)
	}
}

// What was added is found again by its pointer on the volume that is opened, when its sectors are marked there.
func TestOpenedAgain(t *testing.T) {
	r := rand.New(rand.NewSource(9999))
	for range 10 {
		v, l := filled(t, r)
		x, e := vol.Open(v.Disk)
		if e != api.OK || !sameTable(x.Map, v.Map) || !sameDisk(x.Disk, v.Disk) {
			t.Fatal(e)
		}
		for i, y := range l {
			if vol.Mine(x, y.p) {
				t.Fatal(y.p)
			}
			if e := space.Mark(&x.Space, y.p); e != api.OK || space.Used(x.Space) != 2*(i+1) {
				t.Fatal(y.p, e)
			}
		}
		allGot(t, &x, l)
	}
}

// All that may be done and become, by chance, held against the chapter's words.
func TestByChance(t *testing.T) {
	r := rand.New(rand.NewSource(90))
	for range 25 {
		v := fresh(t, 4)
		for i := range v.Space.State {
			if i%128 > 3 {
				v.Space.State[i] = byte(1 + r.Intn(2))
			}
		}
		known := []api.Ptr{hole, {A: 40, B: 200, Sum: sumOf(block(1))}}
		for range 120 {
			p := known[r.Intn(len(known))]
			var x answer
			switch r.Intn(12) {
			case 0:
				hit(t, &v.Disk, 1+r.Intn(7), []int{0, 28, 29, 30, 31, 156, 184, 185, 186, 187, 312, 313}[r.Intn(12)])
			case 1:
				v.Disk.Fuse = r.Intn(16) - 3
			case 2:
				if disk.Crash(&v.Disk, true, r.Intn(2) == 0, true, true); v.Disk.Down {
					t.Fatal("down")
				}
				if m, e := remap.Load(&v.Disk); e == api.OK {
					v.Map = m
				}
			case 3:
				[]func(*api.Space) api.Errno{space.Sweep, space.Settle}[r.Intn(2)](&v.Space)
			case 4, 5:
				v, x = check(t, v, adding(block(r.Intn(4)), r.Intn(4)))
			case 6, 7, 8:
				v, x = check(t, v, swapping(p, block(r.Intn(4)), 1+r.Intn(2)))
			case 9, 10:
				v, _ = check(t, v, getting(p))
			case 11:
				v, _ = check(t, v, dropping(p))
			}
			if x.code == api.OK && x.ptr.Sum != (api.Sum{}) {
				known = append(known, x.ptr)
			}
			check(t, v, mining(p))
		}
	}
}

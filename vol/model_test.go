package vol_test

import (
	"bytes"
	"fmt"
	"math"
	"slices"
	"testing"

	"lazaret/api"
	"lazaret/disk"
	"lazaret/ditto"
	"lazaret/remap"
	"lazaret/sha"
	"lazaret/space"
	"lazaret/vol"
)

// What the calls must answer, and make of a volume, told by the chapter's words; and what holds them against it.

// answer: what a call answers, as far as it does.
type answer struct {
	ptr   api.Ptr
	block api.Block
	yes   bool
	code  api.Errno
}

// call: one of the calls with its arguments, and what it must answer and make of a right volume.
type call struct {
	name string
	run  func(v *api.Vol) answer
	must func(v *api.Vol) answer
}

var hole = api.Ptr{A: -1, B: -1}

func sumOf(b api.Block) api.Sum { return sha.Sum(b[:]) }

// rightOne: is it a right volume? quota is that of the layout.
func rightOne(v api.Vol) bool {
	n := len(v.Disk.Sectors)
	for q := 4; q <= 900; q++ {
		size := 2*q + 120
		half := 28 + size
		if n == 2*half+20 {
			regions := v.Space.At[0] == 28 && v.Space.At[1] == half+28 && v.Space.Size == size
			return disk.Formed(v.Disk) && remap.Right(v.Map, n) && space.Formed(v.Space) && regions
		}
	}
	return false
}

// place: which of State's bytes is the sector's; -1, if no region has it.
func place(s api.Space, at int) int {
	for r, first := range s.At {
		if at >= first && at <= first+s.Size-1 {
			return r*s.Size + (at - first)
		}
	}
	return -1
}

// sectors: of a pointer, as far as they aren't None.
func sectors(p api.Ptr) []int {
	return slices.DeleteFunc([]int{p.A, p.B}, func(at int) bool { return at == -1 })
}

// mineOf: is it a hole, or right with each of its sectors in use?
func mineOf(v api.Vol, p api.Ptr) bool {
	if p == hole {
		return true
	}
	for i, at := range []int{p.A, p.B} {
		if i == 1 && at == -1 {
			continue
		}
		k := place(v.Space, at)
		if k < 0 || v.Space.State[k] != 1 && v.Space.State[k] != 2 {
			return false
		}
	}
	return p.A != p.B
}

// become: the states of those sectors.
func become(v *api.Vol, next map[byte]byte, at ...int) {
	v.Space.State = slices.Clone(v.Space.State)
	for _, at := range at {
		k := place(v.Space, at)
		v.Space.State[k] = next[v.Space.State[k]]
	}
}

// firstFree: of the r-th region; -1, if there is none.
func firstFree(v api.Vol, r int) int {
	for at := v.Space.At[r]; at < v.Space.At[r]+v.Space.Size; at++ {
		if v.Space.State[place(v.Space, at)] == 0 {
			return at
		}
	}
	return -1
}

// added: what Add must do, in a right volume.
func added(v *api.Vol, b api.Block, copies int) answer {
	a, c := firstFree(*v, 0), firstFree(*v, 1)
	switch {
	case copies != 1 && copies != 2:
		return answer{code: api.ErrArg}
	case b == api.Block{}:
		return answer{ptr: hole}
	case copies == 2 && (a == -1 || c == -1) || a == -1 && c == -1:
		return answer{code: api.ErrNoSpace}
	case copies == 1 && a == -1:
		a, c = c, -1
	case copies == 1:
		c = -1
	}
	p, e := ditto.Put(&v.Disk, &v.Map, b, a, c)
	if e != api.OK {
		return answer{code: e}
	}
	become(v, map[byte]byte{0: 2}, sectors(p)...)
	return answer{ptr: p}
}

// dropped: what Drop must do, in a right volume.
func dropped(v *api.Vol, p api.Ptr) answer {
	if !mineOf(*v, p) {
		return answer{code: api.ErrArg}
	}
	become(v, map[byte]byte{1: 3, 2: 4}, sectors(p)...)
	return answer{}
}

func adding(b api.Block, copies int) call {
	return call{
		fmt.Sprintf("add %x.., %d times", b[:2], copies),
		func(v *api.Vol) answer {
			p, e := vol.Add(v, b, copies)
			return answer{ptr: p, code: e}
		},
		func(v *api.Vol) answer { return added(v, b, copies) },
	}
}

func getting(p api.Ptr) call {
	return call{
		fmt.Sprintf("get %d, %d, %x..", p.A, p.B, p.Sum[:2]),
		func(v *api.Vol) answer {
			b, e := vol.Get(v, p)
			return answer{block: b, code: e}
		},
		func(v *api.Vol) answer {
			if !mineOf(*v, p) {
				return answer{code: api.ErrArg}
			}
			b, _, e := ditto.Get(&v.Disk, &v.Map, p)
			return answer{block: b, code: e}
		},
	}
}

func dropping(p api.Ptr) call {
	return call{
		fmt.Sprintf("drop %d, %d, %x..", p.A, p.B, p.Sum[:2]),
		func(v *api.Vol) answer { return answer{code: vol.Drop(v, p)} },
		func(v *api.Vol) answer { return dropped(v, p) },
	}
}

func swapping(p api.Ptr, b api.Block, copies int) call {
	return call{
		fmt.Sprintf("swap %d, %d, %x.. for %x.., %d times", p.A, p.B, p.Sum[:2], b[:2], copies),
		func(v *api.Vol) answer {
			p, e := vol.Swap(v, p, b, copies)
			return answer{ptr: p, code: e}
		},
		func(v *api.Vol) answer {
			if copies != 1 && copies != 2 || !mineOf(*v, p) {
				return answer{code: api.ErrArg}
			}
			if p == hole && b == (api.Block{}) || p != hole && p.Sum == sumOf(b) && len(sectors(p)) == copies {
				return answer{ptr: p}
			}
			x := added(v, b, copies)
			if x.code == api.OK {
				dropped(v, p)
			}
			return x
		},
	}
}

func mining(p api.Ptr) call {
	return call{
		fmt.Sprintf("mine %d, %d, %x..", p.A, p.B, p.Sum[:2]),
		func(v *api.Vol) answer { return answer{yes: vol.Mine(*v, p)} },
		func(v *api.Vol) answer { return answer{yes: mineOf(*v, p)} },
	}
}

func righting() call {
	return call{
		"right",
		func(v *api.Vol) answer { return answer{yes: vol.Right(*v)} },
		func(*api.Vol) answer { return answer{yes: true} },
	}
}

// asking: the calls that answer false, and not an error, of what isn't right.
func asking(c call) bool { return c.name == "right" || c.name[:4] == "mine" }

// check: the call answers, and changes the volume, as it must, and another time just so; lists that stood there, and the room behind them, stay as they were, and those that are new share nothing with them.
func check(t *testing.T, v api.Vol, c call) (api.Vol, answer) {
	t.Helper()
	v = roomy(v)
	old, was, end := v, whole(v), copied(v)
	var want answer
	if rightOne(v) {
		want = c.must(&end)
	} else if !asking(c) {
		want.code = api.ErrArg
	}
	got := c.run(&v)
	again := old
	gotAgain := c.run(&again)
	if got != want || !same(v, end) {
		t.Fatalf("%s of %s:\n%s, %s, not\n%s, %s", c.name, told(old), said(got), told(v), said(want), told(end))
	}
	if gotAgain != want || !same(again, end) {
		t.Fatalf("%s of %s: another time\n%s, %s, not\n%s, %s", c.name, told(old), said(gotAgain), told(again), said(want), told(end))
	}
	spoilNew(v, old)
	if !same(whole(old), was) {
		t.Fatalf("%s of %s: lists that stood there, or the room behind them, are changed", c.name, told(old))
	}
	if !same(again, end) {
		t.Fatalf("%s of %s: two volumes share their lists", c.name, told(old))
	}
	return end, got
}

// spoilNew: makes other lists of those that the call changed.
func spoilNew(v, old api.Vol) {
	if !sameDisk(v.Disk, old.Disk) {
		spoilDisk(v.Disk)
	}
	if !sameTable(v.Map, old.Map) {
		for i := range v.Map.Pairs {
			v.Map.Pairs[i] = api.Pair{From: -5, To: -6}
		}
	}
	if !sameSpace(v.Space, old.Space) {
		spoilSpace(v.Space)
	}
}

// spoilDisk: makes other lists of its own ones.
func spoilDisk(d api.Disk) {
	for i := range d.Sectors {
		d.Sectors[i].Data[5] ^= 0x55
	}
	for i := range d.Cache {
		d.Cache[i].Data[5] ^= 0x55
	}
}

func spoilSpace(s api.Space) {
	for i := range s.State {
		s.State[i] ^= 0x40
	}
}

// room: how much stands behind lists that are handed in; no call may change it.
const room = 3

// roomy: the same volume in lists of their own, with something in the room behind them.
func roomy(v api.Vol) api.Vol {
	v = copied(v)
	for i := range room {
		v.Disk.Sectors = append(v.Disk.Sectors, api.Sector{Data: block(900 + i), NoRead: true})
		v.Disk.Cache = append(v.Disk.Cache, api.Write{Data: block(800 + i)})
		v.Map.Pairs = append(v.Map.Pairs, api.Pair{From: 700 + i, To: -i})
		v.Space.State = append(v.Space.State, 9)
	}
	v.Disk.Sectors = v.Disk.Sectors[:len(v.Disk.Sectors)-room]
	v.Disk.Cache = v.Disk.Cache[:len(v.Disk.Cache)-room]
	v.Map.Pairs = v.Map.Pairs[:len(v.Map.Pairs)-room]
	v.Space.State = v.Space.State[:len(v.Space.State)-room]
	return v
}

// whole: a copy of the volume with all that stands in the room behind its lists.
func whole(v api.Vol) api.Vol {
	v.Disk.Sectors, v.Disk.Cache = v.Disk.Sectors[:cap(v.Disk.Sectors)], v.Disk.Cache[:cap(v.Disk.Cache)]
	v.Map.Pairs, v.Space.State = v.Map.Pairs[:cap(v.Map.Pairs)], v.Space.State[:cap(v.Space.State)]
	return copied(v)
}

// copied: the same volume in lists of their own.
func copied(v api.Vol) api.Vol {
	v.Disk = copiedDisk(v.Disk)
	v.Map.Pairs, v.Space.State = slices.Clone(v.Map.Pairs), slices.Clone(v.Space.State)
	return v
}

func copiedDisk(d api.Disk) api.Disk {
	d.Sectors, d.Cache = slices.Clone(d.Sectors), slices.Clone(d.Cache)
	return d
}

func sameDisk(a, b api.Disk) bool {
	return a.Fuse == b.Fuse && a.Down == b.Down && slices.Equal(a.Sectors, b.Sectors) && slices.Equal(a.Cache, b.Cache)
}

func sameTable(a, b api.Remap) bool { return a.Gen == b.Gen && slices.Equal(a.Pairs, b.Pairs) }

func sameSpace(a, b api.Space) bool {
	return a.At == b.At && a.Size == b.Size && bytes.Equal(a.State, b.State)
}

func same(a, b api.Vol) bool {
	return sameDisk(a.Disk, b.Disk) && sameTable(a.Map, b.Map) && sameSpace(a.Space, b.Space)
}

// told: a volume in few words.
func told(v api.Vol) string {
	s := fmt.Sprintf("%d sectors, fuse %d, down %v, fail", len(v.Disk.Sectors), v.Disk.Fuse, v.Disk.Down)
	for at, x := range v.Disk.Sectors {
		if x.NoRead || x.NoWrite {
			s += fmt.Sprintf(" %d:%v/%v", at, x.NoRead, x.NoWrite)
		}
	}
	s += ", cache"
	for _, x := range v.Disk.Cache {
		s += fmt.Sprintf(" %d:%x", x.At, x.Data[:2])
	}
	s += fmt.Sprintf(", table %v, regions %v of %d, states", v.Map, v.Space.At, v.Space.Size)
	for i, x := range v.Space.State {
		if x != 0 {
			s += fmt.Sprintf(" %d:%d", i, x)
		}
	}
	return s
}

// said: an answer in few words.
func said(a answer) string {
	return fmt.Sprintf("%v, %v, pointer %d, %d, %x.., block %x..", a.code, a.yes, a.ptr.A, a.ptr.B, a.ptr.Sum[:2], a.block[:2])
}

// block: a block like no other one of another number, and not of zeros.
func block(n int) api.Block {
	var b api.Block
	for i := range b {
		b[i] = byte(n>>(8*(i%3)) + i*7)
	}
	return b
}

// fresh: a new volume.
func fresh(t *testing.T, q int) api.Vol {
	t.Helper()
	v, e := vol.New(q)
	if e != api.OK {
		t.Fatal(q, e)
	}
	return v
}

// add: a block that finds room.
func add(t *testing.T, v *api.Vol, b api.Block, copies int) api.Ptr {
	t.Helper()
	p, e := vol.Add(v, b, copies)
	if e != api.OK {
		t.Fatal(copies, e)
	}
	return p
}

func flush(t *testing.T, v *api.Vol) {
	t.Helper()
	if e := disk.Flush(&v.Disk); e != api.OK {
		t.Fatal(e)
	}
}

// laid: a volume of quota 4 with block number 70 there so many times, flushed, and the pointer to it.
func laid(t *testing.T, copies int) (api.Vol, api.Ptr) {
	t.Helper()
	v := fresh(t, 4)
	p := add(t, &v, block(70), copies)
	flush(t, &v)
	return v, p
}

// What may become of a sector.
const (
	rotten = 1 << iota // a byte is another one
	unread             // it can't be read
	unwrit             // it can't be written
)

// hit: all of that becomes of sectors.
func hit(t *testing.T, d *api.Disk, how int, at ...int) {
	t.Helper()
	for _, at := range at {
		for kind := 1; kind <= 3; kind++ {
			if how>>(kind-1)&1 == 0 {
				continue
			}
			if e := disk.Hit(d, at, kind, (at*11)%128, 1<<(at%8)); e != api.OK {
				t.Fatal(at, kind, e)
			}
		}
	}
}

// span: the numbers from the first one to the last one.
func span(first, last int) []int {
	var l []int
	for n := first; n <= last; n++ {
		l = append(l, n)
	}
	return l
}

// paired: pairs of the first and the second number, of the third and the fourth, and so on.
func paired(numbers ...int) []api.Pair {
	var l []api.Pair
	for p := range slices.Chunk(numbers, 2) {
		l = append(l, api.Pair{From: p[0], To: p[1]})
	}
	return l
}

// extremes: numbers far from all that are right, or that look like one in fewer bytes.
func extremes() []int {
	return []int{math.MinInt, math.MinInt + 1, math.MinInt + 4, math.MinInt + 28, math.MinInt / 2, math.MinInt32, -1 << 32, -1<<32 + 4, -4096, -900, -28, -4, -3, -2, 4096, 4100, 65536 + 4, math.MaxInt32, math.MaxUint32, 1 << 32, 1<<32 + 1, 1<<32 + 2, 1<<32 + 4, 1<<32 + 28, 1 << 62, 1<<62 + 4, math.MaxInt / 2, math.MaxInt - 1, math.MaxInt}
}

package ditto_test

import (
	"fmt"
	"math"
	"slices"
	"testing"

	"lazaret/api"
	"lazaret/disk"
	"lazaret/ditto"
	"lazaret/ptr"
	"lazaret/remap"
	"lazaret/sha"
)

// What the calls must answer, and make of disk and table, told by the chapter's words; and what holds them against it.

// answer: what a call answers, as far as it does.
type answer struct {
	ptr    api.Ptr
	block  api.Block
	healed int
	report api.Report
	code   api.Errno
}

// call: one of the calls with its arguments, and what it must answer and make of a disk and a table.
type call struct {
	name string
	run  func(d *api.Disk, m *api.Remap) answer
	must func(d *api.Disk, m *api.Remap) answer
}

// asked: may the sector of such a disk be asked for?
func asked(h, n int) bool {
	return 0 <= n && n <= 2*h-1 && !slices.Contains([]int{0, 1, h, h + 1}, n)
}

// atHome: is the pointer?
func atHome(d *api.Disk, m *api.Remap, p api.Ptr) bool {
	if d == nil || m == nil || !disk.Formed(*d) || !remap.Right(*m, len(d.Sectors)) || !ptr.Right(p) {
		return false
	}
	h := (len(d.Sectors) - 20) / 2
	return (p.A == -1 || asked(h, p.A)) && (p.B == -1 || asked(h, p.B))
}

func sumOf(b api.Block) api.Sum { return sha.Sum(b[:]) }

func putting(b api.Block, a, c int) call {
	return call{
		fmt.Sprintf("put %x.. at %d, %d", b[:2], a, c),
		func(d *api.Disk, m *api.Remap) answer {
			p, e := ditto.Put(d, m, b, a, c)
			return answer{ptr: p, code: e}
		},
		func(d *api.Disk, m *api.Remap) answer {
			p := api.Ptr{A: a, B: c, Sum: sumOf(b)}
			if !atHome(d, m, p) {
				return answer{code: api.ErrArg}
			}
			if e := remap.Write(d, m, a, b); e != api.OK {
				return answer{code: e}
			}
			if c == -1 {
				return answer{ptr: p}
			}
			if e := remap.Write(d, m, c, b); e != api.OK {
				return answer{code: e}
			}
			return answer{ptr: p}
		},
	}
}

// goodCopy: is it, and what stands there?
func goodCopy(d *api.Disk, m *api.Remap, p api.Ptr, at int) (api.Block, bool) {
	b, e := remap.Read(d, *m, at)
	return b, e == api.OK && sumOf(b) == p.Sum
}

// withoutReading: what a read is answered ahead of any look at the copies, if that is all.
func withoutReading(d *api.Disk, m *api.Remap, p api.Ptr) (answer, bool) {
	switch {
	case !atHome(d, m, p):
		return answer{code: api.ErrArg}, true
	case p == api.Ptr{A: -1, B: -1}:
		return answer{}, true
	case d.Down:
		return answer{code: api.ErrDown}, true
	}
	return answer{}, false
}

func getting(p api.Ptr) call {
	return call{
		fmt.Sprintf("get %d, %d, %x..", p.A, p.B, p.Sum[:2]),
		func(d *api.Disk, m *api.Remap) answer {
			b, n, e := ditto.Get(d, m, p)
			return answer{block: b, healed: n, code: e}
		},
		func(d *api.Disk, m *api.Remap) answer {
			if x, ok := withoutReading(d, m, p); ok {
				return x
			}
			if b, ok := goodCopy(d, m, p, p.A); ok {
				return answer{block: b}
			}
			if p.B == -1 {
				return answer{code: api.ErrIO}
			}
			b, ok := goodCopy(d, m, p, p.B)
			if !ok {
				return answer{code: api.ErrIO}
			}
			switch remap.Write(d, m, p.A, b) {
			case api.ErrDown:
				return answer{code: api.ErrDown}
			case api.OK:
				return answer{block: b, healed: 1}
			}
			return answer{block: b}
		},
	}
}

func looking(p api.Ptr) call {
	return call{
		fmt.Sprintf("look %d, %d, %x..", p.A, p.B, p.Sum[:2]),
		func(d *api.Disk, m *api.Remap) answer {
			r, e := ditto.Look(d, m, p)
			return answer{report: r, code: e}
		},
		func(d *api.Disk, m *api.Remap) answer {
			if x, ok := withoutReading(d, m, p); ok {
				return x
			}
			x, first := goodCopy(d, m, p, p.A)
			if p.B == -1 {
				return oneSeen(first)
			}
			y, second := goodCopy(d, m, p, p.B)
			switch {
			case first && second:
				return answer{report: api.Report{Seen: 2}}
			case first:
				return oneBad(remap.Write(d, m, p.B, x))
			case second:
				return oneBad(remap.Write(d, m, p.A, y))
			}
			return answer{report: api.Report{Seen: 2, Bad: 2}, code: api.ErrIO}
		},
	}
}

// oneSeen: of a single copy.
func oneSeen(good bool) answer {
	if good {
		return answer{report: api.Report{Seen: 1}}
	}
	return answer{report: api.Report{Seen: 1, Bad: 1}, code: api.ErrIO}
}

// oneBad: of two copies, by what the healing answered.
func oneBad(e api.Errno) answer {
	switch e {
	case api.ErrDown:
		return answer{code: api.ErrDown}
	case api.OK:
		return answer{report: api.Report{Seen: 2, Bad: 1, Healed: 1}}
	}
	return answer{report: api.Report{Seen: 2, Bad: 1}}
}

// check: the call answers, and changes disk and table, as it must, and another time just so; lists that stood there, and the room behind them, stay as they were, and those that are new share nothing with them.
func check(t *testing.T, d api.Disk, m api.Remap, c call) (api.Disk, api.Remap, answer) {
	t.Helper()
	d, m = roomy(d, m)
	oldDisk, oldTable := d, m
	wasDisk, wasTable := whole(d, m)
	wantDisk, wantTable := copied(d, m)
	want := c.must(&wantDisk, &wantTable)
	got := c.run(&d, &m)
	againDisk, againTable := oldDisk, oldTable
	again := c.run(&againDisk, &againTable)
	if !sameAnswer(got, want) || !sameDisk(d, wantDisk) || !sameTable(m, wantTable) {
		t.Fatalf("%s of %v, %s:\n%s, %v, %s, not\n%s, %v, %s", c.name, oldTable, told(oldDisk), said(got), m, told(d), said(want), wantTable, told(wantDisk))
	}
	spoilNew(d, oldDisk, m, oldTable)
	nowDisk, nowTable := whole(oldDisk, oldTable)
	if !sameDisk(nowDisk, wasDisk) || !sameTable(nowTable, wasTable) {
		t.Fatalf("%s of %v, %s: lists that stood there, or the room behind them, are changed", c.name, oldTable, told(oldDisk))
	}
	if !sameAnswer(again, want) || !sameDisk(againDisk, wantDisk) || !sameTable(againTable, wantTable) {
		t.Fatalf("%s of %v, %s: another time %s, %v, %s, not %s", c.name, oldTable, told(oldDisk), said(again), againTable, told(againDisk), said(want))
	}
	return wantDisk, wantTable, got
}

// spoilNew: makes other lists of those that the call changed.
func spoilNew(d, oldDisk api.Disk, m, oldTable api.Remap) {
	if !sameDisk(d, oldDisk) {
		for i := range d.Sectors {
			d.Sectors[i].Data[5] ^= 0x55
		}
		for i := range d.Cache {
			d.Cache[i].Data[5] ^= 0x55
		}
	}
	if !sameTable(m, oldTable) {
		for i := range m.Pairs {
			m.Pairs[i] = api.Pair{From: -5, To: -6}
		}
	}
}

// room: how much stands behind lists that are handed in; no call may change it.
const room = 3

// roomy: the same disk and table in lists of their own, with something in the room behind them.
func roomy(d api.Disk, m api.Remap) (api.Disk, api.Remap) {
	d, m = copied(d, m)
	for i := range room {
		d.Sectors = append(d.Sectors, api.Sector{Data: block(900 + i), NoRead: true})
		d.Cache = append(d.Cache, api.Write{Data: block(800 + i)})
		m.Pairs = append(m.Pairs, api.Pair{From: 700 + i, To: -i})
	}
	d.Sectors = d.Sectors[:len(d.Sectors)-room]
	d.Cache = d.Cache[:len(d.Cache)-room]
	m.Pairs = m.Pairs[:len(m.Pairs)-room]
	return d, m
}

// whole: a copy of disk and table with all that stands in the room behind their lists.
func whole(d api.Disk, m api.Remap) (api.Disk, api.Remap) {
	d.Sectors, d.Cache, m.Pairs = d.Sectors[:cap(d.Sectors)], d.Cache[:cap(d.Cache)], m.Pairs[:cap(m.Pairs)]
	return copied(d, m)
}

// copied: the same disk and table in lists of their own.
func copied(d api.Disk, m api.Remap) (api.Disk, api.Remap) {
	d.Sectors, d.Cache, m.Pairs = slices.Clone(d.Sectors), slices.Clone(d.Cache), slices.Clone(m.Pairs)
	return d, m
}

func sameDisk(a, b api.Disk) bool {
	return a.Fuse == b.Fuse && a.Down == b.Down && slices.Equal(a.Sectors, b.Sectors) && slices.Equal(a.Cache, b.Cache)
}

func sameTable(a, b api.Remap) bool { return a.Gen == b.Gen && slices.Equal(a.Pairs, b.Pairs) }

func sameReport(a, b api.Report) bool {
	return a.Seen == b.Seen && a.Bad == b.Bad && a.Healed == b.Healed && len(a.Lost) == 0 && len(b.Lost) == 0
}

func sameAnswer(a, b answer) bool {
	return a.code == b.code && a.ptr == b.ptr && a.block == b.block && a.healed == b.healed && sameReport(a.report, b.report)
}

// told: a disk in few words.
func told(d api.Disk) string {
	s := fmt.Sprintf("%d sectors, fuse %d, down %v, fail", len(d.Sectors), d.Fuse, d.Down)
	for at, x := range d.Sectors {
		if x.NoRead || x.NoWrite {
			s += fmt.Sprintf(" %d:%v/%v", at, x.NoRead, x.NoWrite)
		}
	}
	s += ", cache"
	for _, x := range d.Cache {
		s += fmt.Sprintf(" %d:%x", x.At, x.Data[:2])
	}
	return s
}

// said: an answer in few words.
func said(a answer) string {
	return fmt.Sprintf("%v, pointer %d, %d, %x.., block %x.., healed %d, %v", a.code, a.ptr.A, a.ptr.B, a.ptr.Sum[:2], a.block[:2], a.healed, a.report)
}

// block: a block like no other one of another number.
func block(n int) api.Block {
	var b api.Block
	for i := range b {
		b[i] = byte(n>>(8*(i%3)) + i*7)
	}
	return b
}

// fresh: a disk of so many sectors, each with a block of its own, and the first table.
func fresh(t *testing.T, sectors int) (api.Disk, api.Remap) {
	t.Helper()
	d, e := disk.New(sectors)
	if e != api.OK {
		t.Fatal(sectors, e)
	}
	for i := range d.Sectors {
		d.Sectors[i].Data = block(i)
	}
	m, e := remap.Format(&d)
	if e != api.OK {
		t.Fatal(sectors, e)
	}
	return d, m
}

// laid: a fresh disk with block number 70 at a and, unless that is None, at c, flushed, and the pointer to it.
func laid(t *testing.T, sectors, a, c int) (api.Disk, api.Remap, api.Ptr) {
	t.Helper()
	d, m := fresh(t, sectors)
	p, e := ditto.Put(&d, &m, block(70), a, c)
	if e != api.OK {
		t.Fatal(a, c, e)
	}
	flush(t, &d)
	return d, m, p
}

func flush(t *testing.T, d *api.Disk) {
	t.Helper()
	if e := disk.Flush(d); e != api.OK {
		t.Fatal(e)
	}
}

// What may become of a sector.
const (
	rotten = 1 << iota // a byte is another one
	unread             // it can't be read
	unwrit             // it can't be written
)

// hit: all of that becomes of sectors.
func hit(t *testing.T, d *api.Disk, how int, at ...int) {
	t.Helper()
	for _, at := range at {
		for kind := 1; kind <= 3; kind++ {
			if how>>(kind-1)&1 == 0 {
				continue
			}
			if e := disk.Hit(d, at, kind, (at*11)%128, 1<<(at%8)); e != api.OK {
				t.Fatal(at, kind, e)
			}
		}
	}
}

// paired: pairs of the first and the second number, of the third and the fourth, and so on.
func paired(numbers ...int) []api.Pair {
	var l []api.Pair
	for p := range slices.Chunk(numbers, 2) {
		l = append(l, api.Pair{From: p[0], To: p[1]})
	}
	return l
}

// span: the numbers from the first one to the last one.
func span(first, last int) []int {
	var l []int
	for n := first; n <= last; n++ {
		l = append(l, n)
	}
	return l
}

// extremes: numbers far from all that are right.
func extremes() []int {
	return []int{math.MinInt, math.MinInt + 1, math.MinInt + 2, math.MinInt + 6, math.MinInt / 2, math.MinInt32, -65534, -4096, -4094, -28, -26, -22, -8, -6, -4, -3, -2, 4094, 4095, 4096, 4098, 65536, 65538, math.MaxInt32, math.MaxUint32 - 1, math.MaxUint32, 1<<32 + 2, 1 << 62, 1<<62 + 2, math.MaxInt - 1, math.MaxInt}
}

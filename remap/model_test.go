package remap_test

import (
	"fmt"
	"math"
	"slices"
	"testing"

	"lazaret/api"
	"lazaret/disk"
	"lazaret/remap"
	"lazaret/sha"
)

// What the calls must answer, and make of disk and table, told by the chapter's words; and what holds them against it.

// halfOf: h, for a disk of 2 h + 20 sectors.
func halfOf(sectors int) int {
	for h := 4; 2*h+20 <= 4096; h++ {
		if 2*h+20 == sectors {
			return h
		}
	}
	return 0
}

// between: is the sector one of the halves, and no place of a table?
func between(h, n int) bool {
	return 0 <= n && n <= 2*h-1 && !slices.Contains([]int{0, 1, h, h + 1}, n)
}

func isRight(m api.Remap, sectors int) bool {
	h := halfOf(sectors)
	if h == 0 || m.Gen < 0 || m.Gen > 1<<62 || len(m.Pairs) > 20 {
		return false
	}
	for i, p := range m.Pairs {
		again := slices.ContainsFunc(m.Pairs[:i], func(q api.Pair) bool { return p.From == q.From || p.To == q.To })
		if again || !between(h, p.From) || p.To < 2*h || p.To > 2*h+19 {
			return false
		}
	}
	return true
}

// summed: the block with the sum behind its first 96 bytes that is theirs.
func summed(b api.Block) api.Block {
	s := sha.Sum(b[:96])
	copy(b[96:], s[:])
	return b
}

// bytesOf: a table's bytes, right or not, as far as there is room for them.
func bytesOf(m api.Remap) api.Block {
	b := api.Block{0: 0x6d, 9: byte(len(m.Pairs))}
	for i := range 8 {
		b[1+i] = byte(uint64(m.Gen) >> (8 * i))
	}
	for i, p := range m.Pairs {
		b[10+4*i], b[11+4*i] = byte(p.From), byte(p.From>>8)
		b[12+4*i], b[13+4*i] = byte(p.To), byte(p.To>>8)
	}
	return summed(b)
}

// sectorOf: where n stands.
func sectorOf(m api.Remap, n int) int {
	for _, p := range m.Pairs {
		if p.From == n {
			return p.To
		}
	}
	return n
}

// halvesOf: h of a disk that has halves.
func halvesOf(d api.Disk) int {
	if !disk.Formed(d) {
		return 0
	}
	return halfOf(len(d.Sectors))
}

// answer: what a call answers, as far as it does.
type answer struct {
	block  api.Block
	table  api.Remap
	report api.Report
	code   api.Errno
}

// call: one of the calls with its arguments, and what it must answer and make of a disk and a table.
type call struct {
	name string
	run  func(d *api.Disk, m *api.Remap) answer
	must func(d *api.Disk, m *api.Remap) answer
}

func formatting() call {
	return call{
		"format",
		func(d *api.Disk, _ *api.Remap) answer {
			m, e := remap.Format(d)
			return answer{table: m, code: e}
		},
		func(d *api.Disk, _ *api.Remap) answer {
			h := halvesOf(*d)
			if h == 0 {
				return answer{code: api.ErrArg}
			}
			first := disk.Write(d, 0, bytesOf(api.Remap{}))
			if first != api.OK {
				return answer{code: first}
			}
			second := disk.Write(d, h, bytesOf(api.Remap{}))
			if second != api.OK {
				return answer{code: second}
			}
			return answer{code: disk.Flush(d)}
		},
	}
}

func loading() call {
	return call{
		"load",
		func(d *api.Disk, _ *api.Remap) answer {
			m, e := remap.Load(d)
			return answer{table: m, code: e}
		},
		func(d *api.Disk, _ *api.Remap) answer { return loadOf(d) },
	}
}

func loadOf(d *api.Disk) answer {
	h := halvesOf(*d)
	if h == 0 {
		return answer{code: api.ErrArg}
	}
	if d.Down {
		return answer{code: api.ErrDown}
	}
	var count []api.Remap
	for place, at := range []int{0, 1, h, h + 1} {
		b, e := disk.Read(d, at)
		if m := tableOf(b); e == api.OK && bytesOf(m) == b && isRight(m, len(d.Sectors)) && m.Gen%2 == place%2 {
			count = append(count, m)
		}
	}
	// Of several with one number the first one goes ahead.
	slices.SortStableFunc(count, func(a, b api.Remap) int { return b.Gen - a.Gen })
	if len(count) == 0 {
		return answer{code: api.ErrIO}
	}
	return answer{table: count[0]}
}

// tableOf: what stands where a table's numbers stand.
func tableOf(b api.Block) api.Remap {
	var m api.Remap
	for i := range 8 {
		m.Gen |= int(b[1+i]) << (8 * i)
	}
	for i := range min(20, int(b[9])) {
		p := b[10+4*i:]
		m.Pairs = append(m.Pairs, api.Pair{From: int(p[0]) + 256*int(p[1]), To: int(p[2]) + 256*int(p[3])})
	}
	return m
}

func reading(n int) call {
	return call{
		fmt.Sprint("read ", n),
		func(d *api.Disk, m *api.Remap) answer {
			b, e := remap.Read(d, *m, n)
			return answer{block: b, code: e}
		},
		func(d *api.Disk, m *api.Remap) answer {
			if h := halvesOf(*d); h == 0 || !isRight(*m, len(d.Sectors)) || !between(h, n) {
				return answer{code: api.ErrArg}
			}
			b, e := disk.Read(d, sectorOf(*m, n))
			return answer{block: b, code: e}
		},
	}
}

func writing(n int, b api.Block) call {
	return call{
		fmt.Sprintf("write %x at %d", b[:2], n),
		func(d *api.Disk, m *api.Remap) answer { return answer{code: remap.Write(d, m, n, b)} },
		func(d *api.Disk, m *api.Remap) answer {
			if h := halvesOf(*d); h == 0 || !isRight(*m, len(d.Sectors)) || !between(h, n) {
				return answer{code: api.ErrArg}
			}
			e := disk.Write(d, sectorOf(*m, n), b)
			if e == api.ErrIO {
				e = replacing(d, m, n, b)
			}
			return answer{code: e}
		},
	}
}

// replacing: what becomes of a sector that can't be written.
func replacing(d *api.Disk, m *api.Remap, n int, b api.Block) api.Errno {
	for to := len(d.Sectors) - 20; to < len(d.Sectors); to++ {
		if slices.ContainsFunc(m.Pairs, func(p api.Pair) bool { return p.To == to }) {
			continue
		}
		if e := disk.Write(d, to, b); e == api.OK {
			return switching(d, m, n, to)
		} else if e != api.ErrIO {
			return e
		}
	}
	return api.ErrSpares
}

// switching: what becomes of disk and table when a spare sector has the block.
func switching(d *api.Disk, m *api.Remap, n, to int) api.Errno {
	if e := disk.Flush(d); e != api.OK {
		return e
	}
	next := api.Remap{Gen: m.Gen + 1, Pairs: slices.DeleteFunc(slices.Clone(m.Pairs), func(p api.Pair) bool { return p.From == n })}
	place := slices.IndexFunc(m.Pairs, func(p api.Pair) bool { return p.From == n })
	if place < 0 {
		place = len(next.Pairs)
	}
	next.Pairs = slices.Insert(next.Pairs, place, api.Pair{From: n, To: to})
	first := disk.Write(d, next.Gen%2, bytesOf(next))
	second := disk.Write(d, halvesOf(*d)+next.Gen%2, bytesOf(next))
	switch {
	case first == api.ErrDown || second == api.ErrDown:
		return api.ErrDown
	case first == api.ErrIO && second == api.ErrIO:
		return api.ErrIO
	}
	if e := disk.Flush(d); e != api.OK {
		return e
	}
	*m = next
	return api.OK
}

func looking() call {
	return call{
		"look",
		func(d *api.Disk, m *api.Remap) answer {
			r, e := remap.Look(d, *m)
			return answer{report: r, code: e}
		},
		func(d *api.Disk, m *api.Remap) answer {
			h := halvesOf(*d)
			switch {
			case h == 0:
				return answer{code: api.ErrArg}
			case d.Down:
				return answer{code: api.ErrDown}
			case !isRight(*m, len(d.Sectors)):
				return answer{code: api.ErrArg}
			}
			a := answer{report: api.Report{Seen: 2}}
			for _, at := range []int{m.Gen % 2, h + m.Gen%2} {
				b, e := disk.Read(d, at)
				if e == api.OK && b == bytesOf(*m) {
					continue
				}
				a.report.Bad++
				e = disk.Write(d, at, bytesOf(*m))
				if e == api.ErrDown {
					return answer{code: api.ErrDown}
				}
				if e == api.OK {
					a.report.Healed++
				}
			}
			return a
		},
	}
}

// check: the call answers, and changes disk and table, as it must; lists that stood there, and the room behind them, stay as they were, and those that are new share nothing with them.
func check(t *testing.T, d api.Disk, m api.Remap, c call) (api.Disk, api.Remap, answer) {
	t.Helper()
	d, m = roomy(d, m)
	oldDisk, oldTable := d, m
	wasDisk, wasTable := whole(d, m)
	wantDisk, wantTable := copied(d, m)
	want := c.must(&wantDisk, &wantTable)
	got := c.run(&d, &m)
	if !sameAnswer(got, want) || !sameDisk(d, wantDisk) || !sameTable(m, wantTable) {
		t.Fatalf("%s of %v, %s:\n%v, %v, %s, not\n%v, %v, %s", c.name, oldTable, told(oldDisk), told1(got), m, told(d), told1(want), wantTable, told(wantDisk))
	}
	if !sameTable(m, oldTable) {
		spoil(m.Pairs)
		defer spoil(m.Pairs)
	}
	spoil(got.table.Pairs)
	defer spoil(got.table.Pairs)
	nowDisk, nowTable := whole(oldDisk, oldTable)
	if !sameDisk(nowDisk, wasDisk) || !sameTable(nowTable, wasTable) || !sameDisk(d, wantDisk) {
		t.Fatalf("%s of %v, %s: lists that stood there, or the room behind them, are changed", c.name, oldTable, told(oldDisk))
	}
	return d, m, got
}

// room: how much stands behind lists that are handed in; no call may change it.
const room = 3

// roomy: the same disk and table in lists of their own, with something in the room behind them.
func roomy(d api.Disk, m api.Remap) (api.Disk, api.Remap) {
	d, m = copied(d, m)
	for i := range room {
		d.Sectors = append(d.Sectors, api.Sector{Data: block(900 + i), NoRead: true})
		d.Cache = append(d.Cache, api.Write{Data: block(800 + i)})
		m.Pairs = append(m.Pairs, api.Pair{From: 700 + i, To: -i})
	}
	d.Sectors = d.Sectors[:len(d.Sectors)-room]
	d.Cache = d.Cache[:len(d.Cache)-room]
	m.Pairs = m.Pairs[:len(m.Pairs)-room]
	return d, m
}

// whole: a copy of disk and table with all that stands in the room behind their lists.
func whole(d api.Disk, m api.Remap) (api.Disk, api.Remap) {
	d.Sectors, d.Cache, m.Pairs = d.Sectors[:cap(d.Sectors)], d.Cache[:cap(d.Cache)], m.Pairs[:cap(m.Pairs)]
	return copied(d, m)
}

// copied: the same disk and table in lists of their own.
func copied(d api.Disk, m api.Remap) (api.Disk, api.Remap) {
	d.Sectors, d.Cache, m.Pairs = slices.Clone(d.Sectors), slices.Clone(d.Cache), slices.Clone(m.Pairs)
	return d, m
}

// spoil: other pairs, in the room behind them too; spoilt twice they are as they were.
func spoil(pairs []api.Pair) {
	pairs = pairs[:cap(pairs)]
	for i := range pairs {
		pairs[i].From ^= 0x555
		pairs[i].To ^= 0x555
	}
}

func sameDisk(a, b api.Disk) bool {
	return a.Fuse == b.Fuse && a.Down == b.Down && slices.Equal(a.Sectors, b.Sectors) && slices.Equal(a.Cache, b.Cache)
}

func sameTable(a, b api.Remap) bool { return a.Gen == b.Gen && slices.Equal(a.Pairs, b.Pairs) }

func sameReport(a, b api.Report) bool {
	return a.Seen == b.Seen && a.Bad == b.Bad && a.Healed == b.Healed && slices.Equal(a.Lost, b.Lost)
}

func sameAnswer(a, b answer) bool {
	return a.code == b.code && a.block == b.block && sameTable(a.table, b.table) && sameReport(a.report, b.report)
}

// told: a disk in few words.
func told(d api.Disk) string {
	s := fmt.Sprintf("%d sectors, fuse %d, down %v, fail", len(d.Sectors), d.Fuse, d.Down)
	for at, x := range d.Sectors {
		if x.NoRead || x.NoWrite {
			s += fmt.Sprintf(" %d:%v/%v", at, x.NoRead, x.NoWrite)
		}
	}
	s += ", cache"
	for _, x := range d.Cache {
		s += fmt.Sprintf(" %d:%x", x.At, x.Data[:2])
	}
	return s
}

// told1: an answer in few words.
func told1(a answer) string {
	return fmt.Sprintf("%v %x.. %v %v", a.code, a.block[:2], a.table, a.report)
}

// block: a block like no other one of another number.
func block(n int) api.Block {
	var b api.Block
	for i := range b {
		b[i] = byte(n>>(8*(i%3)) + i*7)
	}
	return b
}

// fresh: a disk of so many sectors, each with a block of its own, and the first table.
func fresh(t *testing.T, sectors int) (api.Disk, api.Remap) {
	t.Helper()
	d, e := disk.New(sectors)
	if e != api.OK {
		t.Fatal(sectors, e)
	}
	for i := range d.Sectors {
		d.Sectors[i].Data = block(i)
	}
	m, e := remap.Format(&d)
	if e != api.OK {
		t.Fatal(sectors, e)
	}
	return d, m
}

// paired: pairs of the first and the second number, of the third and the fourth, and so on.
func paired(numbers ...int) []api.Pair {
	var l []api.Pair
	for p := range slices.Chunk(numbers, 2) {
		l = append(l, api.Pair{From: p[0], To: p[1]})
	}
	return l
}

// failing: sectors that can't be written from now on.
func failing(t *testing.T, d *api.Disk, at ...int) {
	t.Helper()
	for _, at := range at {
		if e := disk.Hit(d, at, 3, 0, 0); e != api.OK {
			t.Fatal(at, e)
		}
	}
}

// holding: the disk with tables in sectors, flushed.
func holding(d api.Disk, at map[int]api.Remap) api.Disk {
	d.Sectors = slices.Clone(d.Sectors)
	for at, m := range at {
		d.Sectors[at] = api.Sector{Data: bytesOf(m)}
	}
	return d
}

// extremes: numbers far from all that are right.
func extremes() []int {
	return []int{math.MinInt, math.MinInt + 1, math.MinInt + 19, math.MinInt + 20, math.MinInt32, -65536, -4097, -21, -20, -2, -1, 4097, 65535, 65536, 65538, math.MaxInt32, math.MaxUint32, 1<<32 + 2, 1 << 62, math.MaxInt - 1, math.MaxInt}
}

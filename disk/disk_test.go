package disk_test

import (
	"fmt"
	"math"
	"math/rand"
	"slices"
	"testing"

	"lazaret/api"
	"lazaret/disk"
)

// spare: how much room stands behind the lists of a disk that is handed in; no call may change what is there.
const spare = 3

// block: a block like no other one of another number.
func block(n int) api.Block {
	var b api.Block
	for i := range b {
		b[i] = byte(n>>(8*(i%3)) + i*11)
	}
	return b
}

// roomy: the same disk in lists of its own, with something in the room behind them.
func roomy(d api.Disk) api.Disk {
	s := slices.Clone(d.Sectors)
	c := slices.Clone(d.Cache)
	for i := range spare {
		s = append(s, api.Sector{Data: block(900 + i), NoRead: true, NoWrite: true})
		c = append(c, api.Write{At: 0, Data: block(800 + i)})
	}
	d.Sectors, d.Cache = s[:len(d.Sectors)], c[:len(d.Cache)]
	return d
}

// whole: the disk with all that stands in the room behind its lists.
func whole(d api.Disk) api.Disk {
	d.Sectors, d.Cache = d.Sectors[:cap(d.Sectors)], d.Cache[:cap(d.Cache)]
	return d
}

// copied: the same disk in lists of its own.
func copied(d api.Disk) api.Disk {
	d.Sectors, d.Cache = slices.Clone(d.Sectors), slices.Clone(d.Cache)
	return d
}

// same: is the one what the other is? (No writes may be nil or empty.)
func same(a, b api.Disk) bool {
	return a.Fuse == b.Fuse && a.Down == b.Down && slices.Equal(a.Sectors, b.Sectors) && slices.Equal(a.Cache, b.Cache)
}

// told: a disk in few words.
func told(d api.Disk) string {
	s := fmt.Sprintf("fuse %d down %v sectors", d.Fuse, d.Down)
	for _, x := range d.Sectors[:min(8, len(d.Sectors))] {
		s += fmt.Sprintf(" %x/%v/%v", x.Data[:2], x.NoRead, x.NoWrite)
	}
	s += fmt.Sprintf(" (%d) cache", len(d.Sectors))
	for _, x := range d.Cache {
		s += fmt.Sprintf(" %d:%x", x.At, x.Data[:2])
	}
	return s
}

// call: one of the calls with its arguments, and what it must answer and make of a disk.
type call struct {
	name string
	run  func(d *api.Disk) (api.Block, api.Errno)
	must func(d api.Disk) (api.Disk, api.Block, api.Errno)
}

// there: is the disk formed, and at one of its sectors? By the chapter's words.
func there(d api.Disk, at ...int) bool {
	n := len(d.Sectors)
	for _, w := range d.Cache {
		at = append(at, w.At)
	}
	low, high := 0, 0
	if len(at) > 0 {
		low, high = slices.Min(at), slices.Max(at)
	}
	return n > 0 && n < 4097 && low > -1 && high < n
}

// acted: what an act makes of a disk, by the chapter's words.
func acted(d api.Disk) (api.Disk, api.Errno) {
	switch {
	case d.Down:
		return d, api.ErrDown
	case d.Fuse == 0:
		d.Down = true
		return d, api.ErrDown
	case d.Fuse > 0:
		d.Fuse--
	}
	return d, api.OK
}

// laid: the disk with those of its Cache's writes whose numbers are listed, and no others, in their sectors.
func laid(d api.Disk, numbers []int) api.Disk {
	sectors := slices.Clone(d.Sectors)
	for i, w := range d.Cache {
		if slices.Contains(numbers, i) {
			sectors[w.At] = api.Sector{Data: w.Data, NoWrite: sectors[w.At].NoWrite}
		}
	}
	d.Sectors, d.Cache = sectors, nil
	return d
}

func reading(at int) call {
	return call{
		fmt.Sprintf("read %d", at),
		func(d *api.Disk) (api.Block, api.Errno) { return disk.Read(d, at) },
		func(d api.Disk) (api.Disk, api.Block, api.Errno) {
			if !there(d, at) {
				return d, api.Block{}, api.ErrArg
			}
			if d.Down {
				return d, api.Block{}, api.ErrDown
			}
			// Each write in its turn: what is there at the end is the last one's.
			b, bad := d.Sectors[at].Data, d.Sectors[at].NoRead
			for _, w := range d.Cache {
				if w.At == at {
					b, bad = w.Data, false
				}
			}
			if bad {
				return d, api.Block{}, api.ErrIO
			}
			return d, b, api.OK
		},
	}
}

func writing(at int, b api.Block) call {
	return call{
		fmt.Sprintf("write %x at %d", b[:2], at),
		func(d *api.Disk) (api.Block, api.Errno) { return api.Block{}, disk.Write(d, at, b) },
		func(d api.Disk) (api.Disk, api.Block, api.Errno) {
			if !there(d, at) {
				return d, api.Block{}, api.ErrArg
			}
			d, e := acted(d)
			if e == api.OK && d.Sectors[at].NoWrite {
				e = api.ErrIO
			}
			if e == api.OK {
				d.Cache = slices.Concat(d.Cache, []api.Write{{At: at, Data: b}})
			}
			return d, api.Block{}, e
		},
	}
}

func flushing() call {
	return call{
		"flush",
		func(d *api.Disk) (api.Block, api.Errno) { return api.Block{}, disk.Flush(d) },
		func(d api.Disk) (api.Disk, api.Block, api.Errno) {
			if !there(d) {
				return d, api.Block{}, api.ErrArg
			}
			d, e := acted(d)
			if e == api.OK {
				var all []int
				for i := range d.Cache {
					all = append(all, i)
				}
				d = laid(d, all)
			}
			return d, api.Block{}, e
		},
	}
}

func crashing(keep ...bool) call {
	return call{
		fmt.Sprint("crash ", keep),
		func(d *api.Disk) (api.Block, api.Errno) { return api.Block{}, disk.Crash(d, keep...) },
		func(d api.Disk) (api.Disk, api.Block, api.Errno) {
			if !there(d) {
				return d, api.Block{}, api.ErrArg
			}
			var kept []int
			for i, k := range keep {
				if k {
					kept = append(kept, i)
				}
			}
			d = laid(d, kept)
			d.Fuse, d.Down = -1, false
			return d, api.Block{}, api.OK
		},
	}
}

func hitting(at, kind, place int, by byte) call {
	return call{
		fmt.Sprintf("hit at %d, kind %d, place %d, by %d", at, kind, place, by),
		func(d *api.Disk) (api.Block, api.Errno) { return api.Block{}, disk.Hit(d, at, kind, place, by) },
		func(d api.Disk) (api.Disk, api.Block, api.Errno) {
			if !there(d, at) || kind < 1 || kind > 3 || kind == 1 && (place < 0 || place > 127) {
				return d, api.Block{}, api.ErrArg
			}
			s := d.Sectors[at]
			if kind == 1 {
				s.Data[place] ^= by
			}
			s.NoRead = s.NoRead || kind == 2
			s.NoWrite = s.NoWrite || kind == 3
			d.Sectors = slices.Concat(d.Sectors[:at], []api.Sector{s}, d.Sectors[at+1:])
			return d, api.Block{}, api.OK
		},
	}
}

func arming(n int) call {
	return call{
		fmt.Sprint("arm ", n),
		func(d *api.Disk) (api.Block, api.Errno) { return api.Block{}, disk.Arm(d, n) },
		func(d api.Disk) (api.Disk, api.Block, api.Errno) {
			if !there(d) || n < -1 {
				return d, api.Block{}, api.ErrArg
			}
			d.Fuse = n
			return d, api.Block{}, api.OK
		},
	}
}

// check: the call answers, and changes the disk, as it must; lists that stood there, and the room behind them, stay as they were, and behind a change share nothing with the disk's.
func check(t *testing.T, d api.Disk, c call) api.Disk {
	t.Helper()
	d = roomy(d)
	old := d
	before := copied(whole(old))
	want, block, code := c.must(d)
	b, e := c.run(&d)
	if e != code || b != block || !same(d, want) {
		t.Fatalf("%s of %s:\n%v %x %s, not\n%v %x %s", c.name, told(old), e, b[:2], told(d), code, block[:2], told(want))
	}
	if !same(whole(old), before) {
		t.Fatalf("%s of %s: the lists that stood there are changed", c.name, told(old))
	}
	if !same(d, old) {
		apart(t, c.name, d, old)
	}
	return d
}

// apart: no change of the one disk's lists, or of the room behind them, is seen in the other's.
func apart(t *testing.T, name string, a, b api.Disk) {
	t.Helper()
	was := copied(whole(b))
	spoil := func(d api.Disk) {
		d = whole(d)
		for i := range d.Sectors {
			d.Sectors[i].Data[0] ^= 0xff
		}
		for i := range d.Cache {
			d.Cache[i].Data[0] ^= 0xff
		}
	}
	spoil(a)
	if !same(whole(b), was) {
		t.Errorf("%s: the disk shares its lists with what stood there", name)
	}
	spoil(a)
}

// fresh: a disk of n sectors, each of them with a block of its own.
func fresh(t *testing.T, n int) api.Disk {
	t.Helper()
	d, e := disk.New(n)
	if e != api.OK {
		t.Fatal(n, e)
	}
	for i := range d.Sectors {
		d.Sectors[i].Data = block(i)
	}
	return d
}

// reads: what a sector reads as.
func reads(t *testing.T, d *api.Disk, at int, want api.Block, code api.Errno) {
	t.Helper()
	if b, e := disk.Read(d, at); b != want || e != code {
		t.Errorf("sector %d reads as %x.. %v, not %x.. %v", at, b[:2], e, want[:2], code)
	}
}

// extremes: numbers far from all that are right.
func extremes() []int {
	return []int{math.MinInt, math.MinInt + 1, math.MinInt32, -4097, -128, math.MaxInt32, math.MaxUint32, 1 << 62, math.MaxInt - 1, math.MaxInt}
}

func TestExamples(t *testing.T) {
	a, b := block(1), block(2)
	d, _ := disk.New(2)
	if disk.Write(&d, 0, a) != api.OK || disk.Write(&d, 1, b) != api.OK || disk.Crash(&d, false, true) != api.OK {
		t.Error("not done")
	}
	reads(t, &d, 0, api.Block{}, api.OK)
	reads(t, &d, 1, b, api.OK)
	if disk.Arm(&d, 1) != api.OK || disk.Write(&d, 0, a) != api.OK || disk.Write(&d, 0, b) != api.ErrDown {
		t.Error("the first write is done, the second isn't")
	}
}

func TestNew(t *testing.T) {
	for _, n := range []int{1, 2, 3, 127, 128, 4095, 4096} {
		d, e := disk.New(n)
		if e != api.OK || len(d.Sectors) != n || len(d.Cache) != 0 || d.Fuse != -1 || d.Down || !disk.Formed(d) {
			t.Errorf("%d sectors: %v, %d, %d, %d, %v", n, e, len(d.Sectors), len(d.Cache), d.Fuse, d.Down)
		}
		for i, s := range d.Sectors {
			if s != (api.Sector{}) {
				t.Errorf("sector %d of %d isn't one of zeros", i, n)
			}
		}
	}
	for _, n := range append([]int{-2, -1, 0, 4097, 4098, 8192}, extremes()...) {
		if d, e := disk.New(n); e != api.ErrArg || !same(d, api.Disk{}) {
			t.Errorf("%d sectors: %v %s", n, e, told(d))
		}
	}
	a, _ := disk.New(3)
	b, _ := disk.New(3)
	apart(t, "two new disks", a, b)
}

// sized: a disk of n sectors, with writes at some of them, or beside them.
func sized(n int, at ...int) api.Disk {
	d := api.Disk{Sectors: make([]api.Sector, n), Fuse: 2}
	for i, x := range at {
		d.Cache = append(d.Cache, api.Write{At: x, Data: block(i)})
	}
	return d
}

// unformed: disks that aren't as they must be.
func unformed() []api.Disk {
	list := []api.Disk{{}, {Fuse: -1}, {Cache: []api.Write{{}}}, {Sectors: []api.Sector{}, Down: true}, sized(0, 0), sized(4097), sized(4097, 4096), sized(8192), sized(4096, 4096)}
	for _, n := range []int{1, 2, 5} {
		for _, at := range append([]int{-1, -2, n, n + 1}, extremes()...) {
			list = append(list, sized(n, at), sized(n, 0, at), sized(n, at, 0), sized(n, 0, at, n-1))
		}
	}
	return list
}

func TestFormed(t *testing.T) {
	for _, d := range []api.Disk{sized(1), sized(2), sized(4095), sized(4096), sized(1, 0), sized(1, 0, 0, 0), sized(5, 4, 0, 4, 3), sized(4096, 4095, 0)} {
		for _, fuse := range append([]int{-2, -1, 0, 1}, extremes()...) {
			d.Fuse, d.Down = fuse, fuse%2 == 0
			if !disk.Formed(d) {
				t.Errorf("not formed: %s", told(d))
			}
		}
		d.Sectors[0].NoRead, d.Sectors[0].NoWrite = true, true
		if !disk.Formed(d) {
			t.Errorf("not formed: %s", told(d))
		}
	}
	for _, d := range unformed() {
		d = roomy(d)
		before := copied(whole(d))
		if disk.Formed(d) {
			t.Errorf("formed: %s", told(d))
		}
		if !same(whole(d), before) {
			t.Errorf("another one: %s", told(d))
		}
	}
}

// calls: one of each call, such as a disk that is formed and has power does.
func calls() []call {
	return []call{reading(0), writing(0, block(7)), flushing(), crashing(), crashing(true, true), hitting(0, 1, 0, 1), hitting(0, 2, 0, 0), hitting(0, 3, 0, 0), arming(-1), arming(0), arming(5)}
}

// A disk that isn't formed is left as it is, with its lists.
func TestNotFormed(t *testing.T) {
	for _, d := range unformed() {
		for _, c := range calls() {
			x := check(t, d, c)
			if b, e := c.run(&x); e != api.ErrArg || b != (api.Block{}) || !same(x, d) {
				t.Errorf("%s of %s: %v", c.name, told(d), e)
			}
		}
	}
	for _, c := range calls() {
		if b, e := c.run(nil); e != api.ErrArg || b != (api.Block{}) {
			t.Errorf("%s of no disk: %v", c.name, e)
		}
	}
}

// A sector that isn't there: ErrArg, ahead of all other errors, and no act is done.
func TestSectorsThatAreNotThere(t *testing.T) {
	for _, n := range []int{1, 2, 4096} {
		for _, at := range append([]int{-2, -1, n, n + 1, 4096, 4097}, extremes()...) {
			for _, d := range []api.Disk{sized(n), sized(n, n-1), {Sectors: make([]api.Sector, n), Fuse: 0}, {Sectors: make([]api.Sector, n), Fuse: 1, Down: true}} {
				for _, c := range []call{reading(at), writing(at, block(1)), hitting(at, 1, 0, 1), hitting(at, 2, 0, 1), hitting(at, 3, 0, 1), hitting(at, 4, 0, 1)} {
					x := copied(d)
					if _, e := c.run(&x); e != api.ErrArg || !same(x, d) {
						t.Errorf("%s of %d sectors: %v, or another disk", c.name, n, e)
					}
				}
			}
		}
		for _, at := range []int{0, n - 1} {
			for _, c := range []call{reading(at), writing(at, block(1)), hitting(at, 1, 0, 1)} {
				x := sized(n)
				if _, e := c.run(&x); e != api.OK {
					t.Errorf("%s of %d sectors: %v", c.name, n, e)
				}
			}
		}
	}
}

func TestRead(t *testing.T) {
	d := fresh(t, 4)
	d.Sectors[1].NoRead = true
	d.Sectors[2].NoRead = true
	d.Sectors[3].NoWrite = true
	d.Cache = []api.Write{{At: 0, Data: block(10)}, {At: 2, Data: block(11)}, {At: 0, Data: block(12)}, {At: 2, Data: block(13)}, {At: 0, Data: block(14)}}
	for _, fuse := range []int{-1, 0, 1} {
		d.Fuse = fuse
		reads(t, &d, 0, block(14), api.OK)
		reads(t, &d, 1, api.Block{}, api.ErrIO)
		reads(t, &d, 2, block(13), api.OK)
		reads(t, &d, 3, block(3), api.OK)
		if d.Fuse != fuse {
			t.Errorf("a read is no act: fuse %d", d.Fuse)
		}
	}
	d.Down = true
	for at := range 4 {
		reads(t, &d, at, api.Block{}, api.ErrDown)
	}
}

// What was read stays, whatever is done to the disk then, and a block that was written isn't the caller's any more.
func TestBlocksAreOtherOnes(t *testing.T) {
	d := fresh(t, 2)
	b := block(9)
	disk.Write(&d, 0, b)
	b[0] ^= 1
	reads(t, &d, 0, block(9), api.OK)
	got, _ := disk.Read(&d, 0)
	got[1] ^= 1
	reads(t, &d, 0, block(9), api.OK)
	got, _ = disk.Read(&d, 1)
	disk.Hit(&d, 1, 1, 5, 255)
	if got != block(1) {
		t.Error("what was read is another one")
	}
}

func TestWrite(t *testing.T) {
	d := fresh(t, 3)
	for i, at := range []int{2, 0, 2, 2, 1} {
		if e := disk.Write(&d, at, block(20+i)); e != api.OK {
			t.Fatal(at, e)
		}
		reads(t, &d, at, block(20+i), api.OK)
		if w := d.Cache[i]; len(d.Cache) != i+1 || w.At != at || w.Data != block(20+i) {
			t.Errorf("write %d isn't the Cache's last one", i)
		}
		if d.Sectors[at].Data != block(at) {
			t.Errorf("write %d stands in its sector, and isn't flushed", i)
		}
	}
	if d.Fuse != -1 || d.Down {
		t.Errorf("fuse %d down %v", d.Fuse, d.Down)
	}
}

// A sector that can't be written: the act is done, the write isn't.
func TestSectorsThatCantBeWritten(t *testing.T) {
	d := fresh(t, 2)
	disk.Write(&d, 0, block(5))
	if e := disk.Hit(&d, 0, 3, 0, 0); e != api.OK {
		t.Error(e)
	}
	disk.Arm(&d, 2)
	for _, x := range []struct {
		code api.Errno
		fuse int
		down bool
	}{{api.ErrIO, 1, false}, {api.ErrIO, 0, false}, {api.ErrDown, 0, true}, {api.ErrDown, 0, true}} {
		if e := disk.Write(&d, 0, block(6)); e != x.code || d.Fuse != x.fuse || d.Down != x.down || len(d.Cache) != 1 {
			t.Errorf("%v, fuse %d down %v, %d writes, not %v", e, d.Fuse, d.Down, len(d.Cache), x)
		}
	}
	// What was written ahead of it is flushed all the same.
	if e := disk.Crash(&d, true); e != api.OK || d.Sectors[0].Data != block(5) || !d.Sectors[0].NoWrite {
		t.Errorf("%v %s", e, told(d))
	}
	disk.Write(&d, 1, block(7))
	if e := disk.Flush(&d); e != api.OK || !d.Sectors[0].NoWrite || d.Sectors[1].Data != block(7) {
		t.Errorf("%v %s", e, told(d))
	}
}

func TestFlush(t *testing.T) {
	d := fresh(t, 5)
	d.Sectors[0].NoRead = true
	d.Sectors[1].NoRead = true
	d.Sectors[1].NoWrite = true
	d.Sectors[4].NoRead = true
	d.Cache = []api.Write{{At: 0, Data: block(10)}, {At: 1, Data: block(11)}, {At: 2, Data: block(12)}, {At: 0, Data: block(13)}, {At: 2, Data: block(14)}}
	if e := disk.Flush(&d); e != api.OK || len(d.Cache) != 0 {
		t.Error(e, len(d.Cache))
	}
	want := []api.Sector{{Data: block(13)}, {Data: block(11), NoWrite: true}, {Data: block(14)}, {Data: block(3)}, {Data: block(4), NoRead: true}}
	if !slices.Equal(d.Sectors, want) {
		t.Error(told(d))
	}
	if e := disk.Flush(&d); e != api.OK || !slices.Equal(d.Sectors, want) {
		t.Errorf("flushed again: %v %s", e, told(d))
	}
}

func TestCrash(t *testing.T) {
	for _, x := range []struct {
		keep []bool
		want [3]int
	}{
		{nil, [3]int{0, 1, 2}},
		{[]bool{}, [3]int{0, 1, 2}},
		{[]bool{false}, [3]int{0, 1, 2}},
		{[]bool{true}, [3]int{10, 1, 2}},
		{[]bool{true, false, true}, [3]int{12, 1, 2}},
		{[]bool{false, true}, [3]int{0, 11, 2}},
		{[]bool{true, true, false, false}, [3]int{10, 11, 2}},
		{[]bool{false, false, true, true}, [3]int{12, 13, 2}},
		{[]bool{true, true, true, true}, [3]int{12, 13, 2}},
		{[]bool{true, true, true, true, true, true}, [3]int{12, 13, 2}},
		{[]bool{false, false, false, false, true}, [3]int{0, 1, 2}},
	} {
		d := fresh(t, 3)
		d.Cache = []api.Write{{At: 0, Data: block(10)}, {At: 1, Data: block(11)}, {At: 0, Data: block(12)}, {At: 1, Data: block(13)}}
		d.Fuse, d.Down = len(x.keep), len(x.keep)%2 == 0
		keep := slices.Clone(x.keep)
		if e := disk.Crash(&d, keep...); e != api.OK || len(d.Cache) != 0 || d.Fuse != -1 || d.Down {
			t.Errorf("kept %v: %v %s", x.keep, e, told(d))
		}
		for at, n := range x.want {
			reads(t, &d, at, block(n), api.OK)
		}
		if !slices.Equal(keep, x.keep) {
			t.Errorf("kept %v: it is %v now", x.keep, keep)
		}
	}
}

// What is kept can be read from then on, what isn't can't; what fails to be written fails ever after.
func TestCrashOfSectorsThatFail(t *testing.T) {
	for _, keep := range []bool{false, true} {
		d := fresh(t, 3)
		for at := range 3 {
			disk.Write(&d, at, block(10+at))
			disk.Hit(&d, at, 2, 0, 0)
			disk.Hit(&d, at, 3, 0, 0)
		}
		if e := disk.Crash(&d, false, keep, false); e != api.OK {
			t.Error(e)
		}
		reads(t, &d, 0, api.Block{}, api.ErrIO)
		reads(t, &d, 2, api.Block{}, api.ErrIO)
		if keep {
			reads(t, &d, 1, block(11), api.OK)
		} else {
			reads(t, &d, 1, api.Block{}, api.ErrIO)
		}
		for at := range 3 {
			if e := disk.Write(&d, at, block(1)); e != api.ErrIO {
				t.Errorf("sector %d can be written: %v", at, e)
			}
		}
	}
}

func TestHit(t *testing.T) {
	for _, place := range []int{0, 1, 64, 126, 127} {
		for _, by := range []byte{0, 1, 128, 255} {
			d := fresh(t, 2)
			want := block(1)
			want[place] ^= by
			if e := disk.Hit(&d, 1, 1, place, by); e != api.OK {
				t.Error(place, by, e)
			}
			reads(t, &d, 1, want, api.OK)
			reads(t, &d, 0, block(0), api.OK)
			disk.Hit(&d, 1, 1, place, by)
			reads(t, &d, 1, block(1), api.OK)
		}
	}
	for _, kind := range append([]int{-1, 0, 1, 2, 3, 4, 5}, extremes()...) {
		for _, place := range append([]int{-1, 0, 127, 128}, extremes()...) {
			for _, down := range []bool{false, true} {
				d := fresh(t, 2)
				d.Down, d.Fuse = down, 0
				d.Cache = []api.Write{{At: 1, Data: block(9)}, {At: 0, Data: block(8)}}
				check(t, d, hitting(1, kind, place, 3))
			}
		}
	}
}

// A hit is of what stands in the sector; a write of the Cache is as it was.
func TestHitBesideTheCache(t *testing.T) {
	d := fresh(t, 1)
	disk.Write(&d, 0, block(9))
	disk.Hit(&d, 0, 1, 3, 7)
	disk.Hit(&d, 0, 2, 0, 0)
	reads(t, &d, 0, block(9), api.OK)
	x := d
	if disk.Crash(&x) != api.OK || disk.Hit(&x, 0, 1, 3, 7) != api.OK {
		t.Error("not done")
	}
	reads(t, &x, 0, api.Block{}, api.ErrIO)
	if x.Sectors[0].Data != block(0) {
		t.Error("hit twice by the same: it isn't as it was")
	}
	disk.Flush(&d)
	reads(t, &d, 0, block(9), api.OK)
}

func TestArm(t *testing.T) {
	for _, n := range []int{-1, 0, 1, 2, math.MaxInt32, math.MaxInt} {
		for _, down := range []bool{false, true} {
			d := fresh(t, 1)
			d.Fuse, d.Down = 7, down
			if e := disk.Arm(&d, n); e != api.OK || d.Fuse != n || d.Down != down {
				t.Errorf("armed with %d: %v %s", n, e, told(d))
			}
		}
	}
	for _, n := range []int{-2, -3, math.MinInt32, math.MinInt} {
		d := fresh(t, 1)
		d.Fuse = 7
		if e := disk.Arm(&d, n); e != api.ErrArg || d.Fuse != 7 {
			t.Errorf("armed with %d: %v %s", n, e, told(d))
		}
	}
}

// Just so many acts are done, whichever they are; from then on each is told ErrDown, till the power comes again.
func TestFuse(t *testing.T) {
	acts := []call{writing(0, block(1)), flushing(), writing(1, block(2))} // sector 1 can't be written
	for n := range 9 {
		for first := range acts {
			d := fresh(t, 2)
			d.Sectors[1].NoWrite = true
			disk.Arm(&d, n)
			for i := range n {
				if _, e := acts[(first+i)%3].run(&d); e == api.ErrDown || d.Down || d.Fuse != n-1-i {
					t.Fatalf("act %d of %d: %v %s", i, n, e, told(d))
				}
				disk.Read(&d, 0)
				disk.Hit(&d, 0, 1, 0, 1)
			}
			for i := range 4 {
				was := copied(d)
				was.Down = true
				if _, e := acts[(first+i)%3].run(&d); e != api.ErrDown || !same(d, was) {
					t.Fatalf("act %d behind %d: %v %s", i, n, e, told(d))
				}
				reads(t, &d, 0, api.Block{}, api.ErrDown)
			}
			if e := disk.Arm(&d, 3); e != api.OK || !d.Down {
				t.Errorf("armed without power: %v %s", e, told(d))
			}
			if e := disk.Write(&d, 0, block(3)); e != api.ErrDown || d.Fuse != 3 {
				t.Errorf("armed without power, and written: %v %s", e, told(d))
			}
			if disk.Crash(&d) != api.OK || disk.Write(&d, 0, block(3)) != api.OK || disk.Flush(&d) != api.OK {
				t.Errorf("the power came again: %s", told(d))
			}
		}
	}
}

// Below 0 any number of acts is done, and none is counted.
func TestNoFuse(t *testing.T) {
	for _, fuse := range []int{-1, -2, -3, math.MinInt + 1, math.MinInt} {
		d := fresh(t, 1)
		d.Fuse = fuse
		for i := range 50 {
			if disk.Write(&d, 0, block(i)) != api.OK || disk.Flush(&d) != api.OK || d.Fuse != fuse || d.Down {
				t.Fatalf("fuse %d, act %d: %s", fuse, i, told(d))
			}
		}
	}
}

// all: all disks of n sectors that fail in all ways, with so many writes at all sectors, and one beside them, and all kinds of fuses.
func all(n, writes int, do func(d api.Disk)) {
	caches := [][]api.Write{nil}
	for range writes {
		for _, c := range slices.Clone(caches) {
			for at := -1; at <= n; at++ {
				caches = append(caches, slices.Concat(c, []api.Write{{At: at, Data: block(50 + 3*len(c) + at)}}))
			}
		}
	}
	for fails := range 1 << (2 * n) {
		d := api.Disk{Sectors: make([]api.Sector, n)}
		for i := range d.Sectors {
			d.Sectors[i] = api.Sector{Data: block(i), NoRead: fails>>(2*i)&1 != 0, NoWrite: fails>>(2*i+1)&1 != 0}
		}
		for _, d.Cache = range caches {
			for _, d.Fuse = range []int{-2, -1, 0, 1, 2} {
				for _, d.Down = range []bool{false, true} {
					do(d)
				}
			}
		}
	}
}

// P3.1: all calls on all small disks.
func TestAllSmallDisks(t *testing.T) {
	for n := range 3 {
		var list []call
		for at := -1; at <= n; at++ {
			list = append(list, reading(at), writing(at, block(40)), hitting(at, 0, 0, 1), hitting(at, 1, 127, 1), hitting(at, 1, 128, 1), hitting(at, 2, -1, 1), hitting(at, 3, 128, 1), hitting(at, 4, 0, 1))
		}
		list = append(list, flushing(), arming(-2), arming(-1), arming(0), arming(1))
		list = append(list, crashing(), crashing(true), crashing(false), crashing(true, false), crashing(false, true), crashing(true, true, true))
		all(n, 2, func(d api.Disk) {
			for _, c := range list {
				check(t, d, c)
			}
		})
	}
}

// anyCall: one of the calls with arguments of any kind, more often right than not.
func anyCall(r *rand.Rand, n int) call {
	at := r.Intn(n)
	if r.Intn(20) == 0 {
		at = []int{-1, n, n + 1}[r.Intn(3)]
	}
	switch r.Intn(12) {
	case 0, 1, 2, 3:
		return writing(at, block(r.Intn(1000)))
	case 4, 5:
		return reading(at)
	case 6:
		return flushing()
	case 7:
		keep := make([]bool, r.Intn(8))
		for i := range keep {
			keep[i] = r.Intn(2) == 0
		}
		return crashing(keep...)
	case 8, 9:
		return hitting(at, r.Intn(5), r.Intn(131)-1, byte(r.Intn(256)))
	}
	return arming(r.Intn(12) - 2)
}

// P3.1: a long way of calls. What any disk on it had stays as it was till the end.
func TestLongWays(t *testing.T) {
	for seed := range 40 {
		r := rand.New(rand.NewSource(int64(seed)))
		n := 1 + r.Intn(6)
		d := fresh(t, n)
		var had, were []api.Disk
		for range 300 {
			c := anyCall(r, n)
			d = check(t, d, c)
			had, were = append(had, d), append(were, copied(whole(d)))
		}
		for i := range had {
			if !same(whole(had[i]), were[i]) {
				t.Fatalf("seed %d: the disk behind call %d is another one", seed, i)
			}
		}
	}
}

// Behind each change all lists are other ones, those that have the same in them too.
func TestListsAreOtherOnes(t *testing.T) {
	for _, c := range calls()[1:] {
		d := roomy(fresh(t, 3))
		d.Fuse = 4
		d.Cache = append(d.Cache, api.Write{At: 1, Data: block(9)}, api.Write{At: 0, Data: block(8)})
		old := d
		if _, e := c.run(&d); e != api.OK {
			t.Errorf("%s: %v", c.name, e)
		}
		apart(t, c.name, d, old)
		apart(t, c.name, old, d)
	}
}

// may: what a sector may have behind a crash: what it had at the last flush, or what a later write laid there.
type may [][]api.Block

// flushed: what the sectors read as, and nothing else.
func flushed(t *testing.T, d *api.Disk) may {
	t.Helper()
	var m may
	for at := range d.Sectors {
		b, e := disk.Read(d, at)
		if e != api.OK {
			t.Fatal(at, e)
		}
		m = append(m, []api.Block{b})
	}
	return m
}

func (m may) hold(t *testing.T, d *api.Disk) {
	t.Helper()
	for at := range m {
		if b, e := disk.Read(d, at); e != api.OK || !slices.Contains(m[at], b) {
			t.Fatalf("sector %d reads as %x.. %v: that was neither flushed nor written later", at, b[:2], e)
		}
	}
}

// P3.2: what is flushed is there behind any crash, as long as nothing is written over it.
func TestFlushedLasts(t *testing.T) {
	for seed := range 60 {
		r := rand.New(rand.NewSource(int64(seed)))
		n := 1 + r.Intn(8)
		d := fresh(t, n)
		m := flushed(t, &d)
		for i := range 400 {
			switch r.Intn(10) {
			case 0, 1:
				if disk.Flush(&d) == api.OK {
					m = flushed(t, &d)
				}
			case 2:
				disk.Arm(&d, r.Intn(9)-1)
			case 3:
				keep := make([]bool, r.Intn(len(d.Cache)+3))
				for i := range keep {
					keep[i] = r.Intn(2) == 0
				}
				if e := disk.Crash(&d, keep...); e != api.OK {
					t.Fatal(e)
				}
				m.hold(t, &d)
			default:
				at := r.Intn(n)
				if b := block(1000*seed + i); disk.Write(&d, at, b) == api.OK {
					m[at] = append(m[at], b)
				}
			}
		}
	}
}

// P3.2 for a full disk: all of it is flushed, then half of it written over, and all that is lost.
func TestFullDisk(t *testing.T) {
	d, e := disk.New(api.MaxSectors)
	if e != api.OK {
		t.Fatal(e)
	}
	for at := range d.Sectors {
		d.Cache = append(d.Cache, api.Write{At: at, Data: block(at)})
	}
	if e := disk.Flush(&d); e != api.OK {
		t.Fatal(e)
	}
	for at := 0; at < api.MaxSectors; at += 64 {
		if e := disk.Write(&d, at, block(at+1)); e != api.OK {
			t.Fatal(at, e)
		}
	}
	disk.Crash(&d)
	for at := range d.Sectors {
		reads(t, &d, at, block(at), api.OK)
	}
}

// P1: an answer hangs on the arguments alone, whatever was asked of another disk ahead of it.
func TestNothingIsKept(t *testing.T) {
	other := fresh(t, 6)
	r := rand.New(rand.NewSource(1))
	for range 300 {
		anyCall(r, 6).run(&other)
		d := fresh(t, 2)
		d = check(t, d, writing(1, block(5)))
		d = check(t, d, reading(1))
		d = check(t, d, hitting(0, 2, 0, 0))
		d = check(t, d, reading(0))
		d = check(t, d, arming(1))
		d = check(t, d, flushing())
		d = check(t, d, flushing())
		d = check(t, d, crashing(true))
		check(t, d, reading(1))
	}
}

package flow_test

import (
	"bytes"
	"math"
	"slices"
	"testing"

	"lazaret/api"
	"lazaret/disk"
	"lazaret/flow"
	"lazaret/remap"
	"lazaret/space"
	"lazaret/stem"
	"lazaret/vol"
)

// The chapter's example.
func TestExample(t *testing.T) {
	v, s := fresh(t, 4), empty(1)
	if e := flow.Write(&v, &s, 300, []byte("xy")); e != api.OK || s.Size != 302 || stem.Leaves(s.Size) != 3 {
		t.Error(e, s.Size)
	}
	if b, e := flow.Read(&v, s, 299, 9); e != api.OK || !bytes.Equal(b, []byte("\x00xy")) {
		t.Error(b, e)
	}
	if l, e := flow.Holes(&v, s); e != api.OK || !slices.Equal(l, []int{0, 1}) {
		t.Error(l, e)
	}
	if used := space.Used(v.Space); used != 3 {
		t.Error(used)
	}
}

// files: stems of those lengths, with holes and without, kept once and twice.
func files(sizes ...int) []plain {
	var l []plain
	for i, size := range sizes {
		copies := 1 + i%2
		l = append(l, plain{noise(1, size), copies}, plain{holed(size, func(i int) bool { return i%3 != 1 }), 3 - copies})
	}
	return l
}

// Reads at all edges: of where it begins, and of how much is asked for; what is beyond Size isn't there.
func TestRead(t *testing.T) {
	t.Parallel()
	for _, x := range files(edges()...) {
		v, s, _, _ := planted(t, 20, x)
		holds(t, v, s, x)
		size := len(x.b)
		for _, off := range []int{math.MinInt, -1 << 32, -129, -1, 0, 1, 100, 127, 128, 300, size - 128, size - 1, size, size + 1, 8191, 8192, 1 << 32, math.MaxInt - 1, math.MaxInt} {
			for _, n := range []int{math.MinInt, -128, -1, 0, 1, 2, 127, 128, 129, 500, 8192, size - off - 1, size - off, size - off + 1, 1<<32 + 1, math.MaxInt} {
				c := reading(off, n)
				got, again := c.run(&v, &s), c.run(&v, &s)
				if _, want := c.must(x); !got.is(want) {
					t.Fatalf("%s of %d bytes: %s, not %s", c.name, size, said(got), said(want))
				}
				if len(got.b) > 0 {
					got.b[0] ^= 1
					if got.b[0] == again.b[0] {
						t.Fatalf("%s: two answers share their bytes", c.name)
					}
				}
			}
		}
		check(t, v, s, x, reading(0, size))
		check(t, v, s, x, reading(size/2, 130))
		check(t, v, s, x, holing())
	}
}

// Each piece of a short stem.
func TestReadEachPiece(t *testing.T) {
	x := plain{noise(3, 260), 1}
	v, s, _, _ := planted(t, 4, x)
	for off := range 264 {
		for n := 0; n < 266; n += 1 + n%5 {
			if b, e := flow.Read(&v, s, off, n); e != api.OK || !bytes.Equal(b, x.b[min(off, 260):min(off+n, 260)]) {
				t.Fatal(off, n, told(b), e)
			}
		}
	}
}

// pieces: of no bytes, of one, within a leaf, over its end, over many leaves.
func pieces() []int { return []int{0, 1, 100, 127, 128, 129, 256, 1000} }

// Writes at all edges, of bytes and of zeros: behind each all bytes are what they must be, and zeros where nothing was written.
func TestWrite(t *testing.T) {
	t.Parallel()
	for k, x := range files(0, 1, 128, 300, 1153, 8192) {
		v, s, _, _ := planted(t, 20, x)
		size := len(x.b)
		for _, off := range []int{0, 1, 127, 128, 200, size - 128, size - 1, size, size + 1, size + 500, 8191, 8192} {
			for i, n := range append(pieces(), min(3500, 8192-off)) {
				if off < 0 || n < 0 || n > 2000 && (k+off)%3 > 0 {
					continue
				}
				if (k+i+off)%4 > 0 {
					check(t, v, s, x, writing(off, noise(2, n)))
				} else {
					check(t, v, s, x, writing(off, make([]byte, n)))
				}
			}
			// As it was.
			if off >= 0 && off < size {
				check(t, v, s, x, writing(off, x.b[off:]))
				check(t, v, s, x, writing(off, x.b[off:min(size, off+130)]))
			}
		}
	}
}

// What lies between Size and a write far behind it is zeros, whatever was there and was cut off.
func TestWriteFarBehind(t *testing.T) {
	for _, from := range []int{1, 100, 128, 300, 1200, 8192} {
		for _, size := range []int{0, 1, 50, 127, 128, 129, 250} {
			for _, off := range []int{size, size + 1, 128, 255, 256, 300, 2000, 8191} {
				if size > from || off < size {
					continue
				}
				x := plain{noise(1, from), 1}
				v, s, _, _ := planted(t, 20, x)
				v, s, x = check(t, v, s, x, cutting(size))
				v, s, x = check(t, v, s, x, writing(off, []byte{5}))
				if !bytes.Equal(x.b[size:], append(make([]byte, off-size), 5)) {
					t.Fatal(from, size, off)
				}
			}
		}
	}
}

// Just 8192 bytes are taken; that there are more is told ahead of all but a wrong off, and of no bytes too.
func TestTooBig(t *testing.T) {
	x := plain{noise(1, 300), 2}
	v, s, _, _ := planted(t, 130, x)
	down := v
	down.Disk.Down = true
	for _, k := range []struct {
		off, n int
		code   api.Errno
	}{
		{8191, 0, api.OK}, {8191, 1, api.OK}, {8191, 2, api.ErrTooBig}, {8192, 0, api.OK}, {8192, 1, api.ErrTooBig},
		{8193, 0, api.ErrTooBig}, {0, 8191, api.OK}, {0, 8192, api.OK}, {0, 8193, api.ErrTooBig}, {1, 8190, api.OK}, {1, 8191, api.OK},
		{1, 8192, api.ErrTooBig}, {4096, 4096, api.OK}, {4096, 4097, api.ErrTooBig}, {0, 70000, api.ErrTooBig},
		{math.MaxInt, 0, api.ErrTooBig}, {math.MaxInt, 1, api.ErrTooBig}, {math.MaxInt, 9000, api.ErrTooBig}, {math.MaxInt - 8192, 8193, api.ErrTooBig},
		{-1, 0, api.ErrArg}, {-1, 1, api.ErrArg}, {-1, 9000, api.ErrArg}, {-9000, 9000, api.ErrArg}, {math.MinInt, 8193, api.ErrArg},
	} {
		c := writing(k.off, noise(3, k.n))
		if k.code == api.OK {
			check(t, v, s, x, c)
			continue
		}
		refused(t, v, s, c, k.code)
		refused(t, down, s, c, k.code)
		refused(t, v, empty(1), c, k.code)
	}
	for _, n := range extremes() {
		code := api.ErrTooBig
		if n < 0 {
			code = api.ErrArg
		}
		for _, v := range []api.Vol{v, down} {
			refused(t, v, s, cutting(n), code)
			refused(t, v, s, writing(n, nil), code)
			refused(t, v, s, writing(n, noise(1, 200)), code)
		}
		if n > 8192 && n < 1<<17 {
			refused(t, v, s, filling(make([]byte, n)), code)
			refused(t, down, s, filling(noise(1, n)), code)
		}
	}
	check(t, v, s, x, filling(noise(5, 8192)))
	check(t, v, s, x, filling(noise(5, 8191)))
	check(t, v, s, x, cutting(8192))
}

// A write without bytes changes nothing: wherever it stands, and without power too.
func TestWriteNothing(t *testing.T) {
	for _, x := range []plain{{nil, 1}, {noise(1, 300), 1}, {noise(1, 8192), 2}} {
		v, s, _, _ := planted(t, 100, x)
		v.Disk.Down = true
		for _, off := range edges() {
			for _, b := range [][]byte{nil, {}} {
				if end, next, got := done(t, v, s, writing(off, b)); got.code != api.OK || next != s || !same(end, v) {
					t.Error(off, said(got), toldStem(next))
				}
			}
		}
	}
}

// From each length to each other one, and back: what was cut off comes back as zeros.
func TestCut(t *testing.T) {
	t.Parallel()
	for _, x := range files(1, 127, 129, 384, 385, 1153, 3457, 8191, 8192) {
		v, s, _, _ := planted(t, 20, x)
		size := len(x.b)
		for _, to := range append(edges(), size-1, size-60, size-100, size+1, 128*(size/128)) {
			if to < 0 || to > 8192 {
				continue
			}
			end, next, y := check(t, v, s, x, cutting(to))
			end, next, y = check(t, end, next, y, cutting(size))
			if !bytes.Equal(y.b[min(to, size):], make([]byte, size-min(to, size))) {
				t.Fatal(size, to)
			}
			if to > 0 {
				check(t, end, next, y, cutting(to-1))
			}
		}
		if end, next, _ := check(t, v, s, x, cutting(0)); next != empty(x.copies) || space.Used(end.Space) != 0 || !sameDisk(end.Disk, v.Disk) {
			t.Errorf("%d bytes: %s is left", size, toldStem(next))
		}
	}
}

// The bytes of the last leaf that are left over are zeros in the block too, however the stem came to its length.
func TestLeftOver(t *testing.T) {
	x := plain{noise(1, 400), 1}
	v, s, _, _ := planted(t, 20, x)
	for _, list := range [][]call{
		{cutting(300)}, {cutting(257)}, {cutting(399)}, {filling(noise(2, 290))}, {filling(noise(2, 390)), cutting(388)},
		{cutting(200), cutting(220), writing(230, noise(3, 1))}, {cutting(300), filling(noise(1, 290))}, {cutting(256), cutting(300)},
	} {
		v, s, x := v, s, x
		for _, c := range list {
			v, s, x = check(t, v, s, x, c)
		}
		last := stem.Leaves(s.Size) - 1
		b, e := stem.Leaf(&v, s, last)
		if rest := b[len(x.b)-128*last:]; e != api.OK || !bytes.Equal(rest, make([]byte, len(rest))) {
			t.Errorf("%s: %v, %x", toldStem(s), e, rest)
		}
	}
}

// Fill with none, with fewer, with as many and with more bytes than there were, with zeros, and with the same ones.
func TestFill(t *testing.T) {
	t.Parallel()
	for k, x := range files(0, 1, 129, 385, 1153, 8192) {
		v, s, _, _ := planted(t, 100, x)
		size := len(x.b)
		for i, n := range append(edges(), size-1, size, size+1) {
			if n < 0 || n > 8192 || n > 2000 && (i+k)%6 > 0 {
				continue
			}
			check(t, v, s, x, filling(noise(2, n)))
			check(t, v, s, x, filling(make([]byte, n)))
			check(t, v, s, x, filling(x.cut(n).b))
		}
		if end, next, _ := check(t, v, s, x, filling(nil)); next != empty(x.copies) || space.Used(end.Space) != 0 {
			t.Errorf("%d bytes: %s is left", size, toldStem(next))
		}
		check(t, v, s, x, filling([]byte{}))
	}
}

// Leaves that are written as zeros, wholly or as far as they weren't, have no blocks any more; with a byte of another kind they have one.
func TestZeros(t *testing.T) {
	for copies := 1; copies <= 2; copies++ {
		x := plain{noise(1, 1000), copies}
		v, s, _, _ := planted(t, 60, x)
		full := space.Used(v.Space)
		for _, k := range []struct{ off, n, gone int }{{128, 128, 1}, {100, 200, 1}, {0, 128, 1}, {896, 104, 1}, {895, 105, 1}, {897, 103, 0}, {1, 127, 0}, {128, 256, 2}, {500, 20, 0}} {
			end, next, y := check(t, v, s, x, writing(k.off, make([]byte, k.n)))
			if used := space.Used(end.Space); used != full-k.gone*copies {
				t.Errorf("%d zeros at %d: %d are in use, of %d", k.n, k.off, used, full)
			}
			end, next, y = check(t, end, next, y, writing(k.off, x.b[k.off:][:k.n]))
			if used := space.Used(end.Space); used != full {
				t.Errorf("%d zeros at %d: %d are in use, of %d, when they aren't there any more", k.n, k.off, used, full)
			}
			holds(t, end, next, y)
		}
		end, next, y := check(t, v, s, x, writing(0, make([]byte, 1000)))
		if next.Root != hole || space.Used(end.Space) != 0 {
			t.Errorf("zeros alone leave %s", toldStem(next))
		}
		// Piece by piece too: the last one takes the block away.
		end, next, y = check(t, end, next, y, writing(300, noise(4, 10)))
		for at := 300; at < 310; at++ {
			if used := space.Used(end.Space); used != copies+4 {
				t.Errorf("up to %d: %d are in use", at, used)
			}
			end, next, y = check(t, end, next, y, writing(at, []byte{0}))
		}
		if next.Root != hole || space.Used(end.Space) != 0 {
			t.Errorf("zeros alone leave %s", toldStem(next))
		}
	}
}

// Holes: of stems of all lengths, with none, with some, with holes alone.
func TestHoles(t *testing.T) {
	for _, size := range edges() {
		for k, zeros := range []func(i int) bool{
			func(int) bool { return false }, func(int) bool { return true }, func(i int) bool { return i%2 == 0 }, func(i int) bool { return i%9 > 0 },
			func(i int) bool { return i < 30 }, func(i int) bool { return i > 3 }, func(i int) bool { return i == (size-1)/128 },
		} {
			x := plain{holed(size, zeros), 1 + k%2}
			var want []int
			for i := range (size + 127) / 128 {
				if zeros(i) {
					want = append(want, i)
				}
			}
			v, s, _, _ := planted(t, 100, x)
			if _, _, got := done(t, v, s, holing()); !got.is(answer{holes: want}) {
				t.Errorf("%d bytes, %d: %s, not %v", size, k, said(got), want)
			}
		}
	}
	// One byte is enough not to be one, wherever it stands.
	for _, at := range []int{0, 1, 127, 128, 200, 255, 256, 299} {
		v, s, x := check(t, fresh(t, 4), empty(1), plain{nil, 1}, cutting(300))
		v, s, x = check(t, v, s, x, writing(at, []byte{0x80}))
		if l, e := flow.Holes(&v, s); e != api.OK || len(l) != 2 || slices.Contains(l, at/128) {
			t.Error(at, l, e)
		}
		check(t, v, s, x, writing(at, []byte{0}))
	}
}

// Stems of zeros alone, of any length, ask for no block, no room and no power.
func TestZerosAlone(t *testing.T) {
	for _, size := range edges() {
		x := plain{make([]byte, size), 1}
		v, s := crowded(fresh(t, 4), [2]int{}), api.Stem{Root: hole, Size: size, Copies: 1}
		for _, down := range []bool{false, true} {
			v.Disk.Down = down
			for _, c := range []call{reading(0, size), reading(size/2, 3), holing(), cutting(0), cutting(size), cutting(8192), cutting(size / 2), cutting(size/2 + 1), filling(nil), filling(make([]byte, size)), filling(make([]byte, 700)), writing(0, make([]byte, 9)), writing(size, make([]byte, 8192-size))} {
				want, must := c.must(x)
				end, next, got := done(t, v, s, c)
				if !got.is(must) || !same(end, v) || next != (api.Stem{Root: hole, Size: len(want.b), Copies: 1}) {
					t.Errorf("%d bytes: %s: %s, %s", size, c.name, said(got), toldStem(next))
				}
			}
		}
	}
}

// What is written over wholly is read as it was written last, piece upon piece.
func TestPieceUponPiece(t *testing.T) {
	for copies := 1; copies <= 2; copies++ {
		v, s, x := fresh(t, 40), empty(copies), plain{nil, copies}
		for i, k := range [][2]int{{1000, 1}, {0, 128}, {100, 300}, {128, 128}, {127, 2}, {999, 200}, {383, 1}, {0, 1199}, {1199, 1}, {1000, 24}, {300, 700}, {256, 640}} {
			v, s, x = check(t, v, s, x, writing(k[0], noise(i, k[1])))
			if i%3 == 0 {
				space.Sweep(&v.Space)
			}
			if i == 5 {
				space.Settle(&v.Space)
			}
		}
	}
}

// Just leaves that have some of the bytes are read: those alone are well again.
func TestJustTheseAreRead(t *testing.T) {
	x := plain{noise(1, 1500), 2}
	good, s, _, leaves := planted(t, 60, x)
	for _, p := range leaves {
		hit(t, &good, 1, p.A)
	}
	flush(t, &good)
	for _, c := range []call{reading(0, 0), reading(0, 1), reading(127, 1), reading(128, 1), reading(127, 2), reading(128, 128), reading(100, 400), reading(1400, 5), reading(1499, 9), reading(1500, 9), reading(9000, 9), reading(384, 8192), reading(0, 1500), reading(10, 0), holing()} {
		end, _, got := done(t, good, s, c)
		if _, must := c.must(x); !got.is(must) {
			t.Fatalf("%s: %s", c.name, said(got))
		}
		for i, p := range leaves {
			b, e := remap.Read(&end.Disk, end.Map, p.A)
			if well := e == api.OK && b == x.leaves()[i]; well != c.reads(x, i) {
				t.Errorf("%s: leaf %d: is well again: %v", c.name, i, well)
			}
		}
	}
}

// mixed: calls of all kinds on a stem of some 1300 bytes.
func mixed() []call {
	return []call{
		writing(0, noise(2, 1)), writing(100, noise(2, 400)), writing(128, noise(2, 256)), writing(1250, noise(2, 300)), writing(4000, noise(2, 10)), writing(0, make([]byte, 1400)), writing(130, make([]byte, 200)),
		cutting(0), cutting(100), cutting(128), cutting(700), cutting(1290), cutting(1301), cutting(3457), cutting(8192),
		filling(nil), filling(noise(2, 100)), filling(noise(2, 1300)), filling(noise(2, 3500)), filling(make([]byte, 2000)),
		reading(0, 1300), reading(100, 200), holing(),
	}
}

// Regions with little room: no space just where there may be; and then all is as it was. Where nothing is free, nothing is laid.
func TestNoSpace(t *testing.T) {
	t.Parallel()
	for copies := 1; copies <= 2; copies++ {
		x := plain{holed(1300, func(i int) bool { return i%4 == 3 }), copies}
		v, s, _, _ := planted(t, 20, x)
		for _, c := range mixed() {
			done, refused := 0, 0
			for n := 0; n < 160; n += 1 + n/3 {
				for _, room := range [][2]int{{n, n}, {n, n / 9}, {n / 9, n}} {
					if _, _, y := check(t, crowded(v, room), s, x, c); bytes.Equal(x.b, y.b) {
						refused++
					} else {
						done++
					}
				}
			}
			want, _ := c.must(x)
			if leaves, nodes := want.anew(x); done == 0 && !bytes.Equal(want.b, x.b) || refused == 0 && leaves+nodes > 0 {
				t.Errorf("%s: %d times done, %d times refused", c.name, done, refused)
			}
		}
	}
}

// No free sector at the first block of a call, and at each later one: a write that lays leaf by leaf.
func TestNoSpaceAtEachBlock(t *testing.T) {
	for copies := 1; copies <= 2; copies++ {
		for _, size := range []int{0, 200} {
			x := plain{noise(1, size), copies}
			v, s, _, _ := planted(t, 60, x)
			codes := ""
			for n := range 40 {
				end, next, got := done(t, crowded(v, [2]int{n, n}), s, writing(150, noise(2, 700)))
				switch got.code {
				case api.OK:
					codes += "+"
					holds(t, end, next, x.written(150, noise(2, 700)))
				case api.ErrNoSpace:
					codes += "-"
					holds(t, end, next, x)
				default:
					t.Fatal(n, said(got))
				}
			}
			// Leaves 1 to 6 and four nodes at the least; with more room it's never refused again.
			short := len(codes) - len(bytes.TrimLeft([]byte(codes), "-"))
			if short < 8 || short > 30 || bytes.ContainsRune([]byte(codes[short:]), '-') {
				t.Errorf("%d bytes, %d times: %s", size, copies, codes)
			}
		}
	}
}

// A call that lays leaf by leaf takes no more than each leaf with its way asks for, in a tree that is no deeper than it must be by then.
func TestLittleRoom(t *testing.T) {
	for _, k := range []struct {
		size, most int // most: of blocks that are taken in a region
		c          call
	}{
		{0, 1, filling(noise(2, 100))},
		{0, 3 + 2 + 1, filling(noise(2, 384))},
		{0, 9 + 2*1 + 6*2 + 2, filling(noise(2, 1152))},
		{0, 64 + 2*1 + 6*2 + 18*3 + 37*4 + 4, writing(0, noise(2, 8192))},
		{128, 8 + 2*1 + 6*2 + 2, writing(128, noise(2, 1024))},
		{384, 3 + 2*1 + 2 + 1, writing(128, noise(2, 384))},
		{1300, 1, cutting(100)},
		{1300, 1 + 1, cutting(300)},
		{1300, 2 * 4, writing(0, noise(2, 256))},
		{1300, 0, cutting(128)},
		{1300, 0, writing(128, noise(1, 1300)[128:1300])},
	} {
		x := plain{noise(1, k.size), 2}
		v, s, _, _ := planted(t, 130, x)
		end, _, _ := check(t, v, s, x, k.c)
		if was, is := space.Room(v.Space), space.Room(end.Space); was[0]-is[0] > k.most || was[1]-is[1] > k.most {
			t.Errorf("%s of %d bytes: %v of %v are left", k.c.name, k.size, is, was)
		}
	}
}

// What goes isn't free for what comes: that waits for a sweep.
func TestRoomOfWhatGoes(t *testing.T) {
	x := plain{noise(1, 128), 1}
	v, s, _, _ := planted(t, 4, x)
	v = crowded(v, [2]int{1, 0})
	v, s, x = check(t, v, s, x, filling(noise(2, 128)))
	refused(t, v, s, filling(noise(3, 128)), api.ErrNoSpace)
	space.Sweep(&v.Space)
	v, s, x = check(t, v, s, x, filling(noise(3, 100)))
	if !bytes.Equal(x.b, noise(3, 100)) {
		t.Error(told(x.b))
	}
}

// The power goes at each act: ErrDown, and behind it all is there that was, whatever is kept of what wasn't flushed.
func TestFalls(t *testing.T) {
	t.Parallel()
	for copies := 1; copies <= 2; copies++ {
		x := plain{noise(1, 1300), copies}
		v, s, _, _ := planted(t, 20, x)
		for _, c := range mixed() {
			want, must := c.must(x)
			code := api.ErrDown
			for fuse := 0; code == api.ErrDown; fuse += 1 + fuse/8 {
				v := copied(v)
				v.Disk.Fuse = fuse
				end, next, got := done(t, v, s, c)
				if code = got.code; code == api.ErrDown {
					if !end.Disk.Down || fuse > 1000 {
						t.Fatalf("%s, fuse %d: %s", c.name, fuse, said(got))
					}
					for _, keep := range [][]bool{nil, {true, true}, {false, true, false, true}, slices.Repeat([]bool{true}, fuse)} {
						crashed := copied(end)
						disk.Crash(&crashed.Disk, keep...)
						holds(t, crashed, next, x)
					}
					continue
				}
				if !got.is(must) {
					t.Fatalf("%s, fuse %d: %s", c.name, fuse, said(got))
				}
				for _, keep := range [][]bool{nil, slices.Repeat([]bool{true}, len(end.Disk.Cache))} {
					crashed := copied(end)
					disk.Crash(&crashed.Disk, keep...)
					if len(keep) > 0 || len(end.Disk.Cache) == 0 {
						holds(t, crashed, next, want)
					}
					crashed.Space = v.Space
					holds(t, crashed, s, x)
				}
			}
		}
	}
}

// Without power nothing is read, and nothing is laid.
func TestDown(t *testing.T) {
	x := plain{noise(1, 1300), 2}
	v, s, _, _ := planted(t, 60, x)
	v.Disk.Down = true
	for _, c := range []call{reading(0, 1), reading(1299, 1), reading(5, 800), holing(), writing(0, noise(2, 5)), writing(0, noise(2, 128)), writing(1300, noise(2, 1)), writing(5000, noise(2, 200)), writing(0, make([]byte, 1300)), cutting(0), cutting(1), cutting(1280), cutting(1299), filling(nil), filling(noise(2, 1300)), filling(x.b)} {
		refused(t, v, s, c, api.ErrDown)
	}
	for _, c := range []call{reading(0, 0), reading(1300, 5), reading(9000, 5), reading(77, 0)} {
		if _, _, got := done(t, v, s, c); !got.is(answer{}) {
			t.Errorf("%s: %s", c.name, said(got))
		}
	}
}

// A copy of the volume and of the stem, handed in elsewhere, stays, and is read as it was.
func TestCopiesStay(t *testing.T) {
	x := plain{noise(1, 1300), 2}
	v, s, _, _ := planted(t, 200, x)
	v = roomy(v)
	snap, was, first, y := v, whole(v), s, x
	for _, c := range mixed() {
		v, s, y = check(t, v, s, y, c)
		if !same(whole(snap), was) {
			t.Fatalf("%s: a copy is changed", c.name)
		}
	}
	holds(t, snap, first, x)
}

// Bytes that are the volume's own are written as they were when the call began.
func TestOwnBytes(t *testing.T) {
	good, old, _, _ := planted(t, 40, plain{noise(1, 700), 1})
	for _, own := range []func(v api.Vol) []byte{
		func(v api.Vol) []byte { return v.Space.State },
		func(v api.Vol) []byte { return v.Disk.Sectors[30].Data[:] },
	} {
		for off := range 2 {
			v, s := copied(good), old
			b := own(v)
			was := slices.Clone(b)
			e := flow.Write(&v, &s, 77*off, b)
			if off == 0 {
				v, s = copied(good), old
				b = own(v)
				e = flow.Fill(&v, &s, b)
			}
			got, f := flow.Read(&v, s, 77*off, len(was))
			if e != api.OK || f != api.OK || !bytes.Equal(b, was) || !bytes.Equal(got, was) {
				t.Error(e, f, told(got), told(was))
			}
		}
	}
}

// Several stems on one volume: what is done to one isn't seen in another.
func TestSideBySide(t *testing.T) {
	v := fresh(t, 200)
	stems, data := []api.Stem{empty(1), empty(2), empty(1)}, []plain{{nil, 1}, {nil, 2}, {nil, 1}}
	for i, c := range mixed() {
		k := i % 3
		v, stems[k], data[k] = check(t, v, stems[k], data[k], c)
		v, stems[0], data[0] = check(t, v, stems[0], data[0], writing(40*i, noise(i, 300)))
		used := 0
		for k, s := range stems {
			holds(t, v, s, data[k])
			used += data[k].sectors()
		}
		if space.Used(v.Space) != used {
			t.Fatalf("%s: %d are in use, not %d", c.name, space.Used(v.Space), used)
		}
		space.Sweep(&v.Space)
	}
}

// A stem that is kept more often, by layer 10, has the same bytes.
func TestRecopied(t *testing.T) {
	x := plain{holed(1300, func(i int) bool { return i == 4 }), 1}
	v, s, _, _ := planted(t, 60, x)
	for _, copies := range []int{2, 1, 2} {
		if e := stem.Recopy(&v, &s, copies); e != api.OK {
			t.Fatal(e)
		}
		x.copies = copies
		holds(t, v, s, x)
		v, s, x = check(t, v, s, x, writing(copies*300, noise(copies, 200)))
	}
}

// Blocks beside stems stay: what else is on the volume is no matter.
func TestBeside(t *testing.T) {
	v := fresh(t, 60)
	p, q := add(t, &v, api.Block{1}, 1), add(t, &v, api.Block{2}, 2)
	s, x := empty(1), plain{nil, 1}
	for _, c := range mixed() {
		v, s, x = check(t, v, s, x, c)
		space.Sweep(&v.Space)
	}
	a, e := vol.Get(&v, p)
	b, f := vol.Get(&v, q)
	if a != (api.Block{1}) || b != (api.Block{2}) || e != api.OK || f != api.OK {
		t.Error(e, f)
	}
}

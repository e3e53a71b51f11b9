package inode_test

import (
	"bytes"
	"math"
	"math/rand"
	"testing"

	"lazaret/api"
	"lazaret/inode"
)

// Nodes and bytes that aren't as they must be.

// A node of which one part alone is wrong is refused by all calls that take it, and its bytes are taken by none.
func TestWrongOnes(t *testing.T) {
	t.Parallel()
	why := map[string]int{}
	for _, x := range wrongs() {
		if right(x.n) || inode.Right(x.n) {
			t.Errorf("%s: %+v is right", x.why, x.n)
		}
		if b, e := inode.Put(x.n); b != [64]byte{} || e != api.ErrArg {
			t.Errorf("%s: put %+v: %x %v", x.why, x.n, b, e)
		}
		for _, blocks := range []int{math.MinInt, -1, 0, 1, math.MaxInt} {
			if s, e := inode.Stat(x.n, blocks); s != (api.Stat{}) || e != api.ErrArg {
				t.Errorf("%s: stat %+v with %d: %+v %v", x.why, x.n, blocks, s, e)
			}
		}
		why[x.why]++
		if x.why == "number" || !fits(x.n) {
			continue
		}
		if n, e := inode.Take(bytesOf(x.n), x.n.Number); n != (api.Inode{}) || e != api.ErrForm {
			t.Errorf("%s: take %x: %+v %v", x.why, bytesOf(x.n), n, e)
		}
		why[x.why+"'s bytes"]++
	}
	for _, k := range []string{"number", "kind", "links", "copies", "size", "root", "once", "kind's bytes", "links's bytes", "copies's bytes", "size's bytes", "root's bytes", "once's bytes"} {
		if why[k] == 0 {
			t.Errorf("%s: none was asked for", k)
		}
	}
}

// 64 bytes 0 are no node's, whatever number may be; a number that may not be is told first.
func TestNoNode(t *testing.T) {
	for as := -300; as <= 300; as++ {
		want := api.ErrArg
		if as >= 1 && as <= 64 {
			want = api.ErrNoEnt
		}
		if n, e := inode.Take([64]byte{}, as); n != (api.Inode{}) || e != want {
			t.Errorf("take of zeros as %d: %+v %v, not %v", as, n, e, want)
		}
	}
	for _, as := range append(extremes(), numbers()...) {
		checkTake(t, [64]byte{}, as)
	}
}

// 64 bytes of which one alone isn't 0 are no node's, but aren't nothing either.
func TestOneByte(t *testing.T) {
	for at := range 64 {
		for x := 1; x < 256; x++ {
			var b [64]byte
			b[at] = byte(x)
			for _, as := range []int{1, 64} {
				if n, e := inode.Take(b, as); n != (api.Inode{}) || e != api.ErrForm {
					t.Errorf("take of zeros, but %d at %d, as %d: %+v %v", x, at, as, n, e)
				}
			}
			for _, as := range []int{-1, 0, 65} {
				if n, e := inode.Take(b, as); n != (api.Inode{}) || e != api.ErrArg {
					t.Errorf("take of zeros, but %d at %d, as %d: %+v %v", x, at, as, n, e)
				}
			}
		}
	}
}

// Of right bytes each is another one: what is taken is what stands there, and where 0 must be nothing else is taken.
func TestEachByte(t *testing.T) {
	t.Parallel()
	for _, was := range some() {
		good, _ := inode.Put(was)
		for at := range 64 {
			for by := 1; by < 256; by++ {
				b := good
				b[at] ^= byte(by)
				checkTake(t, b, was.Number)
				n, e := inode.Take(b, was.Number)
				if e == api.OK && n == was {
					t.Errorf("%+v: byte %d by %d: the same", was, at, by)
				}
				if (at == 3 || at >= 48) && (n != (api.Inode{}) || e != api.ErrForm) {
					t.Errorf("%+v: byte %d by %d: %+v %v", was, at, by, n, e)
				}
				if n, e := inode.Take(b, 65); n != (api.Inode{}) || e != api.ErrArg {
					t.Errorf("%+v: byte %d by %d, as 65: %+v %v", was, at, by, n, e)
				}
			}
		}
	}
}

// Where 0 must be, two bytes that aren't, alike ones too, don't make up for one another.
func TestTwoBytes(t *testing.T) {
	t.Parallel()
	must := []int{3}
	for at := 48; at < 64; at++ {
		must = append(must, at)
	}
	for _, was := range some() {
		good, _ := inode.Put(was)
		for _, one := range must {
			for _, two := range must {
				for _, x := range []byte{1, 0x80, 255} {
					b := good
					b[one], b[two] = x, -x
					if n, e := inode.Take(b, was.Number); n != (api.Inode{}) || e != api.ErrForm {
						t.Errorf("%+v: bytes %d and %d: %+v %v", was, one, two, n, e)
					}
				}
			}
		}
	}
}

// A number that may not be is told ahead of bytes that aren't right; both arguments wrong are one error.
func TestTwoWrong(t *testing.T) {
	bad := [][64]byte{{}, {1}, {3: 1}, {63: 1}, [64]byte(pattern(64)), [64]byte(bytes.Repeat([]byte{255}, 64))}
	for _, b := range bad {
		for _, as := range append(extremes(), -1, 0, 65, 66) {
			if n, e := inode.Take(b, as); n != (api.Inode{}) || e != api.ErrArg {
				t.Errorf("take %x as %d: %+v %v", b, as, n, e)
			}
		}
	}
	for _, number := range []int{math.MinInt, -1, 0, 65, math.MaxInt} {
		for _, kind := range []int{math.MinInt, -1, 0, 4, math.MaxInt} {
			if n, e := inode.New(number, kind); n != (api.Inode{}) || e != api.ErrArg {
				t.Errorf("new %d of kind %d: %+v %v", number, kind, n, e)
			}
		}
	}
	for _, n := range []api.Inode{{}, {Number: 1}, {Number: 1, Kind: 1}, {Kind: 1, Stem: api.Stem{Root: hole(), Copies: 1}}} {
		if s, e := inode.Stat(n, -1); s != (api.Stat{}) || e != api.ErrArg {
			t.Errorf("stat %+v with -1: %+v %v", n, s, e)
		}
		checkNode(t, n)
	}
}

// Any numbers in all places at once, and any bytes.
func TestAnything(t *testing.T) {
	t.Parallel()
	r := rand.New(rand.NewSource(13))
	all := append(extremes(), -1, 0, 1, 2, 3, 4, 64, 65, 99, 100, 4095, 4096, 8192, 8193)
	pick := func(likely ...int) int {
		if r.Intn(8) > 0 {
			return likely[r.Intn(len(likely))]
		}
		return all[r.Intn(len(all))]
	}
	taken := 0
	for range 60000 {
		root := api.Ptr{A: pick(-1, 0, 30, 4095), B: pick(-1, -1, 40, 4094), Sum: sums()[r.Intn(5)]}
		n := api.Inode{Number: pick(1, 2, 64), Kind: pick(1, 2, 3), Links: pick(0, 1, 99), Stem: api.Stem{Root: root, Size: pick(0, 1, 500, 8192), Copies: pick(1, 2, 2)}}
		checkNode(t, n)
		checkNew(t, n.Number, n.Kind)
		b := bytesOf(n)
		if r.Intn(4) == 0 {
			b[r.Intn(64)] = byte(r.Intn(256))
		}
		checkTake(t, b, n.Number)
		if _, e := inode.Take(b, n.Number); e == api.OK {
			taken++
		}
	}
	if taken < 5000 || taken > 50000 {
		t.Error(taken)
	}
	for range 20000 {
		var b [64]byte
		r.Read(b[:])
		checkTake(t, b, 1+r.Intn(64))
		b[0], b[2], b[3] = byte(1+r.Intn(3)), 2, 0
		clear(b[5:8])
		clear(b[9:16])
		clear(b[48:])
		checkTake(t, b, 1+r.Intn(64))
	}
}

// An answer hangs on the arguments alone, whatever was asked ahead of it, and however often.
func TestNothingIsKept(t *testing.T) {
	n := some()[3]
	first, _ := inode.Put(n)
	ask := func() {
		for _, x := range wrongs() {
			inode.Put(x.n)
			inode.Take(bytesOf(x.n), x.n.Number)
			inode.Stat(x.n, 1)
			inode.New(x.n.Number, x.n.Kind)
			b, e := inode.Put(n)
			got, f := inode.Take(first, n.Number)
			s, g := inode.Stat(n, 9)
			if b != first || e != api.OK || got != n || f != api.OK || g != api.OK || s.Blocks != 9 || s.Number != n.Number {
				t.Fatalf("behind %+v: another answer", x.n)
			}
		}
	}
	ask()
	for _, x := range rights() {
		inode.Put(x)
		inode.Take(bytesOf(x), x.Number)
	}
	ask()
}

// What was handed out, or handed in elsewhere, stays, whatever becomes of it on the other side.
func TestNothingIsShared(t *testing.T) {
	n := some()[2]
	one, _ := inode.Put(n)
	two, _ := inode.Put(n)
	want := bytesOf(n)
	got, _ := inode.Take(one, n.Number)
	clear(one[:])
	if two != want || got != n {
		t.Errorf("%x, not %x; %+v, not %+v", two, want, got, n)
	}
	clear(got.Stem.Root.Sum[:])
	if n != some()[2] || two != want {
		t.Errorf("%+v, %x", n, two)
	}
	if again, e := inode.Take(two, n.Number); again != n || e != api.OK {
		t.Errorf("%+v %v", again, e)
	}
	fresh, _ := inode.New(5, api.KindDir)
	fresh.Stem.Root.Sum[0] = 9
	checkNew(t, 5, api.KindDir)
}

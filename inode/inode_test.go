package inode_test

import (
	"encoding/hex"
	"math"
	"strings"
	"testing"

	"lazaret/api"
	"lazaret/inode"
	"lazaret/ptr"
	"lazaret/stem"
)

// The chapter's example: a new file's bytes, whatever its number.
func TestExample(t *testing.T) {
	want := "01000100" + "00000000" + "ffffffffffffffff" + strings.Repeat("00", 48)
	for number := 1; number <= 64; number++ {
		n, e := inode.New(number, api.KindFile)
		b, f := inode.Put(n)
		if e != api.OK || f != api.OK || hex.EncodeToString(b[:]) != want {
			t.Errorf("%d: %x %v %v, not %s", number, b, e, f, want)
		}
		if back, e := inode.Take(b, number); back != n || back.Number != number || e != api.OK {
			t.Errorf("%d: taken as %+v %v", number, back, e)
		}
	}
}

// Bytes that are written out, of each kind.
func TestBytes(t *testing.T) {
	sum := strings.Repeat("00", 31) + "05"
	none, zeros := "ffffffff", strings.Repeat("00", 16)
	for _, x := range []struct {
		n    api.Inode
		want string
	}{
		{api.Inode{Number: 1, Kind: 2, Stem: api.Stem{Root: hole(), Copies: 2}}, "02000200" + "00000000" + none + none + zeros + zeros + zeros},
		{api.Inode{Number: 1, Kind: 3, Stem: api.Stem{Root: hole(), Copies: 2}}, "03000200" + "00000000" + none + none + zeros + zeros + zeros},
		{api.Inode{Number: 64, Kind: 1, Links: 99, Stem: api.Stem{Root: hole(), Size: 8192, Copies: 2}}, "01630200" + "00200000" + none + none + zeros + zeros + zeros},
		{api.Inode{Number: 5, Kind: 1, Links: 1, Stem: api.Stem{Root: api.Ptr{A: 258, B: -1, Sum: api.Sum{31: 5}}, Size: 258, Copies: 1}}, "01010100" + "02010000" + "02010000" + none + sum + zeros},
		{api.Inode{Number: 5, Kind: 3, Links: 16, Stem: api.Stem{Root: api.Ptr{A: 4095, B: 30, Sum: api.Sum{31: 5}}, Size: 240, Copies: 2}}, "03100200" + "f0000000" + "ff0f0000" + "1e000000" + sum + zeros},
		{api.Inode{Number: 5, Kind: 2, Links: 1, Stem: api.Stem{Root: api.Ptr{A: 0, B: 4095}, Size: 1, Copies: 2}}, "02010200" + "01000000" + "00000000" + "ff0f0000" + zeros + zeros + zeros},
	} {
		b, e := inode.Put(x.n)
		if hex.EncodeToString(b[:]) != x.want || e != api.OK {
			t.Errorf("put %+v: %x %v, not %s", x.n, b, e, x.want)
		}
		raw, _ := hex.DecodeString(x.want)
		if n, e := inode.Take([64]byte(raw), x.n.Number); n != x.n || e != api.OK {
			t.Errorf("take %s: %+v %v, not %+v", x.want, n, e, x.n)
		}
	}
}

// All edges of all parts together, and some roots, right ones and others, with each of them.
func TestEdges(t *testing.T) {
	t.Parallel()
	roots := []api.Ptr{hole(), {A: 30, B: -1}, {A: 0, B: 4095, Sum: api.Sum{31: 1}}, {}, {A: -1, B: -1, Sum: api.Sum{31: 1}}, {A: -1, B: 30}, {A: 4096, B: -1}, {A: 30, B: 4096}}
	many := map[bool]int{}
	for _, number := range numbers() {
		for _, kind := range kinds() {
			for _, links := range linkCounts() {
				for _, copies := range copyCounts() {
					for _, size := range sizes() {
						for _, root := range roots {
							n := api.Inode{Number: number, Kind: kind, Links: links, Stem: api.Stem{Root: root, Size: size, Copies: copies}}
							checkNode(t, n)
							many[right(n)]++
							if fits(n) {
								checkTake(t, bytesOf(n), number)
							}
						}
					}
				}
			}
		}
	}
	// Two numbers, files of one or two copies and two other kinds of two, three counts of links, six sizes, three roots.
	if many[true] != 2*4*3*6*3 {
		t.Error(many)
	}
}

// What is right is so, is put and taken; the bytes of each are just its own.
func TestRightOnes(t *testing.T) {
	t.Parallel()
	seen := map[[64]byte]api.Inode{}
	for _, n := range append(rights(), some()...) {
		if !right(n) || !inode.Right(n) {
			t.Errorf("%+v isn't right", n)
		}
		checkNode(t, n)
		b, _ := inode.Put(n)
		n.Number = 1
		if other, ok := seen[b]; ok && other != n {
			t.Errorf("%x are the bytes of %+v and of %+v", b, n, other)
		}
		seen[b] = n
	}
}

// P13.2: what is put is taken as it was, with the number that it is asked for.
func TestThereAndBack(t *testing.T) {
	t.Parallel()
	for _, n := range append(rights(), some()...) {
		b, e := inode.Put(n)
		if e != api.OK {
			t.Fatalf("put %+v: %v", n, e)
		}
		if got, e := inode.Take(b, n.Number); got != n || e != api.OK {
			t.Errorf("%+v is taken as %+v %v", n, got, e)
		}
		for _, as := range []int{1, 2, 32, 63, 64} {
			want := n
			want.Number = as
			if got, e := inode.Take(b, as); got != want || e != api.OK {
				t.Errorf("%+v is taken as %+v %v, not %+v", n, got, e, want)
			}
		}
		for _, as := range append(extremes(), -1, 0, 65, 66) {
			if got, e := inode.Take(b, as); got != (api.Inode{}) || e != api.ErrArg {
				t.Errorf("%+v is taken with the number %d: %+v %v", n, as, got, e)
			}
		}
	}
	for _, n := range some() {
		b, _ := inode.Put(n)
		for as := -300; as <= 300; as++ {
			checkTake(t, b, as)
		}
	}
}

// Each number of each part, far beyond what it may be.
func TestEachNumber(t *testing.T) {
	t.Parallel()
	for _, was := range some() {
		for x := -600; x <= 9000; x++ {
			n := was
			n.Stem.Size = x
			checkNode(t, n)
			if x > 600 {
				continue
			}
			for _, to := range []func(n *api.Inode) *int{
				func(n *api.Inode) *int { return &n.Number },
				func(n *api.Inode) *int { return &n.Kind },
				func(n *api.Inode) *int { return &n.Links },
				func(n *api.Inode) *int { return &n.Stem.Copies },
				func(n *api.Inode) *int { return &n.Stem.Root.A },
				func(n *api.Inode) *int { return &n.Stem.Root.B },
			} {
				n := was
				*to(&n) = x
				checkNode(t, n)
			}
		}
	}
}

// A stem that isn't a file's is kept twice; else what layer 10 takes as a stem is a node's, and nothing else is.
func TestStemsOfLayer10(t *testing.T) {
	t.Parallel()
	for _, root := range append(rightRoots(), wrongRoots()...) {
		for _, size := range append(extremes(), sizes()...) {
			for _, copies := range []int{math.MinInt, -1, 0, 1, 2, 3, math.MaxInt} {
				s := api.Stem{Root: root, Size: size, Copies: copies}
				if got := inode.Right(api.Inode{Number: 9, Kind: api.KindFile, Stem: s}); got != stem.Right(s) {
					t.Errorf("a file with %+v: %v", s, got)
				}
				for _, kind := range []int{api.KindDir, api.KindLink} {
					if got := inode.Right(api.Inode{Number: 9, Kind: kind, Stem: s}); got != (stem.Right(s) && copies == 2) {
						t.Errorf("of kind %d with %+v: %v", kind, s, got)
					}
				}
			}
		}
	}
}

// Where a pointer stands alone, the node has the bytes that layer 5 lays for it.
func TestRootsOfLayer5(t *testing.T) {
	for _, root := range rightRoots() {
		n := api.Inode{Number: 3, Kind: api.KindFile, Stem: api.Stem{Root: root, Copies: 1}}
		want := [64]byte{1, 0, 1}
		if e := ptr.Put(want[:], 8, root); e != api.OK {
			t.Fatal(e)
		}
		if b, e := inode.Put(n); b != want || e != api.OK {
			t.Errorf("put with %+v: %x %v, not %x", root, b, e, want)
		}
	}
}

func TestNew(t *testing.T) {
	for _, number := range append(extremes(), numbers()...) {
		for _, kind := range append(extremes(), kinds()...) {
			checkNew(t, number, kind)
		}
	}
	for number := -300; number <= 300; number++ {
		for kind := -1; kind <= 5; kind++ {
			checkNew(t, number, kind)
		}
	}
	for kind, copies := range map[int]int{api.KindFile: 1, api.KindDir: 2, api.KindLink: 2} {
		n, e := inode.New(64, kind)
		if n != (api.Inode{Number: 64, Kind: kind, Stem: api.Stem{Root: ptr.Hole(), Copies: copies}}) || e != api.OK || !inode.Right(n) {
			t.Errorf("kind %d: %+v %v", kind, n, e)
		}
	}
}

func TestStat(t *testing.T) {
	n := api.Inode{Number: 7, Kind: 1, Links: 99, Stem: api.Stem{Root: api.Ptr{A: 30, B: 40}, Size: 8192, Copies: 2}}
	if s, e := inode.Stat(n, 5); e != api.OK || s != (api.Stat{Number: 7, Kind: 1, Copies: 2, Links: 99, Size: 8192, Blocks: 5}) {
		t.Error(s, e)
	}
	for _, n := range append(rights()[:200], some()...) {
		for _, blocks := range append(extremes(), -1, 0, 1, 2, 132, 900, 4096, math.MaxInt) {
			checkStat(t, n, blocks)
		}
	}
	if s, e := inode.Stat(n, math.MaxInt); e != api.OK || s.Blocks != math.MaxInt {
		t.Error(s, e)
	}
	for _, blocks := range []int{-1, -2, math.MinInt} {
		if s, e := inode.Stat(n, blocks); e != api.ErrArg || s != (api.Stat{}) {
			t.Error(blocks, s, e)
		}
	}
}

package ptr_test

import (
	"bytes"
	"math"
	"slices"
	"strings"
	"testing"

	"lazaret/api"
	"lazaret/ptr"
	"lazaret/sha"
)

// What the calls must answer, and make of bytes, told by the chapter's words; and what holds them against it.

// guard: bytes ahead of a list and behind it (its spare room), which no call may change.
const guard = 48

// guarded: a list of b's bytes, with what stands around it too.
func guarded(b []byte) (list, whole []byte) {
	whole = bytes.Repeat([]byte{0xa5}, guard+len(b)+guard)
	list = whole[guard : guard+len(b)]
	copy(list, b)
	return list, whole
}

// around: what must stand around a list of the bytes b.
func around(b []byte) []byte {
	_, whole := guarded(b)
	return whole
}

// pattern: n bytes, none of them 0, and none like its neighbours.
func pattern(n int) []byte {
	b := make([]byte, n)
	for i := range b {
		b[i] = byte(1 + (7*i+3)%250)
	}
	return b
}

// extremes: numbers with which a sum, or a difference, could run over, or that look like another one in four bytes.
func extremes() []int {
	return []int{
		math.MinInt, math.MinInt + 1, math.MinInt + 40, math.MinInt + 4095, math.MinInt / 2, math.MinInt32, math.MinInt32 + 7, -1 << 32, -1<<32 + 7, -1<<32 - 1,
		math.MaxInt, math.MaxInt - 1, math.MaxInt - 39, math.MaxInt - 40, math.MaxInt - 41, 1 << 62, 1<<62 + 7, math.MaxInt32, math.MaxInt32 + 1,
		math.MaxUint32 - 1, math.MaxUint32, math.MaxUint32 + 1, math.MaxUint32 + 8, 1 << 16, 1<<16 + 7, 1 << 20, 1 << 24,
	}
}

// sides: numbers that A and B may be, or may not be.
func sides() []int {
	return append([]int{-1, 0, 1, 2, 7, 255, 256, 257, 4094, 4095, -2, -3, -7, -256, -4095, -4096, 4096, 4097, 8192}, extremes()...)
}

// sums: zeros, the sums of some blocks, and those that are zeros but for one byte.
func sums() []api.Sum {
	return []api.Sum{{}, sumOf(api.Block{}), sumOf(api.Block{1}), {0: 1}, {31: 1}, {15: 0x80}, api.Sum(bytes.Repeat([]byte{255}, 32))}
}

// all: pointers, right ones and others, of all sides and sums.
func all() []api.Ptr {
	var l []api.Ptr
	for _, a := range sides() {
		for _, b := range sides() {
			for _, s := range sums() {
				l = append(l, api.Ptr{A: a, B: b, Sum: s})
			}
		}
	}
	return l
}

// rights: some right pointers, at the edges of what they may be; none like another one.
func rights() []api.Ptr {
	l := []api.Ptr{{A: -1, B: -1}}
	for _, x := range [][2]int{{0, -1}, {7, -1}, {4095, -1}, {0, 1}, {1, 0}, {0, 4095}, {4095, 0}, {4095, 4094}, {255, 256}} {
		for _, s := range sums() {
			l = append(l, api.Ptr{A: x[0], B: x[1], Sum: s})
		}
	}
	return l
}

// wrongs: pointers that aren't right, for one reason each.
func wrongs() []api.Ptr {
	l := []api.Ptr{{}, {A: -1, B: -1, Sum: api.Sum{0: 1}}, {A: -1, B: -1, Sum: api.Sum{31: 1}}, {A: -1, B: -1, Sum: sumOf(api.Block{})}}
	for _, s := range sums() {
		for _, n := range []int{0, 5, 4095} {
			l = append(l, api.Ptr{A: n, B: n, Sum: s}, api.Ptr{A: -1, B: n, Sum: s})
		}
		for _, n := range append([]int{-2, 4096, 4097}, extremes()...) {
			l = append(l, api.Ptr{A: n, B: -1, Sum: s}, api.Ptr{A: n, B: 5, Sum: s}, api.Ptr{A: 5, B: n, Sum: s}, api.Ptr{A: n, B: n, Sum: s}, api.Ptr{A: -1, B: n, Sum: s})
		}
	}
	return l
}

func sumOf(b api.Block) api.Sum { return sha.Sum(b[:]) }

func holeOf(p api.Ptr) bool {
	return p.A == -1 && p.B == -1 && bytes.Equal(p.Sum[:], make([]byte, 32))
}

func isRight(p api.Ptr) bool {
	if holeOf(p) {
		return true
	}
	if p.A < 0 || p.A > 4095 {
		return false
	}
	return p.B == -1 || p.B >= 0 && p.B <= 4095 && p.B != p.A
}

func fitsOf(p api.Ptr, b api.Block) bool {
	if holeOf(p) {
		return strings.Trim(string(b[:]), "\x00") == ""
	}
	return p.Sum == sumOf(b)
}

func pointerOf(b api.Block, a, c int) (api.Ptr, api.Errno) {
	first := a >= 0 && a <= 4095
	second := c == -1 || c >= 0 && c <= 4095 && c != a
	if !first || !second {
		return api.Ptr{}, api.ErrArg
	}
	return api.Ptr{A: a, B: c, Sum: sumOf(b)}, api.OK
}

// bytesOf: a pointer's, right or not, as far as four bytes tell a number.
func bytesOf(p api.Ptr) []byte {
	var b []byte
	for _, n := range []int{p.A, p.B} {
		b = append(b, byte(n), byte(n>>8), byte(n>>16), byte(n>>24))
	}
	return append(b, p.Sum[:]...)
}

// wide: would a number of it need more than four bytes, or be None's?
func wide(p api.Ptr) bool {
	return p.A != -1 && p.A>>32 != 0 || p.B != -1 && p.B>>32 != 0 || p.A == math.MaxUint32 || p.B == math.MaxUint32
}

// room: are there 40 bytes at at within n? By numbers that don't run over.
func room(n, at int) bool {
	return slices.Contains(places(n), at)
}

// places: all at which 40 bytes are within n.
func places(n int) []int {
	var l []int
	for end := 40; end <= n; end++ {
		l = append(l, end-40)
	}
	return l
}

func putOf(b []byte, at int, p api.Ptr) ([]byte, api.Errno) {
	if !isRight(p) || !room(len(b), at) {
		return b, api.ErrArg
	}
	return slices.Concat(b[:at], bytesOf(p), b[at+40:]), api.OK
}

func takeOf(b []byte, at int) (api.Ptr, api.Errno) {
	if !room(len(b), at) {
		return api.Ptr{}, api.ErrArg
	}
	var side [2]int
	for i := range side {
		x := b[at+4*i : at+4*i+4]
		side[i] = int(x[0]) + int(x[1])<<8 + int(x[2])<<16 + int(x[3])<<24
		if bytes.Equal(x, []byte{0xff, 0xff, 0xff, 0xff}) {
			side[i] = -1
		}
	}
	p := api.Ptr{A: side[0], B: side[1], Sum: api.Sum(b[at+8 : at+40])}
	if !isRight(p) {
		return api.Ptr{}, api.ErrForm
	}
	return p, api.OK
}

func nodeOf(l []api.Ptr) (api.Block, api.Errno) {
	if len(l) > 3 || slices.ContainsFunc(l, func(p api.Ptr) bool { return !isRight(p) }) {
		return api.Block{}, api.ErrArg
	}
	return laid(l...), api.OK
}

// laid: the block of three pointers, right or not; those that are missing are holes.
func laid(l ...api.Ptr) api.Block {
	var b []byte
	for i := range 3 {
		p := api.Ptr{A: -1, B: -1}
		if i < len(l) {
			p = l[i]
		}
		b = append(b, bytesOf(p)...)
	}
	return api.Block(append(b, make([]byte, 8)...))
}

func partsOf(b api.Block) ([3]api.Ptr, api.Errno) {
	var l [3]api.Ptr
	for i := range l {
		p, e := takeOf(b[:], 40*i)
		if e != api.OK {
			return [3]api.Ptr{}, api.ErrForm
		}
		l[i] = p
	}
	if !bytes.Equal(b[120:], make([]byte, 8)) {
		return [3]api.Ptr{}, api.ErrForm
	}
	return l, api.OK
}

func checkOf(t *testing.T, b api.Block, a, c int) {
	t.Helper()
	want, code := pointerOf(b, a, c)
	if p, e := ptr.Of(b, a, c); p != want || e != code {
		t.Errorf("of %x.., %d, %d: %v %v, not %v %v", b[:4], a, c, p, e, want, code)
	}
}

func checkFits(t *testing.T, p api.Ptr, b api.Block) {
	t.Helper()
	if got := ptr.Fits(p, b); got != fitsOf(p, b) {
		t.Errorf("does %v fit %x: %v", p, b, got)
	}
}

func checkPut(t *testing.T, b []byte, at int, p api.Ptr) {
	t.Helper()
	list, whole := guarded(b)
	want, code := putOf(b, at, p)
	if e := ptr.Put(list, at, p); e != code || !bytes.Equal(whole, around(want)) {
		t.Errorf("put %v at %d in %d bytes: %v, not %v; %x, not %x", p, at, len(b), e, code, whole, around(want))
	}
}

func checkTake(t *testing.T, b []byte, at int) {
	t.Helper()
	list, whole := guarded(b)
	want, code := takeOf(b, at)
	if p, e := ptr.Take(list, at); p != want || e != code {
		t.Errorf("take at %d of %x: %v %v, not %v %v", at, b, p, e, want, code)
	}
	if !bytes.Equal(whole, around(b)) {
		t.Errorf("take at %d of %x: other bytes", at, b)
	}
}

// checkNode: with pointers behind the list too, in its spare room.
func checkNode(t *testing.T, l ...api.Ptr) {
	t.Helper()
	want, code := nodeOf(l)
	whole := slices.Concat(l, []api.Ptr{{A: 11, B: 12}, {A: 13, B: 14}, {A: 15, B: 16}, {A: 17, B: 18}})
	before := slices.Clone(whole)
	if b, e := ptr.Node(whole[:len(l)]...); b != want || e != code {
		t.Errorf("node of %v: %x %v, not %x %v", l, b, e, want, code)
	}
	if !slices.Equal(whole, before) {
		t.Errorf("node of %v: they, or those behind them, are other ones", l)
	}
}

func checkParts(t *testing.T, b api.Block) {
	t.Helper()
	want, code := partsOf(b)
	if l, e := ptr.Parts(b); l != want || e != code {
		t.Errorf("parts of %x: %v %v, not %v %v", b, l, e, want, code)
	}
}

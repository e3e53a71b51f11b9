package ptr_test

import (
	"bytes"
	"encoding/hex"
	"strings"
	"testing"

	"lazaret/api"
	"lazaret/ptr"
)

const (
	sumOfZeros = "38723a2e5e8a17aa7950dc008209944e898f69a7bd10a23c839d341e935fd5ca"
	sumOfOne   = "ed4fc1d85afa5175e4973c9780b78fa000f070c00230ec18d6190133cb915db5" // of the byte 1, and 127 bytes 0
)

// blocks: zeros, zeros but for one byte, and others.
func blocks() []api.Block {
	return []api.Block{{}, {1}, {127: 1}, {64: 0x80}, api.Block(pattern(128)), api.Block(bytes.Repeat([]byte{255}, 128)), laid()}
}

// changed: all blocks that are b but for one byte.
func changed(b api.Block) []api.Block {
	var l []api.Block
	for place := range b {
		for by := 1; by < 256; by++ {
			x := b
			x[place] ^= byte(by)
			l = append(l, x)
		}
	}
	return l
}

func TestHole(t *testing.T) {
	h := ptr.Hole()
	if h.A != api.None || h.B != api.None || h.Sum != (api.Sum{}) || !ptr.IsHole(h) || !ptr.Right(h) {
		t.Error(h)
	}
	h.A = 5
	if ptr.Hole() == h {
		t.Error("a change of one hole is seen in another one")
	}
}

func TestIsHole(t *testing.T) {
	count := 0
	for _, p := range append(all(), append(rights(), wrongs()...)...) {
		if ptr.IsHole(p) != holeOf(p) {
			t.Errorf("%v: a hole: %v", p, ptr.IsHole(p))
		}
		if holeOf(p) {
			count++
		}
	}
	if count == 0 {
		t.Error("no hole was asked for")
	}
	for place := range 32 {
		p := ptr.Hole()
		p.Sum[place] = 1
		if ptr.IsHole(p) || ptr.Right(p) {
			t.Errorf("without sectors, but byte %d of the sum isn't 0: a hole, or right", place)
		}
	}
}

func TestRight(t *testing.T) {
	for _, p := range all() {
		if ptr.Right(p) != isRight(p) {
			t.Errorf("%v: right: %v", p, ptr.Right(p))
		}
	}
	for _, p := range rights() {
		if !isRight(p) || !ptr.Right(p) {
			t.Errorf("%v isn't right", p)
		}
	}
	for _, p := range wrongs() {
		if isRight(p) || ptr.Right(p) {
			t.Errorf("%v is right", p)
		}
	}
	for n := -10; n < 4200; n++ {
		for _, p := range []api.Ptr{{A: n, B: -1}, {A: n, B: 7}, {A: 7, B: n}, {A: -1, B: n}, {A: n, B: n}, {A: n, B: n + 1}} {
			if ptr.Right(p) != isRight(p) {
				t.Errorf("%v: right: %v", p, ptr.Right(p))
			}
		}
	}
}

func TestOf(t *testing.T) {
	for _, x := range []struct {
		b    api.Block
		a, c int
		sum  string
	}{
		{api.Block{}, 7, api.None, sumOfZeros},
		{api.Block{}, 0, 4095, sumOfZeros},
		{api.Block{1}, 7, 9, sumOfOne},
		{api.Block{1}, 4095, api.None, sumOfOne},
	} {
		p, e := ptr.Of(x.b, x.a, x.c)
		if e != api.OK || p.A != x.a || p.B != x.c || hex.EncodeToString(p.Sum[:]) != x.sum {
			t.Errorf("of %d, %d: %v %v", x.a, x.c, p, e)
		}
	}
	for _, b := range blocks() {
		for _, a := range sides() {
			for _, c := range sides() {
				checkOf(t, b, a, c)
			}
		}
	}
	for n := -10; n < 4200; n++ {
		checkOf(t, api.Block{1}, n, api.None)
		checkOf(t, api.Block{1}, 4095, n)
	}
}

// No hole is answered, whatever the block: not even one of zeros.
func TestOfNoSectors(t *testing.T) {
	for _, b := range blocks() {
		if p, e := ptr.Of(b, api.None, api.None); e != api.ErrArg || p != (api.Ptr{}) {
			t.Errorf("of %x.., without sectors: %v %v", b[:4], p, e)
		}
	}
}

func TestFits(t *testing.T) {
	p, e := ptr.Of(api.Block{}, 7, 9)
	if e != api.OK || !ptr.Fits(p, api.Block{}) || ptr.Fits(p, api.Block{1}) {
		t.Error("zeros against no hole", p, e)
	}
	if h := ptr.Hole(); !ptr.Fits(h, api.Block{}) || ptr.Fits(h, api.Block{1}) {
		t.Error("zeros, or others, against a hole")
	}
	for _, b := range changed(api.Block{}) {
		if ptr.Fits(ptr.Hole(), b) {
			t.Fatalf("a hole fits %x", b)
		}
	}
	for _, b := range blocks() {
		for _, p := range append(rights(), wrongs()...) {
			checkFits(t, p, b)
		}
	}
}

// What fits hangs on the sum alone, wherever the sectors are, but for a hole: a sum without sectors is none.
func TestFitsOfAnySectors(t *testing.T) {
	for _, b := range blocks() {
		for _, a := range sides() {
			for _, c := range sides() {
				if !ptr.Fits(api.Ptr{A: a, B: c, Sum: sumOf(b)}, b) {
					t.Errorf("%x.., the sum of it, and the sectors %d and %d: doesn't fit", b[:4], a, c)
				}
				checkFits(t, api.Ptr{A: a, B: c}, b)
			}
		}
	}
}

// P5.2: a pointer of a block fits it, and none of which one byte is another one.
func TestPointersFitTheirBlocks(t *testing.T) {
	for _, b := range blocks() {
		p, e := ptr.Of(b, 4095, 0)
		if e != api.OK || !ptr.Fits(p, b) {
			t.Errorf("%x.. doesn't fit its pointer %v, %v", b[:4], p, e)
		}
		for _, x := range changed(b) {
			if ptr.Fits(p, x) {
				t.Fatalf("%x fits the pointer of %x", x, b)
			}
		}
	}
}

func TestPut(t *testing.T) {
	sum := strings.Repeat("00", 31) + "05"
	for _, x := range []struct {
		p    api.Ptr
		want string
	}{
		{api.Ptr{A: -1, B: -1}, "ffffffffffffffff" + strings.Repeat("00", 32)},
		{api.Ptr{A: 0, B: -1, Sum: api.Sum{31: 5}}, "00000000ffffffff" + sum},
		{api.Ptr{A: 4095, B: 0, Sum: api.Sum{31: 5}}, "ff0f000000000000" + sum},
		{api.Ptr{A: 258, B: 4094, Sum: sumOf(api.Block{1})}, "02010000fe0f0000" + sumOfOne},
		{api.Ptr{A: 7, B: -1}, "07000000ffffffff" + strings.Repeat("00", 32)},
	} {
		b := pattern(50)
		if e := ptr.Put(b, 3, x.p); e != api.OK || hex.EncodeToString(b[3:43]) != x.want {
			t.Errorf("%v: %v %x, not %s", x.p, e, b[3:43], x.want)
		}
		for length := 39; length < 43; length++ {
			for at := -1; at < 4; at++ {
				checkPut(t, pattern(length), at, x.p)
			}
		}
	}
	for _, p := range append(all(), wrongs()...) {
		checkPut(t, pattern(45), 2, p)
		checkPut(t, pattern(45), 6, p)
	}
}

// Places below 0, within, at the end, 39 and 40 bytes before it, and far beyond; lengths with and without room.
func TestPlaces(t *testing.T) {
	p := api.Ptr{A: 4095, B: 256, Sum: sumOf(api.Block{1})}
	for _, length := range []int{0, 1, 8, 39, 40, 41, 79, 80, 81, 128} {
		far := append([]int{-41, -40, -39, length + 40, length + 41}, extremes()...)
		for at := -3; at <= length+3; at++ {
			far = append(far, at)
		}
		full := bytes.Repeat(bytesOf(p), 4)[:length]
		for _, at := range far {
			checkPut(t, pattern(length), at, p)
			checkPut(t, pattern(length), at, ptr.Hole())
			checkPut(t, pattern(length), at, api.Ptr{})
			checkTake(t, pattern(length), at)
			checkTake(t, full, at)
			checkTake(t, make([]byte, length), at)
		}
	}
	for _, at := range append([]int{-40, -1, 0, 1, 40}, extremes()...) {
		if e := ptr.Put(nil, at, p); e != api.ErrArg {
			t.Errorf("put at %d of nil: %v", at, e)
		}
		if p, e := ptr.Take(nil, at); e != api.ErrArg || p != (api.Ptr{}) {
			t.Errorf("take at %d of nil: %v %v", at, p, e)
		}
	}
}

// The room behind a list is none of it.
func TestSpareRoomIsNoRoom(t *testing.T) {
	p := api.Ptr{A: 1, B: 2}
	for length := range 40 {
		b := make([]byte, 80)
		if e := ptr.Put(b[:length], 0, p); e != api.ErrArg || !bytes.Equal(b, make([]byte, 80)) {
			t.Errorf("put in %d bytes: %v, or other bytes", length, e)
		}
		copy(b, bytesOf(p))
		if p, e := ptr.Take(b[:length], 0); e != api.ErrArg || p != (api.Ptr{}) {
			t.Errorf("take of %d bytes: %v %v", length, p, e)
		}
	}
}

func TestTake(t *testing.T) {
	sum := strings.Repeat("00", 31) + "05"
	for _, x := range []struct {
		b    string
		want api.Ptr
		code api.Errno
	}{
		{"ffffffffffffffff" + strings.Repeat("00", 32), api.Ptr{A: -1, B: -1}, api.OK},
		{"00000000ffffffff" + sum, api.Ptr{A: 0, B: -1, Sum: api.Sum{31: 5}}, api.OK},
		{"ff0f000000000000" + sum, api.Ptr{A: 4095, B: 0, Sum: api.Sum{31: 5}}, api.OK},
		{"02010000fe0f0000" + sumOfZeros, api.Ptr{A: 258, B: 4094, Sum: sumOf(api.Block{})}, api.OK},
		{"ffffffffffffffff" + sum, api.Ptr{}, api.ErrForm},
		{"ffffffff05000000" + sum, api.Ptr{}, api.ErrForm},
		{"ffffffff05000000" + strings.Repeat("00", 32), api.Ptr{}, api.ErrForm},
		{"0500000005000000" + sum, api.Ptr{}, api.ErrForm},
		{strings.Repeat("00", 40), api.Ptr{}, api.ErrForm},
		{strings.Repeat("ff", 40), api.Ptr{}, api.ErrForm},
	} {
		b, _ := hex.DecodeString(x.b)
		if p, e := ptr.Take(b, 0); p != x.want || e != x.code {
			t.Errorf("%s: %v %v, not %v %v", x.b, p, e, x.want, x.code)
		}
	}
}

// Four bytes that are no sector, as A, as B, and as both.
func TestTakeOfWrongNumbers(t *testing.T) {
	for _, x := range []string{
		"fffffffe", "feffffff", "00001000", "00100000", "01100000", "00000100", "00000001", "0500ffff", "05000080", "ff0f0080", "ffffff7f", "ffffff00", "00ffffff", "ffff0000", "fff00000", "ffff0f00", "0fffffff",
	} {
		for _, sum := range []string{strings.Repeat("00", 32), sumOfOne} {
			for _, l := range []string{x + "ffffffff", x + "07000000", "07000000" + x, "ffffffff" + x, x + x} {
				b, _ := hex.DecodeString(l + sum)
				if p, e := ptr.Take(b, 0); e != api.ErrForm || p != (api.Ptr{}) {
					t.Errorf("%s: %v %v", l, p, e)
				}
			}
		}
	}
	for _, p := range wrongs() {
		if wide(p) {
			continue
		}
		if got, e := ptr.Take(bytesOf(p), 0); e != api.ErrForm || got != (api.Ptr{}) {
			t.Errorf("%x, of %v: %v %v", bytesOf(p), p, got, e)
		}
	}
}

// Of 40 bytes each byte is another one.
func TestEachByteOfAPointer(t *testing.T) {
	for _, p := range append(rights()[:12], api.Ptr{A: 255, B: 256, Sum: sumOf(api.Block{1})}, api.Ptr{A: 4095, B: 4094, Sum: sumOf(api.Block{1})}, api.Ptr{}) {
		for place := range 40 {
			for by := 1; by < 256; by++ {
				b := bytesOf(p)
				b[place] ^= byte(by)
				checkTake(t, b, 0)
				if got, e := ptr.Take(b, 0); e == api.OK && got == p {
					t.Fatalf("%v: byte %d by %d: the same", p, place, by)
				}
			}
		}
	}
}

// P5.2: what is put is taken as it was, and only the 40 bytes are other ones.
func TestThereAndBack(t *testing.T) {
	for _, p := range rights() {
		for at := range 11 {
			list, whole := guarded(pattern(50))
			if e := ptr.Put(list, at, p); e != api.OK {
				t.Errorf("put %v at %d: %v", p, at, e)
			}
			if got, e := ptr.Take(list, at); e != api.OK || got != p {
				t.Errorf("take %v at %d: %v %v", p, at, got, e)
			}
			copy(list[at:at+40], pattern(50)[at:])
			if !bytes.Equal(whole, around(pattern(50))) {
				t.Errorf("put %v at %d: other bytes around it", p, at)
			}
		}
	}
}

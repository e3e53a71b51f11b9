package word_test

import (
	"bytes"
	"math"
	"math/big"
	"strings"
	"testing"

	"lazaret/api"
	"lazaret/word"
)

// guard: bytes ahead of a list and behind it (its spare room), which no call may change.
const guard = 16

// guarded: a list of b's bytes, with what stands around it too.
func guarded(b []byte) (list, whole []byte) {
	whole = bytes.Repeat([]byte{0xa5}, guard+len(b)+guard)
	list = whole[guard : guard+len(b)]
	copy(list, b)
	return list, whole
}

// around: what must stand around a list of the bytes b.
func around(b []byte) []byte {
	_, whole := guarded(b)
	return whole
}

// pattern: n bytes, none of them 0, and none like its neighbours.
func pattern(n int) []byte {
	b := make([]byte, n)
	for i := range b {
		b[i] = byte(1 + (7*i+3)%250)
	}
	return b
}

// letters: a text of n bytes.
func letters(n int) string {
	var s strings.Builder
	for i := range n {
		s.WriteByte(byte('a' + i%26))
	}
	return s.String()
}

// power: 256^width.
func power(width int) *big.Int { return new(big.Int).Lsh(big.NewInt(1), uint(8*width)) }

// extremes: places and sizes with which a sum, or a difference, could run over.
func extremes() []int {
	return []int{
		math.MinInt, math.MinInt + 1, math.MinInt + 8, math.MinInt + 256, math.MinInt / 2, math.MinInt32,
		math.MaxInt, math.MaxInt - 1, math.MaxInt - 7, math.MaxInt - 8, math.MaxInt - 255, math.MaxInt - 256,
		1 << 62, 1 << 61, math.MaxInt32, math.MaxInt32 + 1, math.MaxUint32, math.MaxUint32 + 1,
	}
}

// fits: is the place of size bytes at at right in n bytes? By numbers that don't run over.
func fits(n, at, size int) bool {
	end := new(big.Int).Add(big.NewInt(int64(at)), big.NewInt(int64(size)))
	return at >= 0 && end.Cmp(big.NewInt(int64(n))) <= 0
}

// putNumber: what Put must make of b, by the chapter's words.
func putNumber(b []byte, at, width, n int) ([]byte, api.Errno) {
	x := big.NewInt(int64(n))
	if width < 1 || width > 8 || !fits(len(b), at, width) || n < 0 || x.Cmp(power(width)) >= 0 {
		return b, api.ErrArg
	}
	want := bytes.Clone(b)
	for i := range width {
		want[at+i] = byte(new(big.Int).Mod(x, big.NewInt(256)).Int64())
		x.Div(x, big.NewInt(256))
	}
	return want, api.OK
}

// takeNumber: what Take must answer, by the chapter's words.
func takeNumber(b []byte, at, width int) (int, api.Errno) {
	if width < 1 || width > 8 || !fits(len(b), at, width) {
		return 0, api.ErrArg
	}
	x := new(big.Int)
	for i := range width {
		x.Add(x, new(big.Int).Mul(power(i), big.NewInt(int64(b[at+i]))))
	}
	if !x.IsInt64() {
		return 0, api.ErrForm
	}
	return int(x.Int64()), api.OK
}

// putText: what PutText must make of b, by the chapter's words.
func putText(b []byte, at, room int, s string) ([]byte, api.Errno) {
	if room < 1 || room > 256 || !fits(len(b), at, room) || len(s) > room-1 {
		return b, api.ErrArg
	}
	laid := string([]byte{byte(len(s))}) + s + strings.Repeat("\x00", room-1-len(s))
	return []byte(string(b[:at]) + laid + string(b[at+room:])), api.OK
}

// takeText: what TakeText must answer, by the chapter's words.
func takeText(b []byte, at, room int) (string, api.Errno) {
	if room < 1 || room > 256 || !fits(len(b), at, room) {
		return "", api.ErrArg
	}
	n := int(b[at])
	if n > room-1 || strings.Trim(string(b[at+1+n:at+room]), "\x00") != "" {
		return "", api.ErrForm
	}
	return string(b[at+1 : at+1+n]), api.OK
}

func checkPut(t *testing.T, b []byte, at, width, n int) {
	t.Helper()
	list, whole := guarded(b)
	want, code := putNumber(b, at, width, n)
	if got := word.Put(list, at, width, n); got != code || !bytes.Equal(whole, around(want)) {
		t.Errorf("put %d at %d, width %d, in %d bytes: %v, not %v; %x, not %x", n, at, width, len(b), got, code, whole, around(want))
	}
}

func checkTake(t *testing.T, b []byte, at, width int) {
	t.Helper()
	list, whole := guarded(b)
	want, code := takeNumber(b, at, width)
	if n, got := word.Take(list, at, width); n != want || got != code {
		t.Errorf("take at %d, width %d, of %x: %d %v, not %d %v", at, width, b, n, got, want, code)
	}
	if !bytes.Equal(whole, around(b)) {
		t.Errorf("take at %d, width %d, of %x: other bytes", at, width, b)
	}
}

func checkPutText(t *testing.T, b []byte, at, room int, s string) {
	t.Helper()
	list, whole := guarded(b)
	want, code := putText(b, at, room, s)
	if got := word.PutText(list, at, room, s); got != code || !bytes.Equal(whole, around(want)) {
		t.Errorf("put %q at %d, room %d, in %d bytes: %v, not %v; %x, not %x", s, at, room, len(b), got, code, whole, around(want))
	}
}

func checkTakeText(t *testing.T, b []byte, at, room int) {
	t.Helper()
	list, whole := guarded(b)
	want, code := takeText(b, at, room)
	if s, got := word.TakeText(list, at, room); s != want || got != code {
		t.Errorf("take text at %d, room %d, of %x: %q %v, not %q %v", at, room, b, s, got, want, code)
	}
	if !bytes.Equal(whole, around(b)) {
		t.Errorf("take text at %d, room %d, of %x: other bytes", at, room, b)
	}
}

func TestPut(t *testing.T) {
	for _, x := range []struct {
		at, width, n int
		want         []byte
	}{
		{1, 2, 258, []byte{9, 2, 1, 9, 9, 9, 9, 9, 9, 9}},
		{0, 1, 0, []byte{0, 9, 9, 9, 9, 9, 9, 9, 9, 9}},
		{9, 1, 255, []byte{9, 9, 9, 9, 9, 9, 9, 9, 9, 255}},
		{0, 3, 1, []byte{1, 0, 0, 9, 9, 9, 9, 9, 9, 9}},
		{3, 4, 0x04030201, []byte{9, 9, 9, 1, 2, 3, 4, 9, 9, 9}},
		{2, 8, math.MaxInt64, []byte{9, 9, 255, 255, 255, 255, 255, 255, 255, 127}},
		{1, 8, 0x0807060504030201, []byte{9, 1, 2, 3, 4, 5, 6, 7, 8, 9}},
		{0, 8, 0, []byte{0, 0, 0, 0, 0, 0, 0, 0, 9, 9}},
	} {
		b := bytes.Repeat([]byte{9}, 10)
		if e := word.Put(b, x.at, x.width, x.n); e != api.OK || !bytes.Equal(b, x.want) {
			t.Errorf("%d at %d, width %d: %v %v, not %v", x.n, x.at, x.width, e, b, x.want)
		}
		if n, e := word.Take(x.want, x.at, x.width); e != api.OK || n != x.n {
			t.Errorf("at %d, width %d of %v: %d %v, not %d", x.at, x.width, x.want, n, e, x.n)
		}
	}
}

// The last number of each width, the first one past it, and those below 0.
func TestNumbersOfEachWidth(t *testing.T) {
	for width := 1; width < 8; width++ {
		past := 1 << (8 * width)
		for _, n := range []int{0, 1, past / 2, past - 1} {
			if e := word.Put(make([]byte, 8), 0, width, n); e != api.OK {
				t.Errorf("%d, width %d: %v", n, width, e)
			}
		}
		for _, n := range []int{past, past + 1, 2 * past, math.MaxInt, -1, -past, math.MinInt} {
			if e := word.Put(make([]byte, 8), 0, width, n); e != api.ErrArg {
				t.Errorf("%d, width %d: %v", n, width, e)
			}
		}
	}
	for _, x := range []struct {
		n    int
		code api.Errno
	}{
		{0, api.OK}, {1, api.OK}, {1 << 56, api.OK}, {math.MaxInt64, api.OK},
		{-1, api.ErrArg}, {math.MinInt64, api.ErrArg},
	} {
		if e := word.Put(make([]byte, 8), 0, 8, x.n); e != x.code {
			t.Errorf("%d, width 8: %v, not %v", x.n, e, x.code)
		}
	}
}

func TestWidths(t *testing.T) {
	for _, width := range append([]int{-9, -8, -1, 0, 9, 10, 16, 256}, extremes()...) {
		list, whole := guarded(pattern(20))
		if e := word.Put(list, 0, width, 0); e != api.ErrArg || !bytes.Equal(whole, around(pattern(20))) {
			t.Errorf("put of width %d: %v, or other bytes", width, e)
		}
		if n, e := word.Take(list, 0, width); e != api.ErrArg || n != 0 {
			t.Errorf("take of width %d: %d %v", width, n, e)
		}
	}
}

// Widths and lengths all around the edges, by the model: places below 0, within, just at the end, and past it.
func TestNumbersAtAllPlaces(t *testing.T) {
	for length := range 12 {
		for width := -1; width <= 10; width++ {
			for at := -2; at <= length+2; at++ {
				for _, n := range []int{0, 1, 255, 256, 65535, 65536, 0x0102030405060708, math.MaxInt, -1, math.MinInt} {
					checkPut(t, pattern(length), at, width, n)
				}
				checkTake(t, pattern(length), at, width)
			}
		}
	}
}

func TestNumbersAtFarPlaces(t *testing.T) {
	for _, length := range []int{0, 1, 8, 20} {
		for _, at := range extremes() {
			for _, width := range append([]int{-1, 0, 1, 2, 7, 8, 9}, extremes()...) {
				checkPut(t, pattern(length), at, width, 1)
				checkTake(t, pattern(length), at, width)
			}
		}
	}
}

// A number above 2^63 - 1 says nothing, but only where eight bytes are taken.
func TestTakeOfGreatNumbers(t *testing.T) {
	full := bytes.Repeat([]byte{255}, 20)
	for width := 1; width < 8; width++ {
		if n, e := word.Take(full, 3, width); e != api.OK || n != 1<<(8*width)-1 {
			t.Errorf("width %d: %d %v", width, n, e)
		}
	}
	for _, x := range []struct {
		b    []byte
		n    int
		code api.Errno
	}{
		{[]byte{255, 255, 255, 255, 255, 255, 255, 127}, math.MaxInt64, api.OK},
		{[]byte{0, 0, 0, 0, 0, 0, 0, 64}, 1 << 62, api.OK},
		{[]byte{0, 0, 0, 0, 0, 0, 0, 128}, 0, api.ErrForm},
		{[]byte{1, 0, 0, 0, 0, 0, 0, 128}, 0, api.ErrForm},
		{[]byte{0, 0, 0, 0, 0, 0, 0, 255}, 0, api.ErrForm},
		{full[:8], 0, api.ErrForm},
	} {
		for at := range 3 {
			b := bytes.Join([][]byte{full[:at], x.b, full[:2]}, nil)
			if n, e := word.Take(b, at, 8); n != x.n || e != x.code {
				t.Errorf("%v at %d: %d %v, not %d %v", x.b, at, n, e, x.n, x.code)
			}
			checkTake(t, b, at, 8)
		}
	}
	// What isn't right is told first, whatever stands there.
	if n, e := word.Take(full, 13, 8); n != 0 || e != api.ErrArg {
		t.Errorf("past the end: %d %v", n, e)
	}
}

// P2.2 for numbers: taken as they were, and no other byte is another one.
func TestNumbersThereAndBack(t *testing.T) {
	for width := 1; width <= 8; width++ {
		most := math.MaxInt
		if width < 8 {
			most = 1<<(8*width) - 1
		}
		for at := range 12 {
			for _, n := range []int{0, 1, 127, 128, 255, most / 3, most / 2, most - 1, most} {
				list, whole := guarded(pattern(20))
				if e := word.Put(list, at, width, n); e != api.OK {
					t.Errorf("put %d at %d, width %d: %v", n, at, width, e)
				}
				if back, e := word.Take(list, at, width); e != api.OK || back != n {
					t.Errorf("take %d at %d, width %d: %d %v", n, at, width, back, e)
				}
				copy(list[at:at+width], pattern(20)[at:])
				if !bytes.Equal(whole, around(pattern(20))) {
					t.Errorf("put %d at %d, width %d: other bytes around it", n, at, width)
				}
			}
		}
	}
}

func TestPutText(t *testing.T) {
	for _, x := range []struct {
		at, room int
		s        string
		want     []byte
	}{
		{0, 4, "ab", []byte{2, 'a', 'b', 0, 9, 9}},
		{1, 4, "ab", []byte{9, 2, 'a', 'b', 0, 9}},
		{2, 4, "abc", []byte{9, 9, 3, 'a', 'b', 'c'}},
		{0, 6, "", []byte{0, 0, 0, 0, 0, 0}},
		{3, 1, "", []byte{9, 9, 9, 0, 9, 9}},
		{5, 1, "", []byte{9, 9, 9, 9, 9, 0}},
		{0, 6, "a", []byte{1, 'a', 0, 0, 0, 0}},
		{1, 4, "\x00\xff\x00", []byte{9, 3, 0, 255, 0, 9}},
		{1, 5, "\x00", []byte{9, 1, 0, 0, 0, 0}},
	} {
		b := bytes.Repeat([]byte{9}, 6)
		if e := word.PutText(b, x.at, x.room, x.s); e != api.OK || !bytes.Equal(b, x.want) {
			t.Errorf("%q at %d, room %d: %v %v, not %v", x.s, x.at, x.room, e, b, x.want)
		}
		if s, e := word.TakeText(x.want, x.at, x.room); e != api.OK || s != x.s {
			t.Errorf("at %d, room %d of %v: %q %v, not %q", x.at, x.room, x.want, s, e, x.s)
		}
	}
}

// A text of room - 1 bytes is taken in each room, one of room bytes or more in none.
func TestTextsOfEachRoom(t *testing.T) {
	for room := 1; room <= 256; room++ {
		for _, n := range []int{0, 1, room - 2, room - 1, room, room + 1, 256, 1000} {
			if n < 0 {
				continue
			}
			want := api.OK
			if n >= room {
				want = api.ErrArg
			}
			if e := word.PutText(pattern(300), 5, room, letters(n)); e != want {
				t.Errorf("%d bytes, room %d: %v, not %v", n, room, e, want)
			}
			checkPutText(t, pattern(300), 5, room, letters(n))
		}
	}
}

func TestRooms(t *testing.T) {
	for _, room := range append([]int{-257, -256, -1, 0, 257, 258, 512, 600}, extremes()...) {
		list, whole := guarded(make([]byte, 600))
		for _, s := range []string{"", "a", letters(255), letters(256)} {
			if e := word.PutText(list, 0, room, s); e != api.ErrArg || !bytes.Equal(whole, around(make([]byte, 600))) {
				t.Errorf("put of %d bytes, room %d: %v, or other bytes", len(s), room, e)
			}
		}
		if s, e := word.TakeText(list, 0, room); e != api.ErrArg || s != "" {
			t.Errorf("take of room %d: %q %v", room, s, e)
		}
	}
	for _, room := range []int{1, 2, 255, 256} {
		if e := word.PutText(pattern(600), 0, room, ""); e != api.OK {
			t.Errorf("put of room %d: %v", room, e)
		}
		if s, e := word.TakeText(make([]byte, 600), 0, room); e != api.OK || s != "" {
			t.Errorf("take of room %d: %q %v", room, s, e)
		}
	}
}

func TestTextsAtAllPlaces(t *testing.T) {
	for length := range 9 {
		for room := -1; room <= 9; room++ {
			for at := -2; at <= length+2; at++ {
				for n := range 9 {
					checkPutText(t, pattern(length), at, room, letters(n))
				}
				for first := range 10 {
					b := make([]byte, length)
					if at >= 0 && at < length {
						b[at] = byte(first)
					}
					checkTakeText(t, b, at, room)
				}
				checkTakeText(t, pattern(length), at, room)
			}
		}
	}
	for _, length := range []int{255, 256, 257, 258} {
		for room := 254; room <= 258; room++ {
			for at := -1; at <= 3; at++ {
				checkPutText(t, pattern(length), at, room, letters(room-1))
				checkTakeText(t, make([]byte, length), at, room)
			}
		}
	}
}

func TestTextsAtFarPlaces(t *testing.T) {
	for _, length := range []int{0, 1, 256, 300} {
		for _, at := range extremes() {
			for _, room := range append([]int{-1, 0, 1, 2, 255, 256, 257}, extremes()...) {
				checkPutText(t, pattern(length), at, room, "")
				checkTakeText(t, make([]byte, length), at, room)
			}
		}
	}
}

// Bytes that no text was laid into: too long a text, or something behind it.
func TestTakeTextOfOtherBytes(t *testing.T) {
	for _, room := range []int{1, 2, 3, 4, 24, 127, 128, 255, 256} {
		for first := range 256 {
			b := make([]byte, room+2)
			b[1] = byte(first)
			want := api.OK
			if first > room-1 {
				want = api.ErrForm
			}
			if s, e := word.TakeText(b, 1, room); e != want || e != api.OK && s != "" {
				t.Errorf("room %d, first byte %d: %q %v, not %v", room, first, s, e, want)
			}
			checkTakeText(t, b, 1, room)
		}
	}
	for n := range 23 {
		for i := 1 + n; i < 24; i++ {
			b := pattern(30)
			if e := word.PutText(b, 2, 24, letters(n)); e != api.OK {
				t.Fatal(n, e)
			}
			for _, x := range []byte{1, 128, 255} {
				b[2+i] = x
				if s, e := word.TakeText(b, 2, 24); e != api.ErrForm || s != "" {
					t.Errorf("%d behind a text of %d bytes, at %d: %q %v", x, n, i, s, e)
				}
			}
		}
	}
	// What stands beyond the room doesn't count.
	if s, e := word.TakeText([]byte{7, 1, 'a', 0, 7}, 1, 3); e != api.OK || s != "a" {
		t.Errorf("other bytes around it: %q %v", s, e)
	}
}

// P2.2 for texts: taken as they were, whatever stood there, and no other byte is another one.
func TestTextsThereAndBack(t *testing.T) {
	all := make([]byte, 256)
	for i := range all {
		all[i] = byte(i)
	}
	for _, room := range []int{1, 2, 3, 8, 24, 25, 100, 255, 256} {
		for at := range 4 {
			for _, from := range []string{letters(255), string(all), strings.Repeat("\x00", 255), strings.Repeat("\xff", 255)} {
				for _, n := range []int{0, room / 2, room - 1} {
					s := from[:n]
					list, whole := guarded(pattern(260))
					if e := word.PutText(list, at, room, s); e != api.OK {
						t.Errorf("put %q at %d, room %d: %v", s, at, room, e)
					}
					if back, e := word.TakeText(list, at, room); e != api.OK || back != s {
						t.Errorf("take %q at %d, room %d: %q %v", s, at, room, back, e)
					}
					copy(list[at:at+room], pattern(260)[at:])
					if !bytes.Equal(whole, around(pattern(260))) {
						t.Errorf("put %q at %d, room %d: other bytes around it", s, at, room)
					}
				}
			}
		}
	}
}

func TestZero(t *testing.T) {
	if !word.Zero(nil) || !word.Zero([]byte{}) {
		t.Error("no bytes")
	}
	for n := 1; n < 130; n++ {
		list, whole := guarded(make([]byte, n))
		if !word.Zero(list) {
			t.Errorf("%d bytes 0, and others around them", n)
		}
		for i := range n {
			for _, x := range []byte{1, 2, 64, 128, 255} {
				list[i] = x
				if word.Zero(list) {
					t.Errorf("%d at %d of %d bytes", x, i, n)
				}
				if list[i] != x {
					t.Errorf("%d at %d of %d bytes: another one", x, i, n)
				}
			}
			list[i] = 0
		}
		if !bytes.Equal(whole, around(make([]byte, n))) {
			t.Errorf("%d bytes: other ones", n)
		}
	}
}

// P1: there is no place in no bytes, and no call panics there.
func TestNoBytes(t *testing.T) {
	for _, b := range [][]byte{nil, {}, pattern(20)[:0]} {
		for _, at := range append([]int{-1, 0, 1}, extremes()...) {
			for _, size := range append([]int{-1, 0, 1, 8, 256}, extremes()...) {
				if e := word.Put(b, at, size, 0); e != api.ErrArg {
					t.Errorf("put at %d, width %d: %v", at, size, e)
				}
				if n, e := word.Take(b, at, size); e != api.ErrArg || n != 0 {
					t.Errorf("take at %d, width %d: %d %v", at, size, n, e)
				}
				if e := word.PutText(b, at, size, ""); e != api.ErrArg {
					t.Errorf("put text at %d, room %d: %v", at, size, e)
				}
				if s, e := word.TakeText(b, at, size); e != api.ErrArg || s != "" {
					t.Errorf("take text at %d, room %d: %q %v", at, size, s, e)
				}
			}
		}
	}
}

// P1: a list ends where its bytes end, not where its spare room does.
func TestSpareRoomIsNoPlace(t *testing.T) {
	for length := range 10 {
		whole := make([]byte, 300)
		b := whole[:length]
		for _, e := range []api.Errno{
			word.Put(b, length, 1, 1), word.Put(b, length-1, 2, 1), word.Put(b, 3, 8, 1),
			word.PutText(b, length, 1, ""), word.PutText(b, length-1, 2, "a"), word.PutText(b, 0, 256, "a"),
		} {
			if e != api.ErrArg || !word.Zero(whole) {
				t.Errorf("put past %d bytes: %v, or other bytes", length, e)
			}
		}
		for _, size := range []int{1, 2, 8} {
			if n, e := word.Take(b, length-size+1, size); e != api.ErrArg || n != 0 {
				t.Errorf("take past %d bytes: %d %v", length, n, e)
			}
			if s, e := word.TakeText(b, length-size+1, size); e != api.ErrArg || s != "" {
				t.Errorf("take text past %d bytes: %q %v", length, s, e)
			}
		}
	}
}

// P1: a text that is answered shares no memory with the bytes it was taken from, nor these with one that was put.
func TestTextsShareNothing(t *testing.T) {
	for _, n := range []int{1, 2, 3, 40, 255} {
		b := make([]byte, 256)
		s := letters(n)
		if e := word.PutText(b, 0, 256, s); e != api.OK {
			t.Fatal(n, e)
		}
		back, e := word.TakeText(b, 0, 256)
		for i := range b {
			b[i] ^= 0xff
		}
		if e != api.OK || back != letters(n) || s != letters(n) {
			t.Errorf("%d bytes: a change of the bytes is seen in the text", n)
		}
	}
}

// P1: an answer hangs on the arguments alone, whatever was asked ahead of it.
func TestNothingIsKept(t *testing.T) {
	for i := range 300 {
		word.Put(pattern(i), i%9, i%10, i)
		word.Take(pattern(i), i%9, i%10)
		word.PutText(pattern(i), i%9, i, letters(i/2))
		word.TakeText(pattern(i), i%9, i)
		checkPut(t, pattern(10), 1, 2, 258)
		checkTake(t, pattern(10), 1, 2)
		checkPutText(t, pattern(10), 1, 4, "ab")
		checkTakeText(t, []byte{9, 2, 'a', 'b', 0, 9}, 1, 4)
	}
}

package entry_test

import (
	"bytes"
	"math/rand"
	"slices"
	"strings"
	"testing"

	"lazaret/api"
	"lazaret/entry"
)

// Bytes that aren't those of right entries, and those that are but for one of them.

// some: right entries of all kinds.
func some() [][]api.Entry {
	return [][]api.Entry{
		nil,
		of("a"),
		of("a", "b"),
		of("a", "aa", "ab", "b"),
		{{Name: "b", Node: 64}},
		{{Name: "\x01\x01", Node: 1}, {Name: "\x02\x02", Node: 2}},
		{{Name: strings.Repeat("x", 24), Node: 64}, {Name: "z", Node: 1}},
		of("\x7f", "\x80", "\xff", "\xff\xff"),
		many(39),
		many(40),
	}
}

// formless: bytes that no right entries have.
func formless(t *testing.T, why string, b []byte) {
	t.Helper()
	if l, e := entry.Take(b); e != api.ErrForm || len(l) != 0 {
		t.Errorf("%s: % x: %s %v", why, b, said(l), e)
	}
	checkTake(t, b)
}

// Bytes that end within an entry: behind its node, behind its length, within its name.
func TestBytesThatEnd(t *testing.T) {
	for _, l := range some() {
		b, ends := bytesOf(l), map[int]int{0: 0}
		for i := range l {
			ends[len(bytesOf(l[:i+1]))] = i + 1
		}
		for n := range len(b) + 1 {
			got := checkTake(t, b[:n])
			count, whole := ends[n]
			if whole != (got.e == api.OK) || whole && !slices.Equal(got.l, l[:count]) {
				t.Errorf("%d of %d bytes: %s %v", n, len(b), said(got.l), got.e)
			}
			if n > 0 {
				checkTake(t, b[n:])
			}
		}
		for _, more := range []string{"\x00", "\x01", "\x40", "\x00\x00", "\x01\x00", "\x01\x01", "\x01\x02z", "\x01\x19" + strings.Repeat("z", 24)} {
			formless(t, "more bytes", append(bytes.Clone(b), more...))
		}
	}
}

// A length that reaches beyond the end, or is none that a name may have.
func TestLengths(t *testing.T) {
	for n := range 256 {
		for has := range 30 {
			b := append([]byte{1, byte(n)}, strings.Repeat("x", has)...)
			got := checkTake(t, b)
			if (got.e == api.OK) != (n == has && n >= 1 && n <= 24) {
				t.Errorf("%d bytes of a name of %d: %v", has, n, got.e)
			}
		}
		b := append([]byte{1, byte(n)}, strings.Repeat("x", n)...)
		if got := checkTake(t, b); (got.e == api.OK) != (n >= 1 && n <= 24) {
			t.Errorf("a name of %d bytes: %v", n, got.e)
		}
	}
	formless(t, "a length of 0", []byte{1, 0})
	formless(t, "a length of 0, and one more entry", []byte{1, 0, 2, 1, 'a'})
	formless(t, "a length of 255", append([]byte{1, 255}, strings.Repeat("x", 255)...))
	formless(t, "a length of 255, and fewer bytes", append([]byte{1, 255}, strings.Repeat("x", 254)...))
	formless(t, "a length that takes the next entry in", []byte{5, 4, 'a', 2, 1, 'b', 'c'})
	if got := checkTake(t, []byte{5, 4, 'a', 2, 1, 'b'}); got.e != api.OK || got.l[0].Name != "a\x02\x01b" {
		t.Error(got)
	}
}

// A node's byte: from 1 to 64.
func TestNodeBytes(t *testing.T) {
	for n := range 256 {
		for at, b := range [][]byte{{byte(n), 1, 'a'}, {byte(n), 1, 'a', 1, 1, 'b'}, {1, 1, 'a', byte(n), 1, 'b'}} {
			got := checkTake(t, b)
			if (got.e == api.OK) != (n >= 1 && n <= 64) {
				t.Errorf("%d: a node's byte of %d: %v", at, n, got.e)
			}
			if i, _ := entry.Find(got.l, map[bool]string{true: "b", false: "a"}[at == 2]); got.e == api.OK && i != n {
				t.Errorf("a node's byte of %d is taken as %d", n, i)
			}
		}
	}
}

// Names that may not be, two alike, and such as stand in no order.
func TestWrongNames(t *testing.T) {
	for _, name := range badNames() {
		for _, l := range [][]api.Entry{of(name), of(name, "\xff\xff\xff"), of("\x01", name), of("\x01", name, "\xff\xff\xff")} {
			formless(t, "a name", bytesOf(l))
		}
	}
	for _, l := range [][]api.Entry{of("b", "a"), of("a", "a"), of("aa", "a"), of("b", "aa"), of("ab", "aa"), of("\x80", "\x7f"), of("\xff", "a"), of("a", "c", "b"), of("b", "c", "a"), of("a", "b", "a"), of("a", "b", "b"), of("a", "a", "b"), {{Name: "a", Node: 1}, {Name: "a", Node: 2}}} {
		formless(t, "no order", bytesOf(l))
	}
	formless(t, "41", bytesOf(many(41)))
	formless(t, "41, and the last one isn't whole", bytesOf(many(41))[:40*7+1])
}

// Right bytes with one byte changed: to each other value.
func TestOneByteChanged(t *testing.T) {
	t.Parallel()
	for _, l := range some() {
		b := bytesOf(l)
		for at := range b {
			step := 1
			if len(l) > 4 {
				step = 7 + at%3
			}
			for x := 1; x < 256; x += step {
				c := bytes.Clone(b)
				c[at] ^= byte(x)
				if got := checkTake(t, c); got.e == api.OK && slices.Equal(got.l, l) {
					t.Fatalf("% x and % x are the same entries", b, c)
				}
			}
		}
	}
}

// All short bytes, of those that say something.
func TestShortBytes(t *testing.T) {
	t.Parallel()
	ok := 0
	level := [][]byte{{}}
	for n := range 7 {
		var next [][]byte
		for _, b := range level {
			if got := checkTake(t, b); got.e == api.OK {
				ok++
			}
			if n == 6 {
				continue
			}
			for _, x := range []byte{0, 1, 2, 3, '.', 64, 65, 255} {
				next = append(next, append(bytes.Clone(b), x))
			}
		}
		level = next
	}
	if ok < 1000 {
		t.Errorf("only %d of them are entries'", ok)
	}
}

// Bytes drawn at random, of all values and of few; and right ones of which some are other ones.
func TestRandomBytes(t *testing.T) {
	t.Parallel()
	r := rand.New(rand.NewSource(15))
	told := map[api.Errno]int{}
	for range 40000 {
		b := make([]byte, r.Intn(40))
		for i := range b {
			b[i] = byte(r.Intn(256))
			if r.Intn(4) > 0 {
				b[i] = []byte{0, 1, 1, 2, 3, 64, 65, 'a', 'b', '/'}[r.Intn(10)]
			}
		}
		told[checkTake(t, b).e]++
	}
	for range 20000 {
		l := random(r, r.Intn(12))
		b := bytesOf(l)
		if r.Intn(5) > 0 && len(b) > 0 {
			for range 1 + r.Intn(2) {
				b[r.Intn(len(b))] = byte(r.Intn(256))
			}
		}
		if r.Intn(8) == 0 && len(b) > 0 {
			b = b[:r.Intn(len(b))]
		}
		told[checkTake(t, b).e]++
	}
	if told[api.OK] < 2000 || told[api.ErrForm] < 2000 {
		t.Error(told)
	}
}

// More bytes than any entries have: of entries that go on, and of one and the same byte.
func TestMoreBytes(t *testing.T) {
	t.Parallel()
	formless(t, "many", bytesOf(many(9999)))
	for _, x := range []byte{0, 1, 24, 64, 255} {
		for _, n := range []int{1, 2, 3, 26, 1040, 1041, 1042, 1 << 20} {
			b := bytes.Repeat([]byte{x}, n)
			if got := checkTake(t, b); (got.e == api.OK) != (x == 1 && n == 3 || x == 24 && n == 26) {
				t.Errorf("%d bytes %d: %v", n, x, got.e)
			}
		}
	}
}

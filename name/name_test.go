package name_test

import (
	"slices"
	"strings"
	"testing"

	"lazaret/api"
	"lazaret/name"
)

// The chapter's examples.
func TestExamples(t *testing.T) {
	steps, absolute, dir, e := name.Split("/a//b/./c/")
	if !slices.Equal(steps, []string{"a", "b", "c"}) || !absolute || !dir || e != api.OK {
		t.Error(steps, absolute, dir, e)
	}
	for path, want := range map[string]string{"/a//b/./c/": "/a/b/c", "a/../../b": "../b", "/../b": "/b"} {
		if got, e := name.Clean(path); got != want || e != api.OK {
			t.Error(path, got, e)
		}
	}
	if dir, last, e := name.Parent("/a/b"); dir != "/a" || last != "b" || e != api.OK {
		t.Error(dir, last, e)
	}
	if dir, last, e := name.Parent("b"); dir != "." || last != "b" || e != api.OK {
		t.Error(dir, last, e)
	}
}

// odd: names, of some bytes that are no text of UTF-8, or look like / or . or 0 to who takes them as text.
func odd() []string {
	return []string{
		"\xff", "\x80", "\xc3", "\xc3\x28", "\xe2\x88", "\xed\xa0\x80", "\xf4\x90\x80\x80", "a\xff\xfeb",
		"\xc0\xaf", "\xc0\x80", "\xc0\xae", "\xc0\xae\xc0\xae", "\xef\xbf\xbd",
		"\u2215", "\uff0f", "\u2024", "\u2025", "\ufeff.", ".\u200b", "\u00e9", "\U0001f600",
		" ", "  ", ". ", " .", ".. ", " ..", "\t", "\n", "\r\n", "\\", "a\\b", "*", "~", "-", "%2f", "%00", "\x7f", "\x01", "A", "C:",
		"...", "....", ".a", "a.", "..a", "a..", "a..b", ".a.", ".-.", strings.Repeat(".", 24),
	}
}

func TestValid(t *testing.T) {
	for s, want := range map[string]bool{
		"": false, "a": true, ".": false, "..": false, "...": true, "/": false, "//": false, "\x00": false, "0": true,
		"/a": false, "a/": false, "a/b": false, "./": false, "/.": false, "../": false, "\x00a": false, "a\x00": false, "a\x00b": false,
		strings.Repeat("x", 23): true, strings.Repeat("x", 24): true, strings.Repeat("x", 25): false, strings.Repeat("x", 26): false,
		strings.Repeat(".", 24): true, strings.Repeat(".", 25): false,
		strings.Repeat("\xff", 24): true, strings.Repeat("\xff", 25): false,
		strings.Repeat("\u00e9", 12): true, strings.Repeat("\u00e9", 12) + "e": false, strings.Repeat("\u00e9", 13): false,
		strings.Repeat("\u20ac", 8): true, strings.Repeat("\u20ac", 9): false, strings.Repeat("\U0001f600", 7): false,
		strings.Repeat("x", 240): false, strings.Repeat("x", 256): false, strings.Repeat("x", 257): false, strings.Repeat("x", 280): false,
		strings.Repeat("x", 1<<16+1): false, strings.Repeat("x", 1<<24): false,
	} {
		if name.Valid(s) != want {
			t.Errorf("%.40q of %d bytes: not %v", s, len(s), want)
		}
	}
	for _, s := range odd() {
		if !name.Valid(s) {
			t.Errorf("%q", s)
		}
	}
}

// Each byte at each place of names, and of paths of one step.
func TestEachByte(t *testing.T) {
	t.Parallel()
	for n := 1; n <= 25; n++ {
		for at := range n {
			for x := range 256 {
				b := []byte(strings.Repeat("m", n))
				b[at] = byte(x)
				s := string(b)
				if want := n < 25 && x != 0 && x != '/' && s != "."; name.Valid(s) != want {
					t.Fatalf("valid %q: not %v", s, want)
				}
				check(t, s)
			}
		}
	}
}

// rowOf: what Split, Clean and Parent say of a path: no name, where there is no parent.
type rowOf struct {
	path          string
	steps         string // with blanks between
	absolute, dir bool
	clean         string
	parent, last  string
}

func rows() []rowOf {
	return []rowOf{
		{"a", "a", false, false, "a", ".", "a"},
		{"/a", "a", true, false, "/a", "/", "a"},
		{"a/", "a", false, true, "a", ".", "a"},
		{"/a/", "a", true, true, "/a", "/", "a"},
		{"a/.", "a", false, true, "a", ".", "a"},
		{"/a/.", "a", true, true, "/a", "/", "a"},
		{"./a", "a", false, false, "a", ".", "a"},
		{"/./a", "a", true, false, "/a", "/", "a"},
		{"//a", "a", true, false, "/a", "/", "a"},
		{"a//", "a", false, true, "a", ".", "a"},
		{"/", "", true, true, "/", "", ""},
		{"//", "", true, true, "/", "", ""},
		{"/////", "", true, true, "/", "", ""},
		{".", "", false, true, ".", "", ""},
		{"./", "", false, true, ".", "", ""},
		{"./.", "", false, true, ".", "", ""},
		{"././", "", false, true, ".", "", ""},
		{".//.", "", false, true, ".", "", ""},
		{"/.", "", true, true, "/", "", ""},
		{"/./", "", true, true, "/", "", ""},
		{"/././/.", "", true, true, "/", "", ""},
		{"..", "..", false, true, "..", "", ""},
		{"/..", "..", true, true, "/", "", ""},
		{"../", "..", false, true, "..", "", ""},
		{"../.", "..", false, true, "..", "", ""},
		{"./..", "..", false, true, "..", "", ""},
		{"../..", ".. ..", false, true, "../..", "", ""},
		{"/../..", ".. ..", true, true, "/", "", ""},
		{"...", "...", false, false, "...", ".", "..."},
		{".../..", "... ..", false, true, ".", "", ""},
		{"../...", ".. ...", false, false, "../...", "..", "..."},
		{"a/b", "a b", false, false, "a/b", "a", "b"},
		{"/a/b", "a b", true, false, "/a/b", "/a", "b"},
		{"a/b/c", "a b c", false, false, "a/b/c", "a/b", "c"},
		{"/a/b/c", "a b c", true, false, "/a/b/c", "/a/b", "c"},
		{"/a//b/./c/", "a b c", true, true, "/a/b/c", "/a/b", "c"},
		{".//a//.//b/.//", "a b", false, true, "a/b", "a", "b"},
		{"a/..", "a ..", false, true, ".", "", ""},
		{"/a/..", "a ..", true, true, "/", "", ""},
		{"a/../", "a ..", false, true, ".", "", ""},
		{"a/./..", "a ..", false, true, ".", "", ""},
		{"a//..", "a ..", false, true, ".", "", ""},
		{"../a", ".. a", false, false, "../a", "..", "a"},
		{"/../a", ".. a", true, false, "/a", "/..", "a"},
		{"../a/", ".. a", false, true, "../a", "..", "a"},
		{"../../a", ".. .. a", false, false, "../../a", "../..", "a"},
		{"/../../a", ".. .. a", true, false, "/a", "/../..", "a"},
		{"../a/..", ".. a ..", false, true, "..", "", ""},
		{"a/../b", "a .. b", false, false, "b", "a/..", "b"},
		{"/a/../b", "a .. b", true, false, "/b", "/a/..", "b"},
		{"a/.././b//", "a .. b", false, true, "b", "a/..", "b"},
		{"a/../../b", "a .. .. b", false, false, "../b", "a/../..", "b"},
		{"/a/../../b", "a .. .. b", true, false, "/b", "/a/../..", "b"},
		{"a/b/..", "a b ..", false, true, "a", "", ""},
		{"a/b/../..", "a b .. ..", false, true, ".", "", ""},
		{"a/b/../../..", "a b .. .. ..", false, true, "..", "", ""},
		{"/a/b/../../..", "a b .. .. ..", true, true, "/", "", ""},
		{"a/../..", "a .. ..", false, true, "..", "", ""},
		{"a/b/../c", "a b .. c", false, false, "a/c", "a/b/..", "c"},
		{"a/b/../../c/d", "a b .. .. c d", false, false, "c/d", "a/b/../../c", "d"},
		{"../a/../../b/c/../d", ".. a .. .. b c .. d", false, false, "../../b/d", "../a/../../b/c/..", "d"},
		{"/../a/../../b/c/../d", ".. a .. .. b c .. d", true, false, "/b/d", "/../a/../../b/c/..", "d"},
		{"a/a/a", "a a a", false, false, "a/a/a", "a/a", "a"},
		{"..a/b..", "..a b..", false, false, "..a/b..", "..a", "b.."},
		{"\xff/\xc0\xaf", "\xff \xc0\xaf", false, false, "\xff/\xc0\xaf", "\xff", "\xc0\xaf"},
		{"/\xff/../\x80", "\xff .. \x80", true, false, "/\x80", "/\xff/..", "\x80"},
	}
}

func TestRows(t *testing.T) {
	for _, x := range rows() {
		steps, absolute, dir, e := name.Split(x.path)
		if !slices.Equal(steps, strings.Fields(x.steps)) || absolute != x.absolute || dir != x.dir || e != api.OK {
			t.Errorf("split %q: %q %v %v %v", x.path, steps, absolute, dir, e)
		}
		if got, e := name.Clean(x.path); got != x.clean || e != api.OK {
			t.Errorf("clean %q: %q %v", x.path, got, e)
		}
		code := api.OK
		if x.last == "" {
			code = api.ErrName
		}
		if up, last, e := name.Parent(x.path); up != x.parent || last != x.last || e != code {
			t.Errorf("parent of %q: %q %q %v", x.path, up, last, e)
		}
		check(t, x.path)
	}
}

// refused: all calls answer ErrName, and nothing else.
func refused(t *testing.T, path string) {
	t.Helper()
	told := path[:min(len(path), 60)]
	if steps, absolute, dir, e := name.Split(path); len(steps) != 0 || absolute || dir || e != api.ErrName {
		t.Errorf("split %q, of %d bytes: %q %v %v %v", told, len(path), steps, absolute, dir, e)
	}
	if got, e := name.Clean(path); got != "" || e != api.ErrName {
		t.Errorf("clean %q, of %d bytes: %q %v", told, len(path), got, e)
	}
	if dir, last, e := name.Parent(path); dir != "" || last != "" || e != api.ErrName {
		t.Errorf("parent of %q, of %d bytes: %q %q %v", told, len(path), dir, last, e)
	}
}

// What may not be: no bytes, too many, a byte 0 anywhere, a step of too many bytes anywhere, whatever else the path has, and takes away.
func TestRefused(t *testing.T) {
	long := strings.Repeat("x", 25)
	for _, bad := range []string{"\x00", "\x00\x00", "a\x00", "\x00a", ".\x00", "\x00.", "..\x00", "\x00..", "a\x00b", long, long + "\x00", strings.Repeat(".", 25), strings.Repeat("\xff", 25), strings.Repeat("\u00e9", 13), strings.Repeat("x", 239)} {
		for _, form := range []string{"?", "/?", "?/", "/?/", "./?", "?/.", "../?", "?/..", "a/?", "?/a", "a/?/b", "/a/?/../b", "//?//", "a/../?/..", strings.Repeat("/", 100) + "?"} {
			refused(t, strings.ReplaceAll(form, "?", bad))
		}
	}
	refused(t, "")
	for _, n := range []int{241, 242, 255, 256, 257, 300, 480, 496, 1 << 16, 1<<16 + 1, 1 << 24} {
		for _, piece := range []string{"/", "./", "a/", "/a", "../", "/..", "a/../", "x", "\x00"} {
			refused(t, strings.Repeat(piece, n)[:n])
		}
	}
}

// Just 240 bytes are taken, of whatever kind, and one byte alone.
func TestLengths(t *testing.T) {
	for n := 1; n <= 240; n++ {
		for _, piece := range []string{"/", "./", "a/", "/a", "../", "/..", "a/../", "a/b/../../../", strings.Repeat("y", 24) + "/", "/" + strings.Repeat("z", 23)} {
			path := strings.Repeat(piece, n)[:n]
			if _, _, _, e := name.Split(path); e != api.OK {
				t.Errorf("%q, of %d bytes: %v", path, n, e)
			}
			check(t, path)
		}
	}
	for _, c := range []byte{'a', '/', '.', '0', 0x7f, 0x80, 0xff, ' '} {
		check(t, string([]byte{c}))
		if _, e := name.Clean(string([]byte{c})); e != api.OK {
			t.Error(c, e)
		}
	}
	full := strings.Repeat(strings.Repeat("w", 23)+"/", 9) + strings.Repeat("v", 24)
	if dir, last, e := name.Parent(full); len(full) != 240 || dir != full[:215] || len(last) != 24 || e != api.OK {
		t.Error(len(full), dir, last, e)
	}
	if got, e := name.Clean(full); got != full || e != api.OK {
		t.Error(got, e)
	}
}

// Steps of 23 to 26 bytes at each place among others.
func TestStepLengths(t *testing.T) {
	for n := 23; n <= 26; n++ {
		for places := 1; places <= 5; places++ {
			for at := range places {
				l := slices.Repeat([]string{"s"}, places)
				l[at] = strings.Repeat("q", n)
				path := strings.Join(l, "/")
				_, _, _, e := name.Split(path)
				if (e == api.OK) != (n <= 24) {
					t.Error(path, e)
				}
				check(t, path)
				check(t, "/"+path+"/")
				check(t, path+"/..")
				check(t, strings.ReplaceAll(path, "s", ".."))
			}
		}
	}
}

// Odd names stand as steps, as they are.
func TestOddSteps(t *testing.T) {
	for _, s := range odd() {
		for _, form := range []string{"?", "/?", "?/", "a/?", "/?/a", "?/..", "?/../a", "../?/.", "/..//?"} {
			check(t, strings.ReplaceAll(form, "?", s))
		}
		steps, _, _, e := name.Split("/" + s + "/" + s)
		if !slices.Equal(steps, []string{s, s}) || e != api.OK {
			t.Errorf("%q: %q %v", s, steps, e)
		}
		if got, e := name.Clean("b/../" + s + "/"); got != s || e != api.OK {
			t.Errorf("%q: %q %v", s, got, e)
		}
	}
}

// Names, and behind them as many .. as there are, one fewer, one more: all of it goes, or one name stays, or one .. .
func TestUpAgain(t *testing.T) {
	for n := 1; n <= 47; n++ {
		down, up := strings.Repeat("/a", n), strings.Repeat("/..", n)
		for path, want := range map[string]string{
			down + up: "/", down + up[3:]: "/a", down + up + "/..": "/", down + up + "/../b": "/b",
			(down + up)[1:]: ".", (down + up[3:])[1:]: "a", (down + up + "/..")[1:]: "..", (down + up + "/../b")[1:]: "../b",
			up: "/", up[1:]: up[1:], up + "/b": "/b", (up + "/b")[1:]: up[1:] + "/b",
		} {
			if got, e := name.Clean(path); got != want || e != api.OK {
				t.Errorf("%q: %q %v, not %q", path, got, e, want)
			}
			check(t, path)
		}
	}
	check(t, strings.Repeat("/a", 48)+strings.Repeat("/..", 48))
}

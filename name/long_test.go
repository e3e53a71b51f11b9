package name_test

import (
	"math/rand"
	"slices"
	"strings"
	"testing"
	"unsafe"

	"lazaret/api"
	"lazaret/name"
)

// each: all texts of these bytes that have at most most bytes.
func each(alphabet string, most int, do func(string)) {
	level := []string{""}
	for range most + 1 {
		var next []string
		for _, s := range level {
			do(s)
			if len(s) == most {
				continue
			}
			for i := range len(alphabet) {
				next = append(next, s+alphabet[i:i+1])
			}
		}
		level = next
	}
}

// All short paths: each call is what it must be.
func TestEachShortPath(t *testing.T) {
	t.Parallel()
	n := 0
	each("a./\x00", 7, func(s string) { check(t, s); n++ })
	if n != 21845 {
		t.Error(n)
	}
	each("a./", 9, func(s string) { check(t, s) })
}

// A clean path is the shortest one of all that lead the same way, and the only one of its length.
func TestShortest(t *testing.T) {
	t.Parallel()
	way := func(s string) string {
		key := ""
		for _, from := range starts() {
			key += strings.Join(gone(from, s), "/") + "\n"
		}
		return key
	}
	shortest, absolute := map[string][]string{}, map[bool]string{false: "relative ", true: "absolute "}
	var all []string
	each("ab./", 6, func(s string) {
		x := split(s)
		if x.code != api.OK {
			return
		}
		all = append(all, s)
		key := absolute[x.absolute] + way(s)
		if l := shortest[key]; len(l) == 0 || len(l[0]) == len(s) {
			shortest[key] = append(l, s)
		}
	})
	for _, s := range all {
		got, e := name.Clean(s)
		want := shortest[absolute[split(s).absolute]+way(s)]
		if e != api.OK || len(want) != 1 || got != want[0] {
			t.Fatalf("clean %q: %q %v, not %q", s, got, e, want)
		}
	}
}

// somePath: pieces of all kinds, mostly such as may be, and mostly no more bytes than may be.
func somePath(r *rand.Rand) string {
	kinds := []string{"", ".", "..", "..", "...", "a", "b", "\xff", "\u00e9", "longer", strings.Repeat("k", 23), strings.Repeat("k", 24)}
	var l []string
	for range 1 + r.Intn(1+r.Intn(60)) {
		l = append(l, kinds[r.Intn(len(kinds))])
	}
	s := strings.Join(l, "/")
	switch r.Intn(12) {
	case 0:
		return s + strings.Repeat("k", 25)
	case 1:
		at := r.Intn(len(s) + 1)
		return s[:at] + string([]byte{byte(r.Intn(256))}) + s[at:]
	case 2:
		return s[:min(len(s), 240)]
	}
	if len(s) > 245 {
		s = s[:236+r.Intn(9)]
	}
	return s
}

// Many paths: each call is what it must be.
func TestManyPaths(t *testing.T) {
	t.Parallel()
	r := rand.New(rand.NewSource(12))
	good := 0
	for range 40000 {
		s := somePath(r)
		check(t, s)
		if split(s).code == api.OK {
			good++
		}
	}
	if good < 10000 || good > 39000 {
		t.Error(good)
	}
	for range 20000 {
		b := make([]byte, r.Intn(30))
		r.Read(b)
		check(t, string(b))
	}
}

// A list that was answered is the caller's alone.
func TestNewLists(t *testing.T) {
	for _, path := range []string{"a", "/a/b", "/a//b/./c/", "../x/..", strings.Repeat("a/", 120)} {
		one, _, _, _ := name.Split(path)
		two, _, _, _ := name.Split(path)
		kept := slices.Clone(two)
		for i := range one[:cap(one)] {
			one[:cap(one)][i] = "other"
		}
		three, _, _, e := name.Split(path)
		if !slices.Equal(two, kept) || !slices.Equal(three, kept) || e != api.OK {
			t.Errorf("%q: %q, and then %q, not %q", path, two, three, kept)
		}
		check(t, path)
	}
}

// over: a text that stands in those bytes, whatever they become.
func over(b []byte) string { return unsafe.String(unsafe.SliceData(b), len(b)) }

// What is handed in stays, and what is answered isn't a part of it.
func TestNewTexts(t *testing.T) {
	for _, path := range []string{"a", "/", ".", "..", "/a", "a/b", "/a/b", "a/", "/a//b/./c/", "a/../../b", "/../b", "...", strings.Repeat("ab/", 80), "a\x00", strings.Repeat("x", 25), ""} {
		b := []byte(path)
		x := over(b)
		steps, _, _, _ := name.Split(x)
		clean, _ := name.Clean(x)
		dir, last, _ := name.Parent(x)
		name.Valid(x)
		if string(b) != path {
			t.Errorf("%q became %q", path, b)
		}
		for i := range b {
			b[i] = '?'
		}
		if told := strings.Join(steps, "") + clean + dir + last; strings.Contains(told, "?") {
			t.Errorf("%q: %q", path, told)
		}
	}
}

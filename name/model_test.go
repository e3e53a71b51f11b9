package name_test

import (
	"slices"
	"testing"

	"lazaret/api"
	"lazaret/name"
)

// may: may a name be? By the chapter's words, byte by byte.
func may(s string) bool {
	for i := 0; i < len(s); i++ {
		if s[i] == '/' || s[i] == 0 {
			return false
		}
	}
	return s != "" && s != "." && s != ".." && len(s) <= 24
}

// parts: what there is to say of a path.
type parts struct {
	steps         []string
	absolute, dir bool
	code          api.Errno
}

// split: what Split must answer, by the chapter's words.
func split(path string) parts {
	if len(path) == 0 || len(path) > 240 {
		return parts{code: api.ErrName}
	}
	x := parts{absolute: path[0] == '/'}
	piece := ""
	end := func() bool {
		p := piece
		x.dir = p == "" || p == "." || p == ".."
		piece = ""
		if p == "" || p == "." {
			return true
		}
		x.steps = append(x.steps, p)
		return p == ".." || may(p)
	}
	for i := 0; i < len(path); i++ {
		if path[i] == 0 || path[i] == '/' && !end() {
			return parts{code: api.ErrName}
		}
		if path[i] != '/' {
			piece += path[i : i+1]
		}
	}
	if !end() {
		return parts{code: api.ErrName}
	}
	return x
}

// spelt: the path of these steps.
func spelt(steps []string, absolute bool) string {
	s := ""
	for i, p := range steps {
		if i > 0 {
			s += "/"
		}
		s += p
	}
	if absolute {
		return "/" + s
	}
	if s == "" {
		return "."
	}
	return s
}

// clean: what Clean must answer: what goes is taken away, one after the other, till nothing goes.
func clean(path string) (string, api.Errno) {
	x := split(path)
	if x.code != api.OK {
		return "", x.code
	}
	l := slices.Clone(x.steps)
	for i := 0; i < len(l); i++ {
		switch {
		case l[i] == ".." && i > 0 && l[i-1] != "..":
			l, i = slices.Delete(l, i-1, i+1), -1
		case l[i] == ".." && i == 0 && x.absolute:
			l, i = slices.Delete(l, 0, 1), -1
		}
	}
	return spelt(l, x.absolute), api.OK
}

// parent: what Parent must answer, by the chapter's words.
func parent(path string) (dir, last string, e api.Errno) {
	x := split(path)
	n := len(x.steps)
	if x.code != api.OK || n == 0 || x.steps[n-1] == ".." {
		return "", "", api.ErrName
	}
	return spelt(x.steps[:n-1], x.absolute), x.steps[n-1], api.OK
}

// gone: where a path leads from a directory on, in a tree where each name is there, and is a directory.
func gone(from []string, path string) []string {
	x := split(path)
	at := slices.Clone(from)
	if x.absolute {
		at = nil
	}
	for _, p := range x.steps {
		if p != ".." {
			at = append(at, p)
		} else if len(at) > 0 {
			at = at[:len(at)-1]
		}
	}
	return at
}

// starts: directories to begin at: the root directory, one in it, one with more directories above it than a path has steps.
func starts() [][]string {
	deep := make([]string, 130)
	for i := range deep {
		deep[i] = "d" + string(rune('0'+i%10))
	}
	return [][]string{nil, {"x"}, deep}
}

// check: each call's answer for a path is what the chapter says, and its promises hold.
func check(t *testing.T, path string) {
	t.Helper()
	want := split(path)
	steps, absolute, dir, e := name.Split(path)
	if !slices.Equal(steps, want.steps) || absolute != want.absolute || dir != want.dir || e != want.code {
		t.Fatalf("split %q: %q %v %v %v, not %q %v %v %v", path, steps, absolute, dir, e, want.steps, want.absolute, want.dir, want.code)
	}
	checkClean(t, path, want)
	checkParent(t, path, want)
	if got := name.Valid(path); got != may(path) {
		t.Fatalf("valid %q: %v", path, got)
	}
}

func checkClean(t *testing.T, path string, x parts) {
	t.Helper()
	want, code := clean(path)
	got, e := name.Clean(path)
	if got != want || e != code {
		t.Fatalf("clean %q: %q %v, not %q %v", path, got, e, want, code)
	}
	if code != api.OK {
		return
	}
	if again, e := name.Clean(got); again != got || e != api.OK {
		t.Fatalf("clean %q: %q, and of that: %q %v", path, got, again, e)
	}
	steps, absolute, _, e := name.Split(got)
	if e != api.OK || len(steps) > len(x.steps) || absolute != x.absolute || len(got) > len(path) {
		t.Fatalf("clean %q: %q, with the steps %q, absolute: %v, %v", path, got, steps, absolute, e)
	}
	for _, from := range starts() {
		if a, b := gone(from, path), gone(from, got); !slices.Equal(a, b) {
			t.Fatalf("clean %q: %q leads to %q, not to %q", path, got, b, a)
		}
	}
}

func checkParent(t *testing.T, path string, x parts) {
	t.Helper()
	wantDir, wantName, code := parent(path)
	dir, last, e := name.Parent(path)
	if dir != wantDir || last != wantName || e != code {
		t.Fatalf("parent of %q: %q %q %v, not %q %q %v", path, dir, last, e, wantDir, wantName, code)
	}
	if code != api.OK {
		return
	}
	steps, absolute, _, e := name.Split(dir)
	if e != api.OK || !slices.Equal(append(steps, last), x.steps) || absolute != x.absolute || !name.Valid(last) {
		t.Fatalf("parent of %q: %q, with the steps %q, absolute: %v, %v; and %q", path, dir, steps, absolute, e, last)
	}
}

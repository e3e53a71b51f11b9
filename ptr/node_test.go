package ptr_test

import (
	"bytes"
	"testing"

	"lazaret/api"
	"lazaret/ptr"
)

// some: pointers unlike one another, right ones.
func some() [3]api.Ptr {
	return [3]api.Ptr{
		{A: 7, B: 9, Sum: sumOf(api.Block{1})},
		{A: 4095, B: -1, Sum: sumOf(api.Block{2})},
		{A: 0, B: 4094, Sum: sumOf(api.Block{})},
	}
}

func TestNode(t *testing.T) {
	s, hole := some(), ptr.Hole()
	for _, x := range []struct {
		l    []api.Ptr
		want [3]api.Ptr
	}{
		{nil, [3]api.Ptr{hole, hole, hole}},
		{[]api.Ptr{}, [3]api.Ptr{hole, hole, hole}},
		{s[:1], [3]api.Ptr{s[0], hole, hole}},
		{s[:2], [3]api.Ptr{s[0], s[1], hole}},
		{s[:], s},
		{[]api.Ptr{hole, s[1]}, [3]api.Ptr{hole, s[1], hole}},
		{[]api.Ptr{s[2], hole, s[2]}, [3]api.Ptr{s[2], hole, s[2]}},
		{[]api.Ptr{hole, hole, hole}, [3]api.Ptr{hole, hole, hole}},
	} {
		b, e := ptr.Node(x.l...)
		want := bytes.Join([][]byte{bytesOf(x.want[0]), bytesOf(x.want[1]), bytesOf(x.want[2]), make([]byte, 8)}, nil)
		if e != api.OK || !bytes.Equal(b[:], want) {
			t.Errorf("node of %v: %v %x, not %x", x.l, e, b, want)
		}
		if l, e := ptr.Parts(b); e != api.OK || l != x.want {
			t.Errorf("parts of the node of %v: %v %v", x.l, l, e)
		}
		checkNode(t, x.l...)
	}
	if b, e := ptr.Node(); e != api.OK || b != laid() {
		t.Errorf("node of nothing: %x %v", b, e)
	}
}

// More pointers than there is room for: whether they are holes or not, right or not.
func TestNodeOfTooMany(t *testing.T) {
	s := some()
	for _, p := range []api.Ptr{s[0], ptr.Hole(), {}} {
		for _, n := range []int{4, 5, 6, 100, 100000} {
			l := make([]api.Ptr, n)
			for i := range l {
				l[i] = p
			}
			if b, e := ptr.Node(l...); e != api.ErrArg || b != (api.Block{}) {
				t.Errorf("node of %d: %v, or bytes", n, e)
			}
		}
	}
	checkNode(t, s[0], s[1], s[2], s[0])
	checkNode(t, s[0], s[1], s[2], ptr.Hole())
	checkNode(t, s[0], s[1], s[2], api.Ptr{})
}

// One that isn't right, alone, and at each place among others.
func TestNodeOfWrongOnes(t *testing.T) {
	s := some()
	for _, p := range wrongs() {
		for _, l := range [][]api.Ptr{
			{p}, {p, s[1]}, {s[0], p}, {p, s[1], s[2]}, {s[0], p, s[2]}, {s[0], s[1], p}, {p, p, p}, {ptr.Hole(), ptr.Hole(), p}, {s[0], s[1], s[2], p}, {p, s[0], s[1], s[2]},
		} {
			if b, e := ptr.Node(l...); e != api.ErrArg || b != (api.Block{}) {
				t.Errorf("node of %v: %v, or bytes", l, e)
			}
			checkNode(t, l...)
		}
	}
}

// What isn't right isn't taken either, though its bytes stand there.
func TestPartsOfWrongOnes(t *testing.T) {
	s := some()
	for _, p := range wrongs() {
		if wide(p) {
			continue
		}
		for _, l := range [][]api.Ptr{{p, s[1], s[2]}, {s[0], p, s[2]}, {s[0], s[1], p}, {p, p, p}, {p}, {ptr.Hole(), p}, {ptr.Hole(), ptr.Hole(), p}} {
			if got, e := ptr.Parts(laid(l...)); e != api.ErrForm || got != [3]api.Ptr{} {
				t.Errorf("parts of %v: %v %v", l, got, e)
			}
		}
	}
	for _, b := range []api.Block{{}, {1}, {127: 1}, api.Block(pattern(128)), api.Block(bytes.Repeat([]byte{255}, 128))} {
		if got, e := ptr.Parts(b); e != api.ErrForm || got != [3]api.Ptr{} {
			t.Errorf("parts of %x: %v %v", b, got, e)
		}
	}
}

// Of a block each byte is another one: what is taken is what stands there, and behind the pointers nothing else than 0 is.
func TestEachByteOfANode(t *testing.T) {
	s := some()
	for _, l := range [][]api.Ptr{nil, s[:1], s[:], {ptr.Hole(), s[2]}} {
		was, _ := ptr.Node(l...)
		for i, b := range changed(was) {
			checkParts(t, b)
			got, e := ptr.Parts(b)
			if place := i / 255; place >= 120 && e != api.ErrForm {
				t.Fatalf("%v: byte %d isn't 0: %v %v", l, place, got, e)
			}
			if back, f := ptr.Node(got[:]...); e == api.OK && (f != api.OK || back != b) {
				t.Fatalf("%x is taken as %v, and laid as %x %v", b, got, back, f)
			}
		}
	}
}

// P5.2: what is laid as a node is taken as it was, whatever right pointers these are.
func TestNodesThereAndBack(t *testing.T) {
	l := rights()
	for i, p := range l {
		for j, q := range l {
			three := [3]api.Ptr{p, q, l[(7*i+3*j)%len(l)]}
			b, e := ptr.Node(three[:]...)
			if e != api.OK || b != laid(three[:]...) {
				t.Errorf("node of %v: %x %v", three, b, e)
			}
			if got, e := ptr.Parts(b); e != api.OK || got != three {
				t.Errorf("%v are taken as %v %v", three, got, e)
			}
		}
	}
}

// What was handed out, or handed in elsewhere, stays, whatever becomes of it on the other side.
func TestNothingIsShared(t *testing.T) {
	s := some()
	l := s[:2:3]
	b, _ := ptr.Node(l...)
	if s != some() {
		t.Error("node: the pointers, or those behind them, are other ones")
	}
	first, _ := ptr.Parts(b)
	second, _ := ptr.Parts(b)
	first[0], first[1] = api.Ptr{A: 1}, api.Ptr{A: 2}
	l[0], l[1] = api.Ptr{A: 3}, api.Ptr{A: 4}
	want := [3]api.Ptr{some()[0], some()[1], ptr.Hole()}
	if got, e := ptr.Parts(b); e != api.OK || got != want || second != want {
		t.Errorf("behind a change elsewhere: %v, %v, %v", got, second, e)
	}
	raw := bytesOf(some()[0])
	p, _ := ptr.Take(raw, 0)
	clear(raw)
	if p != some()[0] {
		t.Errorf("behind a change of the bytes: %v", p)
	}
	if e := ptr.Put(raw, 0, p); e != api.OK {
		t.Error(e)
	}
	raw[8] ^= 1
	if p != some()[0] {
		t.Errorf("behind a change of what was put: %v", p)
	}
}

// An answer hangs on the arguments alone, whatever was asked ahead of it.
func TestNothingIsKept(t *testing.T) {
	s := some()
	first, _ := ptr.Node(s[:]...)
	for i, p := range append(rights(), wrongs()...) {
		ptr.Put(make([]byte, 40), 0, p)
		ptr.Take(bytesOf(p), 0)
		ptr.Of(api.Block{byte(i)}, i, i+1)
		ptr.Fits(p, api.Block{byte(i)})
		ptr.Node(p, p)
		ptr.Parts(laid(p, p, p))
		b, e := ptr.Node(s[:]...)
		l, f := ptr.Parts(first)
		q, g := ptr.Of(api.Block{1}, 7, 9)
		if b != first || e != api.OK || l != s || f != api.OK || q != s[0] || g != api.OK || !ptr.Fits(q, api.Block{1}) || ptr.Hole() != (api.Ptr{A: -1, B: -1}) {
			t.Fatalf("behind %v: another answer", p)
		}
	}
}

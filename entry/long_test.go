package entry_test

import (
	"math/rand"
	"slices"
	"testing"

	"lazaret/api"
	"lazaret/entry"
)

// Long ways of calls, by chance.

// text: a name that may be, by chance.
func text(r *rand.Rand) string {
	for {
		b := make([]byte, 1+r.Intn(3))
		if r.Intn(5) == 0 {
			b = make([]byte, 1+r.Intn(24))
		}
		for i := range b {
			b[i] = byte(r.Intn(256))
			if r.Intn(2) == 0 {
				b[i] = "ab.\x7f\x80\xff"[r.Intn(6)]
			}
		}
		if may(string(b)) {
			return string(b)
		}
	}
}

// random: so many right entries.
func random(r *rand.Rand, n int) []api.Entry {
	var l []api.Entry
	for len(l) < n {
		if s := text(r); !slices.Contains(namesIn(l), s) {
			l = append(l, api.Entry{Name: s, Node: 1 + r.Intn(64)})
		}
	}
	return sorted(l)
}

// What is put is taken as it was; what is taken is put as it was.
func TestThereAndBack(t *testing.T) {
	t.Parallel()
	r := rand.New(rand.NewSource(1))
	for range 3000 {
		l := random(r, r.Intn(41))
		put := check(t, l, putting())
		if put.e != api.OK {
			t.Fatal(said(l), put.e)
		}
		if got := checkTake(t, put.b); got.e != api.OK || !slices.Equal(got.l, l) {
			t.Fatalf("%s: put, and taken as %s, %v", said(l), said(got.l), got.e)
		}
	}
}

// Entries come and go, and are held against a plain list, up to as many as there may be.
func TestLongWays(t *testing.T) {
	t.Parallel()
	r := rand.New(rand.NewSource(2))
	told := map[api.Errno]int{}
	for range 12 {
		pool := namesIn(random(r, 70))
		var l []api.Entry
		plain := map[string]int{}
		for step := range 600 {
			name, node := pool[r.Intn(len(pool))], 1+r.Intn(64)
			if r.Intn(30) == 0 {
				name = badNames()[r.Intn(len(badNames()))]
			}
			if r.Intn(30) == 0 {
				node = badNodes()[r.Intn(len(badNodes()))]
			}
			c := adding(name, node)
			if r.Intn(10) < 3+step/200 {
				c = removing(name)
			}
			got := check(t, l, c)
			told[got.e]++
			if got.e == api.OK {
				l = got.l
				if _, there := plain[name]; there {
					delete(plain, name)
				} else {
					plain[name] = node
				}
			}
			agree(t, l, plain)
			check(t, l, naming(node))
			check(t, l, finding(name))
		}
	}
	for _, e := range []api.Errno{api.OK, api.ErrArg, api.ErrName, api.ErrNoEnt, api.ErrExist, api.ErrMany} {
		if told[e] == 0 {
			t.Errorf("no call was answered with %v", e)
		}
	}
}

// agree: the entries are right, and those of the plain map.
func agree(t *testing.T, l []api.Entry, plain map[string]int) {
	t.Helper()
	if len(l) != len(plain) || !entry.Right(l) {
		t.Fatalf("%s, of %d", said(l), len(plain))
	}
	for name, node := range plain {
		if n, e := entry.Find(l, name); n != node || e != api.OK {
			t.Fatalf("%q: %d %v, not %d", name, n, e, node)
		}
	}
}

// Whatever order names come in, and go in: it's the same entries.
func TestAllOrders(t *testing.T) {
	t.Parallel()
	names := []string{"a", "ab", "b", "\x80", ".a"}
	var orders [][]int
	var order func(l []int)
	order = func(l []int) {
		if len(l) == len(names) {
			orders = append(orders, slices.Clone(l))
		}
		for i := range names {
			if !slices.Contains(l, i) {
				order(append(l, i))
			}
		}
	}
	order(nil)
	var want []api.Entry
	for _, come := range orders {
		var l []api.Entry
		for _, i := range come {
			l = check(t, l, adding(names[i], i+1)).l
		}
		if want == nil {
			want = l
		}
		if !slices.Equal(l, want) || len(l) != 5 {
			t.Fatalf("%v: %s, not %s", come, said(l), said(want))
		}
		for k, i := range come {
			l = check(t, l, removing(names[i])).l
			if len(l) != 4-k {
				t.Fatalf("%v: %s", come, said(l))
			}
		}
	}
	if len(orders) != 120 {
		t.Error(len(orders))
	}
}

// Entries of any kind, right or not: each call is what it must be.
func TestByChance(t *testing.T) {
	t.Parallel()
	r := rand.New(rand.NewSource(3))
	names, nodes := append(goodNames(), badNames()...), append(goodNodes(), badNodes()...)
	isRight := 0
	for range 4000 {
		l := random(r, r.Intn(44))
		for range r.Intn(3) {
			if len(l) == 0 {
				break
			}
			i := r.Intn(len(l))
			switch r.Intn(6) {
			case 0:
				l[i].Name = names[r.Intn(len(names))]
			case 1:
				l[i].Node = nodes[r.Intn(len(nodes))]
			case 2:
				j := r.Intn(len(l))
				l[i], l[j] = l[j], l[i]
			case 3:
				l[i].Name = l[r.Intn(len(l))].Name
			case 4:
				l = slices.Insert(l, i, l[i])
			}
		}
		if right(l) {
			isRight++
		}
		name, node := names[r.Intn(len(names))], nodes[r.Intn(len(nodes))]
		if len(l) > 0 && r.Intn(2) == 0 {
			x := l[r.Intn(len(l))]
			name, node = x.Name, x.Node
		}
		checkAll(t, l, []string{name, text(r)}, []int{node, 1 + r.Intn(64)})
	}
	if isRight < 500 || isRight > 3500 {
		t.Error(isRight)
	}
}

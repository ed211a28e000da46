package diff_test

import (
	"maps"
	"math/rand"
	"slices"
	"strings"
	"testing"

	"guilloche/api"
	"guilloche/canon"
	"guilloche/diff"
	"guilloche/node"
	"guilloche/rlp"
	"guilloche/sha"
	"guilloche/store"
	"guilloche/trie"
)

func e(key, value string) api.Entry { return api.Entry{Key: key, Value: value} }

func put(key, value string) api.Change { return api.Change{Key: key, Value: value} }

func gone(key string) api.Change { return api.Change{Key: key, Gone: true} }

func long(b byte) string { return strings.Repeat(string([]byte{b}), 40) }

// hold adds a map to a store.
func hold(t *testing.T, s *store.Store, l []api.Entry) string {
	t.Helper()
	nodes, err := canon.Nodes(l)
	if err != api.OK {
		t.Fatal(err)
	}
	root, err := s.Add(nodes)
	if err != api.OK {
		t.Fatal(err)
	}
	return root
}

func someKey(r *rand.Rand) string {
	k := make([]byte, 1+r.Intn(4))
	for i := range k {
		k[i] = "aab\x00\x10\xff"[r.Intn(6)]
	}
	return string(k)
}

func someMap(r *rand.Rand, n int) []api.Entry {
	m := map[string]string{}
	for range n {
		m[someKey(r)] = strings.Repeat("v", 1+r.Intn(60))
	}
	var l []api.Entry
	for _, k := range slices.Sorted(maps.Keys(m)) {
		l = append(l, e(k, m[k]))
	}
	return l
}

// near is a map that is a little otherwise.
func near(r *rand.Rand, l []api.Entry) []api.Entry {
	var c []api.Change
	for range r.Intn(5) {
		key := someKey(r)
		if len(l) > 0 && r.Intn(2) == 0 {
			key = l[r.Intn(len(l))].Key
		}
		if r.Intn(2) == 0 {
			c = append(c, gone(key))
		} else {
			c = append(c, put(key, strings.Repeat("w", 1+r.Intn(60))))
		}
	}
	next, _ := canon.Apply(l, c)
	return next
}

func freshOf(a, b []api.Entry) []string {
	old, _ := canon.Nodes(a)
	all, _ := canon.Nodes(b)
	var hashes []string
	for _, text := range all {
		if !slices.Contains(old, text) {
			hashes = append(hashes, sha.Of(text))
		}
	}
	slices.Sort(hashes)
	return hashes
}

func TestOfAndFresh(t *testing.T) {
	r := rand.New(rand.NewSource(1))
	for i := range 400 {
		a := someMap(r, i%36)
		b := someMap(r, (i*5)%36)
		if i%4 > 0 {
			b = near(r, a)
		}
		s := store.New(500)
		one, other := hold(t, s, a), hold(t, s, b)
		hashes := s.Hashes()
		c, err := diff.Of(s, one, other)
		if want := canon.Diff(a, b); !slices.Equal(c, want) || err != api.OK {
			t.Fatalf("Of(%v, %v) = %v, %v; want %v", a, b, c, err, want)
		}
		fresh, err := diff.Fresh(s, one, other)
		if want := freshOf(a, b); !slices.Equal(fresh, want) || err != api.OK {
			t.Fatalf("Fresh(%v, %v) = %x, %v; want %x", a, b, fresh, err, want)
		}
		// What it tells makes one of the other.
		if err := diff.Makes(s, one, c, other); err != api.OK {
			t.Fatalf("Makes of %v: %v", c, err)
		}
		undo, err := diff.Undo(s, one, c)
		if want := canon.Diff(b, a); !slices.Equal(undo, want) || err != api.OK {
			t.Fatalf("Undo of %v: %v, %v; want %v", c, undo, err, want)
		}
		if err := diff.Makes(s, other, undo, one); err != api.OK {
			t.Fatalf("Makes of %v: %v", undo, err)
		}
		if !slices.Equal(hashes, s.Hashes()) {
			t.Fatal("the store was changed")
		}
	}
}

func TestOfItself(t *testing.T) {
	s := store.New(100)
	for _, l := range [][]api.Entry{nil, {e("a", "1")}, {e("a", long('1')), e("ab", long('2')), e("b", long('3'))}} {
		root := hold(t, s, l)
		if c, err := diff.Of(s, root, root); len(c) != 0 || err != api.OK {
			t.Error(c, err)
		}
		if fresh, err := diff.Fresh(s, root, root); len(fresh) != 0 || err != api.OK {
			t.Error(fresh, err)
		}
		if err := diff.Makes(s, root, nil, root); err != api.OK {
			t.Error(err)
		}
		if c, err := diff.Undo(s, root, nil); len(c) != 0 || err != api.OK {
			t.Error(c, err)
		}
	}
}

// The same value at another key, parts that moved, a value above others: nothing of these is alike.
func TestWhatMoved(t *testing.T) {
	for i, x := range [][2][]api.Entry{
		{{e("a1", long('x')), e("a2", long('y'))}, {e("b1", long('x')), e("b2", long('y'))}},
		{{e("a1", long('x')), e("a2", long('y'))}, {e("a1", long('y')), e("a2", long('x'))}},
		{{e("a", long('x'))}, {e("a", long('x')), e("ab", long('x'))}},
		{{e("a", long('x')), e("ab", long('y')), e("ac", long('z'))}, {e("ab", long('y')), e("ac", long('z'))}},
		{{e("ab", long('y')), e("ac", long('z'))}, {e("a", long('x')), e("ab", long('y')), e("ac", long('z'))}},
		{{e("abcdef", long('y'))}, {e("abcdef", long('y')), e("abc", long('y')), e("\xabcdef", long('y'))}},
		{nil, {e("a", "1"), e("b", "2")}},
		{{e("a", "1"), e("b", "2")}, nil},
		{{e("aa", "1"), e("ab", "2"), e("b", "3")}, {e("aa", "1"), e("ab", "9"), e("b", "3")}},
	} {
		s := store.New(100)
		for _, l := range x {
			slices.SortFunc(l, func(a, b api.Entry) int { return strings.Compare(a.Key, b.Key) })
		}
		one, other := hold(t, s, x[0]), hold(t, s, x[1])
		if c, err := diff.Of(s, one, other); !slices.Equal(c, canon.Diff(x[0], x[1])) || err != api.OK {
			t.Error(i, c, err)
		}
		if fresh, err := diff.Fresh(s, one, other); !slices.Equal(fresh, freshOf(x[0], x[1])) || err != api.OK {
			t.Error(i, len(fresh), err)
		}
	}
}

func TestMakes(t *testing.T) {
	s := store.New(100)
	l := []api.Entry{e("a", "1"), e("b", "2")}
	root := hold(t, s, l)
	// The other one need not be in the store.
	want, _ := canon.Root([]api.Entry{e("b", "2"), e("c", "3")})
	if err := diff.Makes(s, root, []api.Change{put("c", "3"), gone("a"), gone("x")}, want); err != api.OK {
		t.Error(err)
	}
	for i, other := range []string{root, "", trie.Empty(), want[:31], want + "x"} {
		if err := diff.Makes(s, root, []api.Change{put("c", "3"), gone("a")}, other); err != api.ErrNone {
			t.Error(i, err)
		}
	}
	if err := diff.Makes(s, root, []api.Change{gone("a"), gone("b")}, trie.Empty()); err != api.OK {
		t.Error(err)
	}
}

func TestUndo(t *testing.T) {
	s := store.New(100)
	root := hold(t, s, []api.Entry{e("a", "1"), e("b", "2")})
	c, err := diff.Undo(s, root, []api.Change{gone("a"), put("b", "9"), put("c", "3"), put("d", "4"), gone("d"), put("x", "1")})
	want := []api.Change{put("a", "1"), put("b", "2"), gone("c"), gone("x")}
	if !slices.Equal(c, want) || err != api.OK {
		t.Error(c, err)
	}
	// What changes nothing has nothing to be undone.
	if c, err := diff.Undo(s, root, []api.Change{gone("x"), put("a", "1")}); len(c) != 0 || err != api.OK {
		t.Error(c, err)
	}
}

func TestErrors(t *testing.T) {
	s := store.New(100)
	root := hold(t, s, []api.Entry{e("a", "1")})
	none := trie.Empty()
	for i, x := range []struct {
		s    *store.Store
		a, b string
	}{{nil, root, root}, {store.New(5), root, root}, {s, none, root}, {s, root, none}, {s, none, none}, {s, "", root}, {s, root, root + "x"}} {
		if c, err := diff.Of(x.s, x.a, x.b); len(c) != 0 || err != api.ErrRoot {
			t.Error(i, c, err)
		}
		if fresh, err := diff.Fresh(x.s, x.a, x.b); len(fresh) != 0 || err != api.ErrRoot {
			t.Error(i, fresh, err)
		}
		if x.s == s && x.a == root {
			continue
		}
		// That there is no such root is told ahead of what is wrong with changes.
		for _, c := range [][]api.Change{nil, {{}}} {
			if err := diff.Makes(x.s, x.a, c, x.b); err != api.ErrRoot {
				t.Error(i, err)
			}
			if c, err := diff.Undo(x.s, x.a, c); len(c) != 0 || err != api.ErrRoot {
				t.Error(i, c, err)
			}
		}
	}
	var many []api.Change
	for i := range 40 {
		many = append(many, put(string([]byte{'k', byte(i)}), "v"))
	}
	for i, x := range []struct {
		c   []api.Change
		err api.Errno
	}{{[]api.Change{{}}, api.ErrArg}, {[]api.Change{put("b", "1"), put("a", "")}, api.ErrArg}, {[]api.Change{{Key: "a", Value: "1", Gone: true}}, api.ErrArg}, {many, api.ErrMany}, {append(many[:39:39], gone("")), api.ErrArg}} {
		if err := diff.Makes(s, root, x.c, root); err != x.err {
			t.Error(i, err)
		}
		if c, err := diff.Undo(s, root, x.c); len(c) != 0 || err != x.err {
			t.Error(i, c, err)
		}
	}
}

// Nodes that each refer sixteen times to the one below are no map's trie; all ends.
func TestRootsOfNoMapEnd(t *testing.T) {
	s := store.New(1000)
	var roots []string
	for _, high := range []int{2, 12, 13, 200} {
		nodes := []string{"\xc2\x31v"}
		for range high {
			n := api.Node{Kind: api.Branch}
			for i := range n.Refs {
				n.Refs[i] = rlp.Text(sha.Of(nodes[0]))
			}
			text, _ := node.Put(n)
			nodes = append([]string{text}, nodes...)
		}
		root, err := s.Add(nodes)
		if err != api.OK {
			t.Fatal(err)
		}
		roots = append(roots, root)
	}
	roots = append(roots, hold(t, s, []api.Entry{e("a", "1")}))
	for _, a := range roots {
		for _, b := range roots {
			diff.Of(s, a, b)
			diff.Fresh(s, a, b)
		}
		diff.Makes(s, a, []api.Change{put("a", "1")}, a)
		diff.Undo(s, a, []api.Change{put("a", "1")})
	}
}

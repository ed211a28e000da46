package trie_test

import (
	"maps"
	"math/rand"
	"slices"
	"strings"
	"testing"

	"guilloche/api"
	"guilloche/canon"
	"guilloche/nibble"
	"guilloche/node"
	"guilloche/rlp"
	"guilloche/sha"
	"guilloche/store"
	"guilloche/trie"
)

func e(key, value string) api.Entry { return api.Entry{Key: key, Value: value} }

func put(key, value string) api.Change { return api.Change{Key: key, Value: value} }

func gone(key string) api.Change { return api.Change{Key: key, Gone: true} }

func long(b byte) string { return strings.Repeat(string([]byte{b}), 40) }

// stored is a store that has a map, and its root.
func stored(t *testing.T, l ...api.Entry) (*store.Store, string) {
	t.Helper()
	s := store.New(500)
	return s, hold(t, s, l)
}

func hold(t *testing.T, s *store.Store, l []api.Entry) string {
	t.Helper()
	nodes, err := canon.Nodes(l)
	if err != api.OK {
		t.Fatal(err)
	}
	root, err := s.Add(nodes)
	if err != api.OK {
		t.Fatal(err)
	}
	return root
}

// someKey is one of keys that have much in common.
func someKey(r *rand.Rand) string {
	k := make([]byte, 1+r.Intn(4))
	for i := range k {
		k[i] = "aab\x00\x10\xff"[r.Intn(6)]
	}
	return string(k)
}

func someMap(r *rand.Rand, n int) []api.Entry {
	m := map[string]string{}
	for range n {
		m[someKey(r)] = strings.Repeat("v", 1+r.Intn(60))
	}
	var l []api.Entry
	for _, k := range slices.Sorted(maps.Keys(m)) {
		l = append(l, e(k, m[k]))
	}
	return l
}

func someChanges(r *rand.Rand, l []api.Entry) []api.Change {
	var c []api.Change
	for range r.Intn(8) {
		key := someKey(r)
		if len(l) > 0 && r.Intn(2) == 0 {
			key = l[r.Intn(len(l))].Key
		}
		if r.Intn(2) == 0 {
			c = append(c, gone(key))
		} else {
			c = append(c, put(key, strings.Repeat("w", 1+r.Intn(60))))
		}
	}
	return c
}

func TestExample(t *testing.T) {
	s, root := stored(t)
	for _, c := range [][]api.Change{{put("a", "1")}, {put("b", "2")}, {gone("a")}} {
		next, err := trie.Commit(s, root, c)
		if err != api.OK {
			t.Fatal(err)
		}
		root = next
	}
	if want, _ := canon.Root([]api.Entry{e("b", "2")}); root != want {
		t.Errorf("%x; want %x", root, want)
	}
}

func TestEmpty(t *testing.T) {
	if trie.Empty() != sha.Of("\x80") {
		t.Errorf("%x", trie.Empty())
	}
	s, root := stored(t)
	if root != trie.Empty() {
		t.Error("the root of no entries is another one")
	}
	if all, err := trie.All(s, root); len(all) != 0 || err != api.OK {
		t.Error(all, err)
	}
	if v, err := trie.Get(s, root, "a"); v != "" || err != api.ErrNone {
		t.Error(v, err)
	}
	if nodes, err := trie.Path(s, root, "a"); !slices.Equal(nodes, []string{"\x80"}) || err != api.OK {
		t.Error(nodes, err)
	}
}

func TestNoRoot(t *testing.T) {
	held, root := stored(t, e("a", "1"))
	for i, x := range []struct {
		s    *store.Store
		root string
	}{{nil, trie.Empty()}, {nil, ""}, {nil, root}, {store.New(9), trie.Empty()}, {store.New(9), root}, {held, trie.Empty()}, {held, ""}, {held, root[1:]}, {held, root + "x"}} {
		if v, err := trie.Get(x.s, x.root, "a"); v != "" || err != api.ErrRoot {
			t.Error(i, v, err)
		}
		if all, err := trie.All(x.s, x.root); len(all) != 0 || err != api.ErrRoot {
			t.Error(i, all, err)
		}
		if nodes, err := trie.Path(x.s, x.root, "a"); len(nodes) != 0 || err != api.ErrRoot {
			t.Error(i, nodes, err)
		}
		// That there is no such root is told ahead of what is wrong with changes.
		for _, c := range [][]api.Change{nil, {{}}} {
			if nodes, err := trie.Update(x.s, x.root, c); len(nodes) != 0 || err != api.ErrRoot {
				t.Error(i, nodes, err)
			}
			if root, err := trie.Commit(x.s, x.root, c); root != "" || err != api.ErrRoot {
				t.Error(i, root, err)
			}
		}
	}
}

func TestGetAndAll(t *testing.T) {
	r := rand.New(rand.NewSource(1))
	for i := range 300 {
		l := someMap(r, i%40)
		s, root := stored(t, l...)
		if all, err := trie.All(s, root); !slices.Equal(all, l) || err != api.OK {
			t.Fatalf("All = %v, %v; want %v", all, err, l)
		}
		keys := []string{"", "x", "aaaaaaaaaaaaaaaaaaaaaa", "\x00", strings.Repeat("\xff", 300)}
		for _, x := range l {
			keys = append(keys, x.Key, x.Key+"a", x.Key+"\x00", x.Key[:len(x.Key)-1], x.Key[:len(x.Key)-1]+"\x1f")
		}
		for _, key := range keys {
			want, in := canon.Find(l, key)
			err := api.OK
			if !in {
				err = api.ErrNone
			}
			if v, got := trie.Get(s, root, key); v != want || got != err {
				t.Fatalf("Get(%x) of %v = %q, %v", key, l, v, got)
			}
		}
	}
}

// met are the nodes on the way to some nibbles, from bytes that are looked for among all nodes.
func met(all []string, text, path string) []string {
	var way []string
	n, _ := node.Get(text)
	if len(text) >= 32 {
		way = []string{text}
	}
	ref := ""
	switch {
	case n.Kind == api.Branch && path != "":
		ref, path = n.Refs[path[0]], path[1:]
	case n.Kind == api.Ext && strings.HasPrefix(path, n.Path):
		ref, path = n.Refs[0], path[len(n.Path):]
	}
	if ref == "" {
		return way
	}
	for _, next := range all {
		if node.Ref(next) == ref {
			return append(way, met(all, next, path)...)
		}
	}
	return append(way, met(all, ref, path)...)
}

func TestPath(t *testing.T) {
	r := rand.New(rand.NewSource(2))
	for i := range 200 {
		l := someMap(r, i%40)
		s, root := stored(t, l...)
		all, _ := canon.Nodes(l)
		keys := []string{"", "b", "zzzzzzzzzzz", "a\x01", strings.Repeat("a", 40)}
		for _, x := range l {
			keys = append(keys, x.Key, x.Key+"aaaaaaaaa", x.Key[:len(x.Key)-1]+"\x1f")
		}
		for _, key := range keys {
			want := met(all, all[0], nibble.Path(key))
			if len(all[0]) < 32 {
				// The root's is told, however small it is.
				want = append([]string{all[0]}, want...)
			}
			if got, err := trie.Path(s, root, key); !slices.Equal(got, want) || err != api.OK {
				t.Fatalf("Path(%x) of %v = %x, %v; want %x", key, l, got, err, want)
			}
		}
	}
}

// What ends the way is met, too: a Leaf of another path, and an Ext that does not lead on.
func TestPathMeetsWhatEndsIt(t *testing.T) {
	l := []api.Entry{e("ab1", long('x')), e("ab2", long('y'))}
	s, root := stored(t, l...)
	all, _ := canon.Nodes(l)
	for _, x := range []struct {
		key  string
		want []string
	}{
		{"ab1", all[:3]}, {"ab2", []string{all[0], all[1], all[3]}}, {"ab3", all[:2]}, {"ab1z", all[:3]}, {"ab", all[:1]}, {"b", all[:1]}, {"", all[:1]}, {"ab\x31", all[:3]},
	} {
		if got, err := trie.Path(s, root, x.key); !slices.Equal(got, x.want) || err != api.OK {
			t.Errorf("Path(%q): %d nodes, %v; want %d", x.key, len(got), err, len(x.want))
		}
	}
}

// updated is what Update must tell.
func updated(t *testing.T, s *store.Store, l []api.Entry) []string {
	t.Helper()
	all, err := canon.Nodes(l)
	if err != api.OK {
		t.Fatal(err)
	}
	return append(all[:1:1], slices.DeleteFunc(slices.Clone(all[1:]), func(text string) bool {
		_, ok := s.Get(sha.Of(text))
		return ok
	})...)
}

func TestUpdateAndCommit(t *testing.T) {
	r := rand.New(rand.NewSource(3))
	for range 60 {
		l := someMap(r, r.Intn(20))
		s, root := stored(t, l...)
		for range 12 {
			c := someChanges(r, l)
			before := slices.Clone(c)
			next, bad := canon.Apply(l, c)
			if bad != api.OK {
				t.Fatal(bad)
			}
			hashes := s.Hashes()
			want := updated(t, s, next)
			nodes, err := trie.Update(s, root, c)
			if !slices.Equal(nodes, want) || err != api.OK {
				t.Fatalf("Update of %v by %v: %x, %v; want %x", l, c, nodes, err, want)
			}
			if !slices.Equal(hashes, s.Hashes()) || !slices.Equal(c, before) {
				t.Fatal("Update changed something")
			}
			newRoot, err := trie.Commit(s, root, c)
			if newRoot != sha.Of(want[0]) || err != api.OK {
				t.Fatalf("Commit: %x, %v", newRoot, err)
			}
			if all, err := trie.All(s, newRoot); !slices.Equal(all, next) || err != api.OK {
				t.Fatalf("All = %v, %v; want %v", all, err, next)
			}
			// At times just the new map is left in the store.
			if r.Intn(2) == 0 {
				s.Drop(root)
			}
			l, root = next, newRoot
		}
	}
}

func TestUpdateTellsTheTopOnce(t *testing.T) {
	l := []api.Entry{e("a1", long('x')), e("a2", long('x'))}
	s, root := stored(t, l...)
	all, _ := canon.Nodes(l)
	for _, c := range [][]api.Change{nil, {put("a1", long('x'))}, {gone("b")}, {put("c", "1"), gone("c")}} {
		if nodes, err := trie.Update(s, root, c); !slices.Equal(nodes, all[:1]) || err != api.OK {
			t.Errorf("%v: %d nodes, %v", c, len(nodes), err)
		}
	}
	// A leaf that stands twice is told once.
	s, root = stored(t)
	if nodes, err := trie.Update(s, root, []api.Change{put("a1", long('x')), put("b1", long('x'))}); len(nodes) != 3 || err != api.OK {
		t.Error(len(nodes), err)
	}
	if nodes, err := trie.Update(s, root, nil); !slices.Equal(nodes, []string{"\x80"}) || err != api.OK {
		t.Error(nodes, err)
	}
}

// What a branch leaves when one thing alone is left of it, in all shapes.
func TestWhatIsLeftOfABranch(t *testing.T) {
	for i, x := range []struct {
		l []api.Entry
		c []api.Change
	}{
		{[]api.Entry{e("a", "1"), e("b", "2")}, []api.Change{gone("a")}},
		{[]api.Entry{e("a", "1"), e("ab", "2")}, []api.Change{gone("ab")}},
		{[]api.Entry{e("a", "1"), e("ab", "2")}, []api.Change{gone("a")}},
		{[]api.Entry{e("a", long('1')), e("bb1", long('2')), e("bb2", long('3'))}, []api.Change{gone("a")}},
		{[]api.Entry{e("a", long('1')), e("q", long('2')), e("r", long('3'))}, []api.Change{gone("a")}},
		{[]api.Entry{e("a", "1"), e("bb1", "2"), e("bb2", "3")}, []api.Change{gone("a")}},
		{[]api.Entry{e("xa", long('1')), e("xbb1", long('2')), e("xbb2", long('3'))}, []api.Change{gone("xa")}},
		{[]api.Entry{e("xa", long('1')), e("xbb1", long('2')), e("xbb2", long('3'))}, []api.Change{gone("xbb1"), gone("xbb2")}},
		{[]api.Entry{e("xa", long('1')), e("xb", long('2'))}, []api.Change{gone("xa"), gone("xb"), put("y", "1")}},
		{[]api.Entry{e("xa", long('1')), e("xb", long('2'))}, []api.Change{put("x", "1")}},
		{[]api.Entry{e("xa", long('1')), e("xb", long('2'))}, []api.Change{put("\x71", "1"), put("xabcde", "2"), put("yabcde", "2")}},
		{[]api.Entry{e("abcdef", "1")}, []api.Change{put("abcdeg", "2"), put("abc", "3")}},
		{nil, []api.Change{put("abcdef", long('1')), put("\xff\xff\xff\xff\xff\xff", long('1'))}},
	} {
		s, root := stored(t, x.l...)
		want, err := canon.Apply(x.l, x.c)
		if err != api.OK {
			t.Fatal(err)
		}
		wanted, _ := canon.Root(want)
		if got, err := trie.Commit(s, root, x.c); got != wanted || err != api.OK {
			t.Errorf("%d: %x, %v; want %x", i, got, err, wanted)
		}
	}
}

func TestWrongChanges(t *testing.T) {
	l := []api.Entry{e("a", "1")}
	s, root := stored(t, l...)
	for i, c := range []api.Change{{}, put("", "1"), put("a", ""), put("abcdefg", "1"), put("a", strings.Repeat("v", 81)), gone(""), {Key: "a", Value: "1", Gone: true}} {
		if nodes, err := trie.Update(s, root, []api.Change{put("b", "1"), c}); len(nodes) != 0 || err != api.ErrArg {
			t.Error(i, nodes, err)
		}
		if got, err := trie.Commit(s, root, []api.Change{put("b", "1"), c}); got != "" || err != api.ErrArg {
			t.Error(i, got, err)
		}
	}
	var many []api.Change
	for i := range 40 {
		many = append(many, put(string([]byte{'k', byte(i)}), "v"))
	}
	if nodes, err := trie.Update(s, root, many); len(nodes) != 0 || err != api.ErrMany {
		t.Error(len(nodes), err)
	}
	if got, err := trie.Commit(s, root, many); got != "" || err != api.ErrMany {
		t.Error(got, err)
	}
	if got, err := trie.Commit(s, root, append(many, gone("a"))); len(got) != 32 || err != api.OK {
		t.Error(got, err)
	}
}

func TestCommitWithoutRoom(t *testing.T) {
	s := store.New(2)
	root := hold(t, s, nil)
	if got, err := trie.Commit(s, root, []api.Change{put("a", long('1')), put("b", long('2'))}); got != "" || err != api.ErrFull {
		t.Error(got, err)
	}
	if !slices.Equal(s.Hashes(), []string{root}) || s.Held(root) != 1 {
		t.Error("a failed Commit changed the store")
	}
	one, err := trie.Commit(s, root, []api.Change{put("a", long('1'))})
	if err != api.OK || s.Held(one) != 1 || s.Room() != 0 {
		t.Error(err)
	}
	// Nothing is new of it: it is held once more.
	if got, err := trie.Commit(s, one, nil); got != one || err != api.OK || s.Held(one) != 2 {
		t.Error(got, err)
	}
}

// tower is a store of nodes that are no map's: each one refers sixteen times to the one below.
func tower(t *testing.T, high int, exts bool) (*store.Store, string) {
	t.Helper()
	var nodes []string
	ref := rlp.Text(sha.Of("\x80"))
	for i := range high {
		n := api.Node{Kind: api.Branch}
		if exts && i%2 == 1 {
			n = api.Node{Kind: api.Ext, Path: "\x01"}
			n.Refs[0] = ref
		} else {
			for j := range n.Refs {
				n.Refs[j] = ref
			}
		}
		text, err := node.Put(n)
		if err != api.OK {
			t.Fatal(err)
		}
		nodes = append([]string{text}, nodes...)
		ref = rlp.Text(sha.Of(text))
	}
	s := store.New(1000)
	root, err := s.Add(append(nodes, "\x80"))
	if err != api.OK {
		t.Fatal(err)
	}
	return s, root
}

func TestRootsOfNoMapEnd(t *testing.T) {
	leafRef := rlp.Text(sha.Of("\xc2\x31v"))
	for _, high := range []int{1, 2, 5, 12, 13, 40, 300} {
		for _, exts := range []bool{false, true} {
			s, root := tower(t, high, exts)
			for _, key := range []string{"", "a", "abcdef", strings.Repeat("\x11", 300)} {
				trie.Get(s, root, key)
				trie.Path(s, root, key)
				trie.All(s, root)
				trie.Update(s, root, []api.Change{put("abcdef", "1"), gone("\x11\x11\x11"), gone("\x11")})
				trie.Commit(s, root, []api.Change{put("\x11\x11", "1"), gone("abcdef")})
			}
		}
	}
	// An Ext ahead of a Leaf, and of an Ext, and one entry at half a byte.
	one := api.Node{Kind: api.Ext, Path: "\x01"}
	one.Refs[0] = leafRef
	text, _ := node.Put(one)
	two := api.Node{Kind: api.Ext, Path: strings.Repeat("\x01", 12)}
	two.Refs[0] = rlp.Text(sha.Of(text))
	above, _ := node.Put(two)
	s := store.New(9)
	root, err := s.Add([]string{above, text, "\xc2\x31v"})
	if err != api.OK {
		t.Fatal(err)
	}
	for _, key := range []string{"\x11", "\x11\x11\x11\x11\x11\x11", "\x11\x11\x11\x11\x11\x11\x11"} {
		trie.Get(s, root, key)
		trie.Path(s, root, key)
	}
	trie.All(s, root)
	trie.Commit(s, root, []api.Change{put("\x11\x11\x11\x11\x11\x11", "1"), gone("\x11"), put("\x12", "1")})
}

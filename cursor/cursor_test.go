package cursor_test

import (
	"maps"
	"math/rand"
	"slices"
	"strings"
	"testing"

	"guilloche/api"
	"guilloche/canon"
	"guilloche/cursor"
	"guilloche/node"
	"guilloche/rlp"
	"guilloche/sha"
	"guilloche/store"
	"guilloche/trie"
)

func e(key, value string) api.Entry { return api.Entry{Key: key, Value: value} }

// stored is a store that has a map, and its root.
func stored(t *testing.T, l ...api.Entry) (*store.Store, string) {
	t.Helper()
	nodes, err := canon.Nodes(l)
	if err != api.OK {
		t.Fatal(err)
	}
	s := store.New(500)
	root, err := s.Add(nodes)
	if err != api.OK {
		t.Fatal(err)
	}
	return s, root
}

func someKey(r *rand.Rand) string {
	k := make([]byte, 1+r.Intn(4))
	for i := range k {
		k[i] = "aab\x00\x10\xff"[r.Intn(6)]
	}
	return string(k)
}

func someMap(r *rand.Rand, n int) []api.Entry {
	m := map[string]string{}
	for range n {
		m[someKey(r)] = strings.Repeat("v", 1+r.Intn(60))
	}
	var l []api.Entry
	for _, k := range slices.Sorted(maps.Keys(m)) {
		l = append(l, e(k, m[k]))
	}
	return l
}

// froms are keys of a map, and others near them.
func froms(l []api.Entry) []string {
	all := []string{"", "\x00", "b", "aaaaaaaaaaaaaaaa", "\xff", strings.Repeat("\xff", 300), "zz"}
	for _, x := range l {
		all = append(all, x.Key, x.Key+"\x00", x.Key+"\xff\xff\xff\xff\xff\xff\xff", x.Key[:len(x.Key)-1], x.Key[:len(x.Key)-1]+"\x1f")
	}
	return all
}

// behind are the entries of a map from a key on.
func behind(l []api.Entry, from string) []api.Entry {
	var all []api.Entry
	for _, x := range l {
		if x.Key >= from {
			all = append(all, x)
		}
	}
	return all
}

func TestExample(t *testing.T) {
	s, root := stored(t, e("a", "1"), e("b", "2"), e("c", "3"))
	page, next, err := cursor.Page(s, root, "aa", 1)
	if !slices.Equal(page, []api.Entry{e("b", "2")}) || next != "c" || err != api.OK {
		t.Error(page, next, err)
	}
}

func TestSeekAndNext(t *testing.T) {
	r := rand.New(rand.NewSource(1))
	for i := range 80 {
		l := someMap(r, i%40)
		s, root := stored(t, l...)
		for _, from := range froms(l) {
			c, err := cursor.Seek(s, root, from)
			if c == nil || err != api.OK {
				t.Fatal(err)
			}
			for _, want := range behind(l, from) {
				for range r.Intn(3) {
					if key, ok := c.Peek(); key != want.Key || !ok {
						t.Fatalf("Peek = %x, %v; want %x", key, ok, want.Key)
					}
				}
				if got, ok := c.Next(); got != want || !ok {
					t.Fatalf("from %x of %v: Next = %v, %v; want %v", from, l, got, ok, want)
				}
			}
			for range 2 {
				if key, ok := c.Peek(); key != "" || ok {
					t.Fatalf("Peek behind all = %x, %v", key, ok)
				}
				if got, ok := c.Next(); got != (api.Entry{}) || ok {
					t.Fatalf("Next behind all = %v, %v", got, ok)
				}
			}
		}
	}
}

func TestTwoCursorsAreApart(t *testing.T) {
	s, root := stored(t, e("a", "1"), e("b", "2"), e("c", "3"))
	one, _ := cursor.Seek(s, root, "")
	other, _ := cursor.Seek(s, root, "")
	one.Next()
	one.Next()
	if got, _ := other.Next(); got != e("a", "1") {
		t.Error(got)
	}
	if got, _ := one.Next(); got != e("c", "3") {
		t.Error(got)
	}
}

// A cursor goes on in its map, whatever else is added to the store, and dropped.
func TestCursorKeepsItsMap(t *testing.T) {
	s, root := stored(t, e("a", "1"), e("b", "2"), e("c", strings.Repeat("3", 40)))
	c, _ := cursor.Seek(s, root, "")
	c.Next()
	next, err := trie.Commit(s, root, []api.Change{{Key: "b", Gone: true}, {Key: "c", Value: "4"}, {Key: "d", Value: "5"}})
	if err != api.OK {
		t.Fatal(err)
	}
	s.Drop(next)
	for _, want := range []api.Entry{e("b", "2"), e("c", strings.Repeat("3", 40))} {
		if got, ok := c.Next(); got != want || !ok {
			t.Error(got, ok)
		}
	}
	if got, ok := c.Next(); ok {
		t.Error(got)
	}
}

func TestPage(t *testing.T) {
	r := rand.New(rand.NewSource(2))
	for i := range 100 {
		l := someMap(r, i%40)
		s, root := stored(t, l...)
		for _, from := range froms(l) {
			for limit := 1; limit <= 8; limit++ {
				want, next := behind(l, from), ""
				if len(want) > limit {
					want, next = want[:limit], want[limit].Key
				}
				page, key, err := cursor.Page(s, root, from, limit)
				if !slices.Equal(page, want) || key != next || err != api.OK {
					t.Fatalf("Page(%x, %d) of %v = %v, %x, %v", from, limit, l, page, key, err)
				}
			}
		}
	}
}

func TestPageBehindPage(t *testing.T) {
	r := rand.New(rand.NewSource(3))
	for limit := 1; limit <= 8; limit++ {
		l := someMap(r, 60)
		l = l[:min(len(l), 40)]
		s, root := stored(t, l...)
		var all []api.Entry
		for from, more := "", true; more; {
			page, next, err := cursor.Page(s, root, from, limit)
			if err != api.OK {
				t.Fatal(err)
			}
			all = append(all, page...)
			from, more = next, next != ""
		}
		if !slices.Equal(all, l) {
			t.Errorf("by %d: %v; want %v", limit, all, l)
		}
	}
}

func TestRange(t *testing.T) {
	r := rand.New(rand.NewSource(4))
	for i := range 60 {
		l := someMap(r, i%40)
		s, root := stored(t, l...)
		all := froms(l)
		for range 300 {
			from, to, limit := all[r.Intn(len(all))], all[r.Intn(len(all))], 1+r.Intn(8)
			var want []api.Entry
			for _, x := range l {
				if x.Key >= from && x.Key <= to {
					want = append(want, x)
				}
			}
			more := len(want) > limit
			want = want[:min(len(want), limit)]
			got, is, err := cursor.Range(s, root, from, to, limit)
			if !slices.Equal(got, want) || is != more || err != api.OK {
				t.Fatalf("Range(%x, %x, %d) of %v = %v, %v, %v", from, to, limit, l, got, is, err)
			}
		}
	}
}

func TestRangeEnds(t *testing.T) {
	s, root := stored(t, e("a", "1"), e("b", "2"), e("c", "3"))
	for i, x := range []struct {
		from, to string
		limit, n int
		more     bool
	}{
		{"a", "c", 3, 3, false}, {"a", "c", 2, 2, true}, {"a", "b", 2, 2, false}, {"a", "b\xff", 2, 2, false}, {"", "a", 1, 1, false}, {"b", "b", 1, 1, false},
		{"b", "a", 8, 0, false}, {"", "", 8, 0, false}, {"a", "", 1, 0, false}, {"d", "e", 1, 0, false}, {"aa", "ab", 1, 0, false}, {"", "\xff\xff\xff\xff\xff\xff\xff", 8, 3, false},
	} {
		if got, more, err := cursor.Range(s, root, x.from, x.to, x.limit); len(got) != x.n || more != x.more || err != api.OK {
			t.Error(i, got, more, err)
		}
	}
}

func TestCount(t *testing.T) {
	r := rand.New(rand.NewSource(5))
	for i := range 100 {
		l := someMap(r, i%40)
		s, root := stored(t, l...)
		if n, err := cursor.Count(s, root); n != len(l) || err != api.OK {
			t.Error(n, err, len(l))
		}
	}
}

// All forty entries, each of its own way: no trie of a map is larger.
func TestLargestMap(t *testing.T) {
	var l []api.Entry
	for i := range 20 {
		k := "k" + string([]byte{byte(i * 12)}) + "abc"
		l = append(l, e(k+"1", strings.Repeat("v", 80)), e(k+"2", strings.Repeat("w", 80)))
	}
	s, root := stored(t, l...)
	if n, err := cursor.Count(s, root); n != 40 || err != api.OK {
		t.Error(n, err)
	}
	if got, more, err := cursor.Range(s, root, l[32].Key, "\xff", 8); !slices.Equal(got, l[32:]) || more || err != api.OK {
		t.Error(len(got), more, err)
	}
}

func TestErrors(t *testing.T) {
	held, root := stored(t, e("a", "1"))
	for i, x := range []struct {
		s    *store.Store
		root string
	}{{nil, root}, {nil, ""}, {store.New(5), trie.Empty()}, {held, trie.Empty()}, {held, ""}, {held, root[:31]}} {
		if c, err := cursor.Seek(x.s, x.root, "a"); c != nil || err != api.ErrRoot {
			t.Error(i, err)
		}
		if n, err := cursor.Count(x.s, x.root); n != 0 || err != api.ErrRoot {
			t.Error(i, n, err)
		}
		// The root is asked ahead of the limit.
		for _, limit := range []int{1, 0, 9} {
			if page, next, err := cursor.Page(x.s, x.root, "a", limit); len(page) != 0 || next != "" || err != api.ErrRoot {
				t.Error(i, page, next, err)
			}
			if some, more, err := cursor.Range(x.s, x.root, "a", "b", limit); len(some) != 0 || more || err != api.ErrRoot {
				t.Error(i, some, more, err)
			}
		}
	}
	for _, limit := range []int{0, -1, 9, 1 << 62, -1 << 63} {
		if page, next, err := cursor.Page(held, root, "", limit); len(page) != 0 || next != "" || err != api.ErrArg {
			t.Error(limit, page, next, err)
		}
		if some, more, err := cursor.Range(held, root, "", "z", limit); len(some) != 0 || more || err != api.ErrArg {
			t.Error(limit, some, more, err)
		}
	}
}

// Nodes that each refer sixteen times to the one below are no map's trie; all ends.
func TestRootsOfNoMapEnd(t *testing.T) {
	for _, high := range []int{3, 12, 13, 200} {
		nodes := []string{"\xc2\x31v"}
		for range high {
			n := api.Node{Kind: api.Branch}
			for i := range n.Refs {
				n.Refs[i] = rlp.Text(sha.Of(nodes[0]))
			}
			text, _ := node.Put(n)
			nodes = append([]string{text}, nodes...)
		}
		s := store.New(1000)
		root, err := s.Add(nodes)
		if err != api.OK {
			t.Fatal(err)
		}
		for _, from := range []string{"", "a", strings.Repeat("\xff", 100)} {
			cursor.Count(s, root)
			cursor.Page(s, root, from, 8)
			cursor.Range(s, root, from, "\xff\xff", 8)
		}
	}
}

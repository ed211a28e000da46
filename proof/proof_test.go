package proof_test

import (
	"maps"
	"math/rand"
	"slices"
	"strings"
	"testing"

	"guilloche/api"
	"guilloche/canon"
	"guilloche/node"
	"guilloche/proof"
	"guilloche/rlp"
	"guilloche/sha"
	"guilloche/store"
	"guilloche/trie"
)

func e(key, value string) api.Entry { return api.Entry{Key: key, Value: value} }

func long(b byte) string { return strings.Repeat(string([]byte{b}), 40) }

// stored is a store that has a map, and its root.
func stored(t *testing.T, l ...api.Entry) (*store.Store, string) {
	t.Helper()
	nodes, err := canon.Nodes(l)
	if err != api.OK {
		t.Fatal(err)
	}
	s := store.New(500)
	root, err := s.Add(nodes)
	if err != api.OK {
		t.Fatal(err)
	}
	return s, root
}

func someKey(r *rand.Rand) string {
	k := make([]byte, 1+r.Intn(4))
	for i := range k {
		k[i] = "aab\x00\x10\xff"[r.Intn(6)]
	}
	return string(k)
}

func someMap(r *rand.Rand, n int) []api.Entry {
	m := map[string]string{}
	for range n {
		m[someKey(r)] = strings.Repeat("v", 1+r.Intn(60))
	}
	var l []api.Entry
	for _, k := range slices.Sorted(maps.Keys(m)) {
		l = append(l, e(k, m[k]))
	}
	return l
}

// keys are those of a map, and others near them.
func keys(l []api.Entry) []string {
	all := []string{"", "b", "zzzzzzzzzzzzzz", "a\x01", strings.Repeat("a", 300)}
	for _, x := range l {
		all = append(all, x.Key, x.Key+"a", x.Key[:len(x.Key)-1], x.Key[:len(x.Key)-1]+"\x1f")
	}
	return all
}

func refused(t *testing.T, root, key string, nodes []string) {
	t.Helper()
	if c, err := proof.Verify(root, key, nodes); c != (proof.Claim{}) || err != api.ErrProof {
		t.Errorf("Verify = %v, %v", c, err)
	}
}

func put(t *testing.T, n api.Node) string {
	t.Helper()
	s, err := node.Put(n)
	if err != api.OK {
		t.Fatal(err)
	}
	return s
}

func byHash(s string) string { return rlp.Text(sha.Of(s)) }

func TestExample(t *testing.T) {
	for _, key := range []string{"", "a", "abcdefgh"} {
		if c, err := proof.Verify(sha.Of("\x80"), key, []string{"\x80"}); c != (proof.Claim{}) || err != api.OK {
			t.Error(c, err)
		}
	}
}

func TestWhatIsBuiltIsBelieved(t *testing.T) {
	r := rand.New(rand.NewSource(1))
	for i := range 150 {
		l := someMap(r, i%40)
		s, root := stored(t, l...)
		for _, key := range keys(l) {
			nodes, err := proof.Build(s, root, key)
			want, _ := trie.Path(s, root, key)
			if !slices.Equal(nodes, want) || err != api.OK {
				t.Fatalf("Build(%x): %d nodes, %v", key, len(nodes), err)
			}
			before := slices.Clone(nodes)
			c, err := proof.Verify(root, key, nodes)
			value, in := canon.Find(l, key)
			if c != (proof.Claim{Found: in, Value: value}) || err != api.OK || !proof.Holds(l, key, c) {
				t.Fatalf("Verify(%x) of %v = %v, %v", key, l, c, err)
			}
			if a, b, ok := proof.Extract(l, key, nodes); a != "" || b != "" || ok {
				t.Fatal("a true proof has texts that collide")
			}
			if !slices.Equal(nodes, before) {
				t.Fatal("nodes were changed")
			}
		}
	}
}

func TestWhatIsTamperedWith(t *testing.T) {
	r := rand.New(rand.NewSource(2))
	for range 60 {
		l := someMap(r, 3+r.Intn(30))
		s, root := stored(t, l...)
		for _, key := range keys(l) {
			nodes, _ := proof.Build(s, root, key)
			i := r.Intn(len(nodes))
			refused(t, root, key, slices.Delete(slices.Clone(nodes), i, i+1))
			refused(t, root, key, slices.Insert(slices.Clone(nodes), i, nodes[i]))
			refused(t, root, key, append(slices.Clone(nodes), "\x80"))
			refused(t, root, key, append(slices.Clone(nodes), ""))
			if len(nodes) > 1 {
				other := slices.Clone(nodes)
				slices.Reverse(other)
				refused(t, root, key, other)
			}
			other := slices.Clone(nodes)
			b := []byte(other[i])
			b[r.Intn(len(b))] ^= 1 << r.Intn(8)
			other[i] = string(b)
			refused(t, root, key, other)
			refused(t, root[:31]+string([]byte{root[31] ^ 1}), key, nodes)
			if a, b, ok := proof.Extract(l, key, other); a != "" || b != "" || ok {
				t.Fatal("a wrong proof has texts that collide")
			}
		}
	}
}

func TestRefused(t *testing.T) {
	_, root := stored(t, e("a", "1"))
	top := "\xc4\x82\x20\x611"
	if root != sha.Of(top) {
		t.Fatal("another top")
	}
	for _, nodes := range [][]string{nil, {}, {""}, {"\x80"}, {top, top}, {top, ""}, {"x", top}} {
		refused(t, root, "a", nodes)
	}
	for _, other := range []string{"", root[:31], root + "x", top, sha.Hex(root), trie.Empty()} {
		refused(t, other, "a", []string{top})
	}
	// What is no node proves nothing, though the root be its hash.
	for _, none := range []string{"", "x", "\xc0", top + "x"} {
		refused(t, sha.Of(none), "a", []string{none})
	}
	// And below a node likewise.
	n := api.Node{Kind: api.Branch, Value: "v"}
	n.Refs[6] = byHash("no node")
	refused(t, sha.Of(put(t, n)), "a", []string{put(t, n), "no node"})
	if c, err := proof.Verify(sha.Of(put(t, n)), "q", []string{put(t, n)}); c != (proof.Claim{}) || err != api.OK {
		t.Error(c, err)
	}
}

// A proof may be of nodes that no map has: they are believed as they stand.
func TestNodesAsTheyStand(t *testing.T) {
	leaf := put(t, api.Node{Kind: api.Leaf, Path: "\x01", Value: "v"})
	ext := api.Node{Kind: api.Ext, Path: "\x06"}
	ext.Refs[0] = byHash(leaf)
	two := api.Node{Kind: api.Branch, Value: "top"}
	two.Refs[6] = put(t, api.Node{Kind: api.Leaf, Path: "\x02", Value: "w"})
	two.Refs[7] = byHash(put(t, ext))
	branch := put(t, two)
	for i, x := range []struct {
		key   string
		nodes []string
		claim proof.Claim
	}{
		{"", []string{branch}, proof.Claim{Found: true, Value: "top"}},
		{"b", []string{branch}, proof.Claim{Found: true, Value: "w"}},
		{"c", []string{branch}, proof.Claim{}},
		{"bb", []string{branch}, proof.Claim{}},
		{"v\x10", []string{branch, put(t, ext), leaf}, proof.Claim{}},
		{"v", []string{branch, put(t, ext), leaf}, proof.Claim{}},
		{"q", []string{branch, put(t, ext)}, proof.Claim{}},
		{"Q", []string{branch}, proof.Claim{}},
	} {
		if c, err := proof.Verify(sha.Of(branch), x.key, x.nodes); c != x.claim || err != api.OK {
			t.Error(i, c, err)
		}
	}
	// A Leaf that is referred to by a hash, though it might be inline.
	ext.Path = "\x06\x01\x06"
	top := put(t, ext)
	if c, err := proof.Verify(sha.Of(top), "aa", []string{top, leaf}); c != (proof.Claim{Found: true, Value: "v"}) || err != api.OK {
		t.Error(c, err)
	}
	refused(t, sha.Of(top), "aa", []string{top})
	refused(t, sha.Of(top), "ba", []string{top, leaf})
	// A value at the end of a way, in a Branch without one.
	bare := api.Node{Kind: api.Branch}
	bare.Refs[0], bare.Refs[1] = byHash(leaf), byHash(leaf)
	if c, err := proof.Verify(sha.Of(put(t, bare)), "", []string{put(t, bare)}); c != (proof.Claim{}) || err != api.OK {
		t.Error(c, err)
	}
}

// chain is so many nodes, of which each refers to the next one by the nibble 0.
func chain(t *testing.T, n int) []string {
	nodes := []string{put(t, api.Node{Kind: api.Leaf, Value: long('v')})}
	for len(nodes) < n {
		x := api.Node{Kind: api.Branch, Value: "w"}
		x.Refs[0] = byHash(nodes[0])
		nodes = append([]string{put(t, x)}, nodes...)
	}
	return nodes
}

func TestAtMost40Nodes(t *testing.T) {
	for n := 1; n < 50; n += 2 {
		nodes := chain(t, n)
		key := strings.Repeat("\x00", n/2)
		if n > 40 {
			refused(t, sha.Of(nodes[0]), key, nodes)
			continue
		}
		if c, err := proof.Verify(sha.Of(nodes[0]), key, nodes); c != (proof.Claim{Found: true, Value: long('v')}) || err != api.OK {
			t.Error(n, c, err)
		}
	}
	// Forty nodes, behind whose leaf a nibble is left; and one node more.
	nodes := chain(t, 41)
	key := strings.Repeat("\x00", 20)
	if c, err := proof.Verify(sha.Of(nodes[1]), key, nodes[1:]); c != (proof.Claim{}) || err != api.OK {
		t.Error(c, err)
	}
	refused(t, sha.Of(nodes[0]), key, nodes)
}

func TestBuildOfNoRoot(t *testing.T) {
	held, root := stored(t, e("a", "1"))
	for i, x := range []struct {
		s    *store.Store
		root string
	}{{nil, root}, {store.New(5), trie.Empty()}, {held, trie.Empty()}, {held, ""}, {held, root + "x"}} {
		if nodes, err := proof.Build(x.s, x.root, "a"); len(nodes) != 0 || err != api.ErrRoot {
			t.Error(i, nodes, err)
		}
	}
}

func TestStep(t *testing.T) {
	branch := api.Node{Kind: api.Branch, Value: "v"}
	branch.Refs[0], branch.Refs[15] = "zero", "last"
	ext := api.Node{Kind: api.Ext, Path: "\x01\x02"}
	ext.Refs[0] = "below"
	bare := api.Node{Kind: api.Ext, Path: "\x01"}
	bare.Refs[1] = "second"
	empty := api.Node{Kind: api.Ext}
	empty.Refs[0] = "below"
	leaf := api.Node{Kind: api.Leaf, Path: "\x01", Value: "v"}
	leaf.Refs[0], leaf.Refs[1] = "x", "y"
	other := branch
	other.Kind = 7
	for i, x := range []struct {
		n               api.Node
		path, ref, rest string
	}{
		{branch, "\x00\x01\x02", "zero", "\x01\x02"}, {branch, "\x0f", "last", ""}, {branch, "\x01\x02", "", "\x01\x02"}, {branch, "", "", ""},
		{branch, "\x10\x00", "", "\x10\x00"}, {branch, "\xff", "", "\xff"}, {branch, "\x00\xff", "zero", "\xff"},
		{ext, "\x01\x02", "below", ""}, {ext, "\x01\x02\x03", "below", "\x03"}, {ext, "\x01", "", "\x01"}, {ext, "\x01\x03", "", "\x01\x03"}, {ext, "", "", ""}, {ext, "\x10", "", "\x10"},
		{bare, "\x01\x02", "", "\x01\x02"}, {empty, "\x01", "below", "\x01"}, {empty, "", "below", ""},
		{leaf, "\x01", "", "\x01"}, {leaf, "\x00", "", "\x00"}, {leaf, "", "", ""}, {api.Node{}, "\x00", "", "\x00"}, {other, "\x00", "", "\x00"}, {api.Node{Kind: -1}, "", "", ""},
	} {
		if ref, rest := proof.Step(x.n, x.path); ref != x.ref || rest != x.rest {
			t.Errorf("%d: Step = %q, %x", i, ref, rest)
		}
	}
}

func TestHolds(t *testing.T) {
	// Of any entries, by the first one of a key.
	l := []api.Entry{e("b", "1"), e("a", "2"), e("b", "3"), e("c", "")}
	for i, x := range []struct {
		key string
		c   proof.Claim
		ok  bool
	}{
		{"b", proof.Claim{Found: true, Value: "1"}, true}, {"b", proof.Claim{Found: true, Value: "3"}, false}, {"b", proof.Claim{}, false}, {"b", proof.Claim{Value: "1"}, false},
		{"x", proof.Claim{}, true}, {"x", proof.Claim{Found: true}, false}, {"x", proof.Claim{Value: "1"}, false},
		{"c", proof.Claim{Found: true}, true}, {"c", proof.Claim{}, false}, {"a", proof.Claim{Found: true, Value: "2"}, true},
	} {
		if proof.Holds(l, x.key, x.c) != x.ok {
			t.Error(i, !x.ok)
		}
	}
	if !proof.Holds(nil, "", proof.Claim{}) {
		t.Error("of no entries")
	}
}

func TestExtractOfNoMap(t *testing.T) {
	for i, l := range [][]api.Entry{{e("", "1")}, {e("b", "1"), e("a", "1")}, nil, {e("a", "1")}} {
		for _, nodes := range [][]string{nil, {"\x80"}, {"x", "y"}} {
			if a, b, ok := proof.Extract(l, "a", nodes); a != "" || b != "" || ok {
				t.Error(i, a, b)
			}
		}
	}
}

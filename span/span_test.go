package span_test

import (
	"maps"
	"math/rand"
	"slices"
	"strings"
	"testing"

	"guilloche/api"
	"guilloche/canon"
	"guilloche/nibble"
	"guilloche/node"
	"guilloche/rlp"
	"guilloche/sha"
	"guilloche/span"
	"guilloche/store"
	"guilloche/trie"
)

func e(key, value string) api.Entry { return api.Entry{Key: key, Value: value} }

func long(b byte) string { return strings.Repeat(string([]byte{b}), 40) }

// stored is a store that has a map, and its root.
func stored(t *testing.T, l ...api.Entry) (*store.Store, string) {
	t.Helper()
	nodes, err := canon.Nodes(l)
	if err != api.OK {
		t.Fatal(err)
	}
	s := store.New(500)
	root, err := s.Add(nodes)
	if err != api.OK {
		t.Fatal(err)
	}
	return s, root
}

func someKey(r *rand.Rand) string {
	k := make([]byte, 1+r.Intn(4))
	for i := range k {
		k[i] = "aab\x00\x10\xff"[r.Intn(6)]
	}
	return string(k)
}

func someMap(r *rand.Rand, n int) []api.Entry {
	m := map[string]string{}
	for range n {
		m[someKey(r)] = strings.Repeat("v", 1+r.Intn(60))
	}
	var l []api.Entry
	for _, k := range slices.Sorted(maps.Keys(m)) {
		l = append(l, e(k, m[k]))
	}
	return l
}

// someEnd is a key of a map, or one near it.
func someEnd(r *rand.Rand, l []api.Entry) string {
	all := []string{"", "\x00", "b", "a\x0f", "\xff\xff\xff\xff\xff\xff\xff", "aaaaaaaaaaaaaaa"}
	if len(l) > 0 && r.Intn(4) > 0 {
		k := l[r.Intn(len(l))].Key
		all = []string{k, k, k + "\x00", k + "\xff", k[:len(k)-1], k[:len(k)-1] + "\x1f"}
	}
	return all[r.Intn(len(all))]
}

func put(t *testing.T, n api.Node) string {
	t.Helper()
	s, err := node.Put(n)
	if err != api.OK {
		t.Fatal(err)
	}
	return s
}

func byHash(s string) string { return rlp.Text(sha.Of(s)) }

func refused(t *testing.T, root string, ends span.Ends, nodes []string) {
	t.Helper()
	if all, err := span.Verify(root, ends, nodes); len(all) != 0 || err != api.ErrProof {
		t.Errorf("Verify = %v, %v", all, err)
	}
}

func believed(t *testing.T, root string, ends span.Ends, nodes []string, want ...api.Entry) {
	t.Helper()
	if all, err := span.Verify(root, ends, nodes); !slices.Equal(all, want) || err != api.OK {
		t.Errorf("Verify = %v, %v; want %v", all, err, want)
	}
}

func TestExample(t *testing.T) {
	s, root := stored(t, e("a", "1"), e("b", "2"))
	nodes, err := span.Build(s, root, span.Ends{From: "b", To: "c"})
	if err != api.OK {
		t.Fatal(err)
	}
	believed(t, root, span.Ends{From: "b", To: "c"}, nodes, e("b", "2"))
}

func TestHasAndMeets(t *testing.T) {
	p := func(s string) string { return nibble.Path(s) }
	for i, x := range []struct {
		e          span.Ends
		path       string
		has, meets bool
	}{
		{span.Ends{From: "b", To: "d"}, p("b"), true, true}, {span.Ends{From: "b", To: "d"}, p("d"), true, true}, {span.Ends{From: "b", To: "d"}, p("c"), true, true},
		{span.Ends{From: "b", To: "d"}, p("a"), false, false}, {span.Ends{From: "b", To: "d"}, p("e"), false, false}, {span.Ends{From: "b", To: "d"}, p("da"), false, false},
		{span.Ends{From: "b", To: "d"}, p("ba"), true, true}, {span.Ends{From: "b", To: "d"}, "", false, true}, {span.Ends{From: "b", To: "d"}, "\x06", false, true},
		{span.Ends{From: "b", To: "d"}, "\x07", false, false}, {span.Ends{From: "b", To: "d"}, "\x05", false, false}, {span.Ends{From: "b", To: "d"}, "\x06\x03\x0f", true, true},
		{span.Ends{From: "ba", To: "bc"}, p("b"), false, true}, {span.Ends{From: "ba", To: "bc"}, p("b") + "\x06", false, true}, {span.Ends{From: "ba", To: "bc"}, p("b") + "\x05", false, false},
		{span.Ends{}, "", true, true}, {span.Ends{}, "\x00", false, false}, {span.Ends{To: "\xff"}, "", true, true}, {span.Ends{To: "\xff"}, p("\xff\x00"), false, false},
		// Where the one end is behind the other one, and of what is no path.
		{span.Ends{From: "d", To: "b"}, p("c"), false, false}, {span.Ends{From: "d", To: "b"}, p("b"), false, false}, {span.Ends{From: "d", To: "b"}, "\x06", false, true}, {span.Ends{From: "d", To: "b"}, "", false, true},
		{span.Ends{From: "b", To: "d"}, "\x06\x03z", true, true}, {span.Ends{From: "b", To: "d"}, "b", false, false}, {span.Ends{From: "ba", To: "b"}, p("b"), false, true},
	} {
		if x.e.Has(x.path) != x.has || x.e.Meets(x.path) != x.meets {
			t.Errorf("%d: %v, %v", i, x.e.Has(x.path), x.e.Meets(x.path))
		}
	}
}

// A path meets ends just if one that begins with it is between them.
func TestMeetsJustWhatHas(t *testing.T) {
	r := rand.New(rand.NewSource(1))
	few := []string{"", "\x00", "\x01", "\x11", "\x00\x10", "\x01\x01", "\x10\x00"}
	var paths []string
	for _, a := range "\x00\x01" {
		for _, b := range "\x00\x01" {
			for _, c := range "\x00\x01" {
				for _, d := range "\x00\x01" {
					all := string([]rune{a, b, c, d})
					for n := range 5 {
						paths = append(paths, all[:n])
					}
				}
			}
		}
	}
	for range 200 {
		ends := span.Ends{From: few[r.Intn(len(few))], To: few[r.Intn(len(few))]}
		if ends.From > ends.To {
			continue
		}
		for _, p := range paths {
			meets := strings.HasPrefix(nibble.Path(ends.From), p) || ends.Has(p)
			for _, q := range paths {
				meets = meets || strings.HasPrefix(q, p) && ends.Has(q)
			}
			if ends.Meets(p) != meets {
				t.Fatalf("%x meets %x: %v", ends, p, !meets)
			}
		}
	}
}

// expected are, by another way, the nodes that are used: the root's, and those of whose keys some might be between the ends.
func expected(all []string, text, path string, ends span.Ends, used []string) []string {
	if (len(text) >= 32 || path == "" && text == all[0]) && !slices.Contains(used, text) {
		used = append(used, text)
	}
	n, _ := node.Get(text)
	for i, ref := range n.Refs {
		at := path + n.Path
		if n.Kind == api.Branch {
			at += string([]byte{byte(i)})
		}
		from, to := nibble.Path(ends.From), nibble.Path(ends.To)
		if ref == "" || at > to || at < from && !strings.HasPrefix(from, at) {
			continue
		}
		next := ref
		for _, s := range all {
			if node.Ref(s) == ref {
				next = s
			}
		}
		used = expected(all, next, at, ends, used)
	}
	return used
}

func TestWhatIsBuiltIsBelieved(t *testing.T) {
	r := rand.New(rand.NewSource(2))
	for i := range 150 {
		l := someMap(r, i%40)
		s, root := stored(t, l...)
		all, _ := canon.Nodes(l)
		for range 30 {
			ends := span.Ends{From: someEnd(r, l), To: someEnd(r, l)}
			if ends.From > ends.To {
				if nodes, err := span.Build(s, root, ends); len(nodes) != 0 || err != api.ErrArg {
					t.Fatal(nodes, err)
				}
				refused(t, root, ends, all)
				continue
			}
			nodes, err := span.Build(s, root, ends)
			if want := expected(all, all[0], "", ends, nil); !slices.Equal(nodes, want) || err != api.OK {
				t.Fatalf("Build(%x) of %v: %x, %v; want %x", ends, l, nodes, err, want)
			}
			before := slices.Clone(nodes)
			var want []api.Entry
			for _, x := range l {
				if x.Key >= ends.From && x.Key <= ends.To {
					want = append(want, x)
				}
			}
			believed(t, root, ends, nodes, want...)
			if got := span.Between(l, ends); !slices.Equal(got, want) {
				t.Fatalf("Between(%x) of %v = %v", ends, l, got)
			}
			if a, b, ok := span.Extract(l, ends, nodes); a != "" || b != "" || ok {
				t.Fatal("a true proof has texts that collide")
			}
			if !slices.Equal(nodes, before) {
				t.Fatal("nodes were changed")
			}
		}
	}
}

func TestWhatIsTamperedWith(t *testing.T) {
	r := rand.New(rand.NewSource(3))
	for range 300 {
		l := someMap(r, 3+r.Intn(30))
		s, root := stored(t, l...)
		ends := span.Ends{From: someEnd(r, l), To: someEnd(r, l)}
		if ends.From > ends.To {
			continue
		}
		nodes, _ := span.Build(s, root, ends)
		i := r.Intn(len(nodes))
		refused(t, root, ends, slices.Delete(slices.Clone(nodes), i, i+1))
		refused(t, root, ends, slices.Insert(slices.Clone(nodes), i, nodes[i]))
		refused(t, root, ends, append(slices.Clone(nodes), "\x80"))
		refused(t, root, ends, append(slices.Clone(nodes), "x"))
		if len(nodes) > 1 {
			j := r.Intn(len(nodes))
			other := slices.Clone(nodes)
			if other[i], other[j] = other[j], other[i]; i != j {
				refused(t, root, ends, other)
			}
		}
		other := slices.Clone(nodes)
		b := []byte(other[i])
		b[r.Intn(len(b))] ^= 1 << r.Intn(8)
		other[i] = string(b)
		refused(t, root, ends, other)
		refused(t, root[:31]+string([]byte{root[31] ^ 1}), ends, nodes)
		if a, b, ok := span.Extract(l, ends, other); a != "" || b != "" || ok {
			t.Fatal("a wrong proof has texts that collide")
		}
	}
}

func TestRefused(t *testing.T) {
	top := "\xc4\x82\x20\x611"
	root := sha.Of(top)
	ends := span.Ends{From: "a", To: "b"}
	believed(t, root, ends, []string{top}, e("a", "1"))
	for _, nodes := range [][]string{nil, {}, {""}, {"\x80"}, {top, top}, {top, ""}, {"x", top}, {"\x80", top}, {top, "\x80"}} {
		refused(t, root, ends, nodes)
	}
	for _, other := range []string{"", root[:31], root + "x", top, sha.Hex(root), trie.Empty()} {
		refused(t, other, ends, []string{top})
	}
	refused(t, sha.Of("x"), ends, []string{"x"})
	refused(t, root, span.Ends{From: "b", To: "a"}, []string{top})
	believed(t, trie.Empty(), ends, []string{"\x80"})
	believed(t, trie.Empty(), span.Ends{}, []string{"\x80"})
}

// What is proved is of nodes as they stand: also of such as no map has.
func TestNodesAsTheyStand(t *testing.T) {
	// The value at the root is of the key of no bytes; one behind half a byte is of none.
	half := put(t, api.Node{Kind: api.Leaf, Value: long('h')})
	key := put(t, api.Node{Kind: api.Leaf, Path: "\x01", Value: long('k')})
	far := put(t, api.Node{Kind: api.Leaf, Path: strings.Repeat("\x02", 11), Value: long('f')})
	x := api.Node{Kind: api.Branch, Value: "top"}
	x.Refs[0], x.Refs[1], x.Refs[6], x.Refs[7], x.Refs[8] = byHash(half), byHash(key), byHash(far), byHash(key), put(t, api.Node{Kind: api.Leaf, Path: "\x08", Value: "in"})
	top := put(t, x)
	root := sha.Of(top)
	all := []string{top, half, key, far}
	believed(t, root, span.Ends{To: "\xff"}, all, e("", "top"), e("\x11", long('k')), e("\x62\x22\x22\x22\x22\x22", long('f')), e("\x71", long('k')), e("\x88", "in"))
	believed(t, root, span.Ends{}, []string{top}, e("", "top"))
	believed(t, root, span.Ends{From: "\x11", To: "\x11"}, []string{top, key}, e("\x11", long('k')))
	// In the order in which they first are used, each once.
	believed(t, root, span.Ends{From: "\x60", To: "\x7f"}, []string{top, far, key}, e("\x62\x22\x22\x22\x22\x22", long('f')), e("\x71", long('k')))
	refused(t, root, span.Ends{From: "\x60", To: "\x7f"}, []string{top, key, far})
	believed(t, root, span.Ends{From: "\x88", To: "\x88"}, []string{top}, e("\x88", "in"))
	believed(t, root, span.Ends{From: "\x89", To: "\xff"}, []string{top})
	// Keys may be longer than those of a map.
	y := api.Node{Kind: api.Ext, Path: strings.Repeat("\x03", 12)}
	y.Refs[0] = byHash(key)
	deep := put(t, y)
	y.Path = "\x03\x03\x03"
	y.Refs[0] = byHash(deep)
	above := put(t, y)
	believed(t, sha.Of(above), span.Ends{To: "\xff"}, []string{above, deep, key}, e(strings.Repeat("\x33", 7)+"\x31", long('k')))
}

// wide is a branch of so many refs to one node, by a hash.
func wide(t *testing.T, n int, below string) string {
	x := api.Node{Kind: api.Branch, Value: "v"}
	for i := range n {
		x.Refs[i] = byHash(below)
	}
	return put(t, x)
}

// A node is looked through as often as it is referred to.
func TestLookedThroughAsOftenAsItIs(t *testing.T) {
	leaf := put(t, api.Node{Kind: api.Leaf, Value: long('v')})
	ends := span.Ends{To: "\xff\xff\xff"}
	few := []int{1, 2, 6, 7, 8, 16}
	for i := range len(few) * len(few) * len(few) {
		a, b, c := few[i%6], few[i/6%6], few[i/36]
		low := wide(t, c, leaf)
		mid := wide(t, b, low)
		top := wide(t, a, mid)
		nodes := []string{top, mid, low, leaf}
		if 1+a+a*b+a*b*c > 400 {
			refused(t, sha.Of(top), ends, nodes)
		} else if all, err := span.Verify(sha.Of(top), ends, nodes); len(all) != 1+a*b || err != api.OK {
			// The top's value, and at two nibbles those of the low ones.
			t.Error(a, b, c, len(all), err)
		}
	}
}

// exact is nodes of which so many are looked through: a row of branches, each of whose first ref leads on, and the others to leaves.
func exact(t *testing.T, count int) []string {
	leaf := put(t, api.Node{Kind: api.Leaf, Value: long('v')})
	nodes := []string{wide(t, 1, leaf), leaf}
	for have := 2; have < count; {
		more := min(16, count-have)
		x := api.Node{Kind: api.Branch, Value: "v"}
		x.Refs[0] = byHash(nodes[0])
		for i := 1; i < more; i++ {
			x.Refs[i] = byHash(leaf)
		}
		nodes = append([]string{put(t, x)}, nodes...)
		have += more
	}
	return nodes
}

func TestExactly400(t *testing.T) {
	ends := span.Ends{To: "\xff"}
	for _, count := range []int{3, 17, 33, 399, 400, 401, 402, 450} {
		nodes := exact(t, count)
		_, err := span.Verify(sha.Of(nodes[0]), ends, nodes)
		if want := map[bool]api.Errno{true: api.ErrProof}[count > 400]; err != want {
			t.Error(count, err)
		}
	}
}

func TestAtMost200Nodes(t *testing.T) {
	ends := span.Ends{To: "\xff"}
	for _, n := range []int{199, 200, 201, 250} {
		nodes := []string{put(t, api.Node{Kind: api.Leaf, Value: long('v')})}
		for len(nodes) < n {
			nodes = append([]string{wide(t, 1, nodes[0])}, nodes...)
		}
		_, err := span.Verify(sha.Of(nodes[0]), ends, nodes)
		if want := map[bool]api.Errno{true: api.ErrProof}[n > 200]; err != want {
			t.Error(n, err)
		}
	}
}

func TestBuildErrors(t *testing.T) {
	held, root := stored(t, e("a", "1"))
	for i, x := range []struct {
		s    *store.Store
		root string
	}{{nil, root}, {store.New(5), trie.Empty()}, {held, trie.Empty()}, {held, ""}, {held, root + "x"}} {
		// The root is asked ahead of the ends.
		for _, ends := range []span.Ends{{From: "a", To: "b"}, {From: "b", To: "a"}} {
			if nodes, err := span.Build(x.s, x.root, ends); len(nodes) != 0 || err != api.ErrRoot {
				t.Error(i, nodes, err)
			}
		}
	}
	if nodes, err := span.Build(held, root, span.Ends{From: "a\x00", To: "a"}); len(nodes) != 0 || err != api.ErrArg {
		t.Error(nodes, err)
	}
}

func TestBetweenOfAnyEntries(t *testing.T) {
	l := []api.Entry{e("c", "1"), e("a", ""), e("", "2"), e("c", "3"), e("bbbbbbbbbb", "4")}
	if got := span.Between(l, span.Ends{From: "b", To: "c"}); !slices.Equal(got, []api.Entry{l[0], l[3], l[4]}) {
		t.Error(got)
	}
	if got := span.Between(l, span.Ends{}); !slices.Equal(got, []api.Entry{l[2]}) {
		t.Error(got)
	}
	if got := span.Between(l, span.Ends{From: "c", To: "b"}); len(got) != 0 {
		t.Error(got)
	}
}

func TestExtractOfNoMap(t *testing.T) {
	for i, l := range [][]api.Entry{{e("", "1")}, {e("b", "1"), e("a", "1")}, nil, {e("a", "1")}} {
		for _, nodes := range [][]string{nil, {"\x80"}, {"x", "y"}} {
			for _, ends := range []span.Ends{{}, {From: "b", To: "a"}, {To: "z"}} {
				if a, b, ok := span.Extract(l, ends, nodes); a != "" || b != "" || ok {
					t.Error(i, a, b)
				}
			}
		}
	}
}

func TestRootsOfNoMapEnd(t *testing.T) {
	for _, high := range []int{2, 12, 13, 200} {
		nodes := []string{"\xc2\x31v"}
		for range high {
			nodes = append([]string{wide(t, 16, nodes[0])}, nodes...)
		}
		s := store.New(1000)
		root, err := s.Add(nodes)
		if err != api.OK {
			t.Fatal(err)
		}
		span.Build(s, root, span.Ends{To: "\xff\xff\xff\xff\xff\xff\xff\xff\xff"})
		span.Verify(root, span.Ends{To: strings.Repeat("\xff", 300)}, nodes)
	}
}

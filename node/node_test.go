package node_test

import (
	"math/rand"
	"slices"
	"strings"
	"testing"

	"guilloche/api"
	"guilloche/nibble"
	"guilloche/node"
	"guilloche/rlp"
	"guilloche/sha"
)

func leaf(path, value string) api.Node { return api.Node{Kind: api.Leaf, Path: path, Value: value} }

func ext(path, ref string) api.Node {
	n := api.Node{Kind: api.Ext, Path: path}
	n.Refs[0] = ref
	return n
}

// branch has the refs at their places.
func branch(value string, refs map[int]string) api.Node {
	n := api.Node{Kind: api.Branch, Value: value}
	for i, ref := range refs {
		n.Refs[i] = ref
	}
	return n
}

// put is the bytes of a node that is valid.
func put(t *testing.T, n api.Node) string {
	t.Helper()
	s, err := node.Put(n)
	if err != api.OK {
		t.Fatalf("Put(%+v): %v", n, err)
	}
	return s
}

// byHash is a ref by a hash.
func byHash(b byte) string { return "\xa0" + strings.Repeat(string([]byte{b}), 32) }

const smallLeaf = "\xc2\x31v"

// smallBranch is the least branch: a value, and a leaf.
var smallBranch = "\xd3\xc2\x31v" + strings.Repeat("\x80", 15) + "w"

func path(n int) string { return strings.Repeat("\x0b", n) }

func text(n int) string { return strings.Repeat("v", n) }

func TestBytesOfEachKind(t *testing.T) {
	empty := "\x80"
	for _, x := range []struct {
		n api.Node
		s string
	}{
		{api.Node{}, "\x80"},
		{leaf("\x01", "v"), smallLeaf},
		{leaf("", "v"), "\xc2\x20v"},
		{leaf("\x01\x02", "dog"), "\xc7\x82\x20\x12\x83dog"},
		{leaf(path(12), text(80)), "\xf8\x5a\x87\x20" + strings.Repeat("\xbb", 6) + "\xb8\x50" + text(80)},
		{ext("\x01", smallBranch), "\xd5\x11" + smallBranch},
		{ext("\x01\x02", byHash('h')), "\xe4\x82\x00\x12" + byHash('h')},
		{branch("w", map[int]string{0: smallLeaf}), smallBranch},
		{branch("", map[int]string{3: smallLeaf, 15: smallLeaf}), "\xd5" + strings.Repeat(empty, 3) + smallLeaf + strings.Repeat(empty, 11) + smallLeaf + empty},
		{branch("", map[int]string{0: byHash(1), 1: byHash(2)}), "\xf8\x51" + byHash(1) + byHash(2) + strings.Repeat(empty, 15)},
	} {
		s, err := node.Put(x.n)
		if s != x.s || err != api.OK || !node.Valid(x.n) {
			t.Errorf("Put(%+v) = %x, %v; want %x", x.n, s, err, x.s)
		}
		if n, err := node.Get(x.s); n != x.n || err != api.OK {
			t.Errorf("Get(%x) = %+v, %v", x.s, n, err)
		}
	}
}

func TestWhatMayBe(t *testing.T) {
	for i, n := range []api.Node{
		{}, leaf("", "v"), leaf(path(12), "v"), leaf("\x00\x0f", text(80)),
		ext("\x0f", smallBranch), ext(path(12), byHash(0)), branch(text(80), map[int]string{7: byHash(9)}),
		branch("", map[int]string{0: smallLeaf, 1: "\xd5\x11" + smallBranch}), branch("", map[int]string{0: smallBranch, 8: byHash(1)}),
	} {
		if s, err := node.Put(n); !node.Valid(n) || err != api.OK || s == "" {
			t.Errorf("%d may not be: %+v", i, n)
		}
	}
}

func TestWhatMayNotBe(t *testing.T) {
	filled := func(n api.Node, at int, ref string) api.Node { n.Refs[at] = ref; return n }
	valued := func(n api.Node, value string) api.Node { n.Value = value; return n }
	pathed := func(n api.Node, path string) api.Node { n.Path = path; return n }
	// An inline node has fewer than 32 bytes.
	large := put(t, leaf("", text(30)))
	two := map[int]string{0: smallLeaf, 1: smallLeaf}
	for i, n := range []api.Node{
		{Kind: -1}, {Kind: 4}, {Kind: 1 << 40}, {Kind: -1 << 62},
		{Path: "\x01"}, {Value: "v"}, filled(api.Node{}, 5, smallLeaf),
		{Kind: api.Leaf}, leaf("", ""), leaf("\x01", ""), leaf(path(13), "v"), leaf("\x10", "v"), leaf("\x01\xff", "v"), leaf("\x01", text(81)),
		filled(leaf("\x01", "v"), 0, smallLeaf), filled(leaf("\x01", "v"), 15, byHash(1)),
		{Kind: api.Ext}, ext("", smallBranch), ext("", byHash(1)), ext(path(13), byHash(1)), ext("\x10", byHash(1)), ext("\x01", ""), ext("\x01", "\x80"),
		ext("\x01", smallLeaf), ext("\x01", "\xd5\x11"+smallBranch), ext("\x01", "x"), ext("\x01", "\xc0"), ext("\x01", byHash(1)+"x"), ext("\x01", byHash(1)[:32]),
		valued(ext("\x01", byHash(1)), "v"), filled(ext("\x01", byHash(1)), 1, byHash(2)), filled(ext("\x01", byHash(1)), 15, smallBranch),
		filled(ext("\x01", ""), 1, byHash(1)), filled(ext("\x01", smallBranch), 0, large),
		{Kind: api.Branch}, branch("v", nil), branch(text(80), nil), branch("", map[int]string{0: smallLeaf}), branch("", map[int]string{15: byHash(1)}),
		branch(text(81), two), pathed(branch("", two), "\x01"), branch("v", map[int]string{0: "x"}), branch("v", map[int]string{3: "\x80"}),
		branch("", map[int]string{0: smallLeaf, 1: large}), branch("v", map[int]string{0: smallLeaf, 15: "\xc0"}), branch("v", map[int]string{0: byHash(1) + "x"}),
		branch("v", map[int]string{0: strings.Repeat("h", 33)}), branch("v", map[int]string{0: strings.Repeat("h", 32)}), branch("v", map[int]string{0: "\xc2\x31\x80"}),
	} {
		if node.Valid(n) {
			t.Errorf("%d may be: %+v", i, n)
		}
		if s, err := node.Put(n); s != "" || err != api.ErrArg {
			t.Errorf("%d: Put = %x, %v", i, s, err)
		}
		if all := node.Hashes(n); len(all) != 0 {
			t.Errorf("%d: Hashes = %x", i, all)
		}
	}
}

func TestBytesOfNoNode(t *testing.T) {
	empty := "\x80"
	for _, s := range []string{
		"", "a", "\x00", "\x80\x80", "\x83dog", "\xc0", "\xc1\x80", "\xc1v", "\xc2\x31", "\xc3\x31v", "\xc3\x31vv", smallLeaf + "x", "\xc2\x31\x80", "\xc3\x31\x81v",
		"\xc3\x81\x31v", "\xc2\x41v", "\xc2\x21v", "\xc2\x01v", "\xc2\x80v", "\xc2\xc0v", "\xc2\x31\xc0", "\xc3\x31\xc1v", "\xf8\x02\x31v", "\xf8", "\xff", "\xbf",
		rlp.List(rlp.Text("\x20"+strings.Repeat("\x11", 6)+"\x11"), "v"), rlp.List("\x31", rlp.Text(text(81))),
		rlp.List("\x11", smallLeaf), rlp.List("\x11", "\x80"), rlp.List("\x11", "v"), rlp.List("\x00", smallBranch), rlp.List("\x11", rlp.Text(smallBranch)),
		rlp.List("\x11", rlp.List("\x11", smallBranch)), rlp.List("\x11", byHash(1), byHash(1)), rlp.List("\x11", rlp.Text(text(33))), rlp.List("\x11", rlp.Text(text(31))),
		rlp.List(strings.Repeat(empty, 17)), rlp.List(strings.Repeat(empty, 16), "v"), rlp.List(smallLeaf, strings.Repeat(empty, 16)),
		rlp.List(smallLeaf, smallLeaf, strings.Repeat(empty, 14)), rlp.List(smallLeaf, smallLeaf, strings.Repeat(empty, 16)),
		rlp.List(smallLeaf, smallLeaf, strings.Repeat(empty, 14), smallLeaf), rlp.List("x", smallLeaf, strings.Repeat(empty, 15)),
		rlp.List(smallLeaf, smallLeaf, strings.Repeat(empty, 14), rlp.Text(text(81))), rlp.List(smallLeaf, rlp.List("\x20", rlp.Text(text(40))), strings.Repeat(empty, 15)),
		strings.Repeat("\xc1", 30) + "\xc0", strings.Repeat("\xde\x11", 15) + "\x80",
	} {
		if n, err := node.Get(s); n != (api.Node{}) || err != api.ErrMalformed {
			t.Errorf("Get(%x) = %+v, %v", s, n, err)
		}
	}
}

// Exts in one another, as deep as an inline one may have them, are told soon.
func TestDeepBytesEnd(t *testing.T) {
	s := smallBranch
	for i := 0; len(s) < 3000; i++ {
		s = rlp.List("\x11", s)
		if _, err := node.Get(s); err != api.OK && i == 0 || err != api.ErrMalformed && i > 0 {
			t.Fatal(i, err)
		}
	}
}

func TestRef(t *testing.T) {
	for _, n := range []int{0, 1, 30, 31} {
		if s := text(n); node.Ref(s) != s {
			t.Errorf("Ref of %d bytes: %x", n, node.Ref(s))
		}
	}
	for _, n := range []int{32, 33, 500} {
		if s := text(n); node.Ref(s) != "\xa0"+sha.Of(s) {
			t.Errorf("Ref of %d bytes: %x", n, node.Ref(s))
		}
	}
}

func TestHash(t *testing.T) {
	for _, b := range []byte{0, 'h', 0x80, 255} {
		if h, ok := node.Hash(byHash(b)); h != byHash(b)[1:] || !ok {
			t.Errorf("Hash = %x, %v", h, ok)
		}
	}
	for _, ref := range []string{"", "\x80", smallLeaf, text(32), text(33), byHash(1)[:32], byHash(1) + "x", "\x9f" + text(31), "\xa1" + text(33), "\xa1" + text(32), "\xe0" + text(32), "\xb8\x20" + text(32)} {
		if h, ok := node.Hash(ref); h != "" || ok {
			t.Errorf("Hash(%x) = %x, %v", ref, h, ok)
		}
	}
}

func TestInline(t *testing.T) {
	most := put(t, leaf("", text(28)))
	more := put(t, leaf("", text(29)))
	if len(most) != 31 || len(more) != 32 {
		t.Fatal(len(most), len(more))
	}
	for _, ref := range []string{smallLeaf, smallBranch, most, "\xd5\x11" + smallBranch} {
		want, _ := node.Get(ref)
		if n, ok := node.Inline(ref); n != want || !ok || n.Kind == api.None {
			t.Errorf("Inline(%x) = %+v, %v", ref, n, ok)
		}
	}
	for _, ref := range []string{"", "\x80", "x", more, byHash(1), put(t, branch("", map[int]string{0: byHash(1), 1: byHash(2)})), smallLeaf + "x", "\xc2\x31\x80"} {
		if n, ok := node.Inline(ref); n != (api.Node{}) || ok {
			t.Errorf("Inline(%x) = %+v, %v", ref, n, ok)
		}
	}
}

func TestHashes(t *testing.T) {
	h := func(b byte) string { return byHash(b)[1:] }
	for i, x := range []struct {
		n   api.Node
		all []string
	}{
		{api.Node{}, nil}, {leaf("\x01", "v"), nil}, {leaf("\x01", byHash(1)), nil}, {ext("\x01", byHash(5)), []string{h(5)}}, {ext("\x01", smallBranch), nil},
		{branch("", map[int]string{15: byHash(1), 0: byHash(3), 4: smallLeaf, 7: byHash(2)}), []string{h(3), h(2), h(1)}},
		{branch("v", map[int]string{2: byHash(4), 9: byHash(4), 11: byHash(1)}), []string{h(4), h(4), h(1)}},
		{branch(byHash(8), map[int]string{2: smallBranch}), nil},
	} {
		if all := node.Hashes(x.n); !slices.Equal(all, x.all) {
			t.Errorf("%d: Hashes = %x", i, all)
		}
	}
}

// someNode is a node that may be; an inline one has fewer than 32 bytes.
func someNode(r *rand.Rand, deep int) api.Node {
	some := func(n int) string {
		p := make([]byte, n)
		for i := range p {
			p[i] = byte(r.Intn(16))
		}
		return string(p)
	}
	ref := func() string {
		if deep > 0 && r.Intn(2) == 0 {
			if s, err := node.Put(someNode(r, deep-1)); err == api.OK && len(s) < 32 && s != "\x80" {
				return s
			}
		}
		return byHash(byte(r.Intn(256)))
	}
	switch r.Intn(3) {
	case 0:
		return leaf(some(r.Intn(13)), text(1+r.Intn(80)))
	case 1:
		return ext(some(1+r.Intn(12)), ref())
	}
	n := branch(text(r.Intn(3)), nil)
	for range 2 + r.Intn(6) {
		n.Refs[r.Intn(16)] = ref()
	}
	return n
}

// What is put is got again; whatever is got, of bytes that are a little otherwise, is what they are the Put of.
func TestPutAndGet(t *testing.T) {
	r := rand.New(rand.NewSource(1))
	for range 4000 {
		n := someNode(r, 2)
		s, err := node.Put(n)
		if (err == api.OK) != node.Valid(n) {
			t.Fatalf("Put(%+v): %v", n, err)
		}
		if err != api.OK {
			continue
		}
		if got, err := node.Get(s); got != n || err != api.OK {
			t.Fatalf("Get(%x) = %+v, %v", s, got, err)
		}
		b := []byte(s)
		b[r.Intn(len(b))] ^= 1 << r.Intn(8)
		got, err := node.Get(string(b))
		if again, _ := node.Put(got); err == api.OK && again != string(b) || err != api.OK && got != (api.Node{}) {
			t.Fatalf("Get(%x) = %+v, %v", b, got, err)
		}
	}
}

// Paths of leaves stand as nibble.Put lays them.
func TestPathsOfLeaves(t *testing.T) {
	for n := range 13 {
		p, _ := nibble.Put(path(n), true)
		if s := put(t, leaf(path(n), "v")); s != rlp.List(rlp.Text(p), "v") {
			t.Errorf("%d nibbles: %x", n, s)
		}
		if n == 0 {
			continue
		}
		p, _ = nibble.Put(path(n), false)
		if s := put(t, ext(path(n), byHash(1))); s != rlp.List(rlp.Text(p), byHash(1)) {
			t.Errorf("%d nibbles: %x", n, s)
		}
	}
}

package canon_test

import (
	"maps"
	"math/rand"
	"slices"
	"strings"
	"testing"

	"guilloche/api"
	"guilloche/canon"
	"guilloche/nibble"
	"guilloche/rlp"
	"guilloche/sha"
)

// entries are those of a map, rising.
func entries(m map[string]string) []api.Entry {
	var l []api.Entry
	for _, k := range slices.Sorted(maps.Keys(m)) {
		l = append(l, api.Entry{Key: k, Value: m[k]})
	}
	return l
}

// someMap is a map of keys that have much in common.
func someMap(r *rand.Rand, n int) map[string]string {
	m := map[string]string{}
	for range n {
		k := make([]byte, 1+r.Intn(6))
		for i := range k {
			k[i] = "aab\x00\x10\xff"[r.Intn(6)]
		}
		m[string(k)] = strings.Repeat(string(k[:1]), 1+r.Intn(40))
	}
	return m
}

// build is, by another way, the bytes of the node of some paths and values, and those of all nodes behind it that have a hash of their own.
func build(m map[string]string) (string, []string) {
	paths := slices.Sorted(maps.Keys(m))
	switch len(paths) {
	case 0:
		return "\x80", nil
	case 1:
		p, _ := nibble.Put(paths[0], true)
		return rlp.List(rlp.Text(p), rlp.Text(m[paths[0]])), nil
	}
	n := len(paths[0])
	for _, p := range paths {
		for !strings.HasPrefix(p, paths[0][:n]) {
			n--
		}
	}
	if n > 0 {
		p, _ := nibble.Put(paths[0][:n], false)
		ref, below := refer(m, paths[0][:n])
		return rlp.List(rlp.Text(p), ref), below
	}
	var items, all []string
	for i := range 16 {
		ref, below := refer(m, string([]byte{byte(i)}))
		items = append(items, ref)
		all = append(all, below...)
	}
	return rlp.List(append(items, rlp.Text(m[""]))...), all
}

// refer is the ref to the node of what begins with a path, and all that has a hash there.
func refer(m map[string]string, path string) (string, []string) {
	sub := map[string]string{}
	for k, v := range m {
		if strings.HasPrefix(k, path) {
			sub[k[len(path):]] = v
		}
	}
	if len(sub) == 0 {
		return "\x80", nil
	}
	s, below := build(sub)
	if len(s) < 32 {
		return s, below
	}
	return "\xa0" + sha.Of(s), append([]string{s}, below...)
}

func wanted(l []api.Entry) []string {
	m := map[string]string{}
	for _, e := range l {
		m[nibble.Path(e.Key)] = e.Value
	}
	top, below := build(m)
	all := []string{top}
	for _, s := range below {
		if !slices.Contains(all, s) {
			all = append(all, s)
		}
	}
	return all
}

// fill is so many entries, with keys of two bytes.
func fill(n int) []api.Entry {
	var l []api.Entry
	for i := range n {
		l = append(l, api.Entry{Key: string([]byte{'k', byte(i)}), Value: "v"})
	}
	return l
}

func text(n int) string { return strings.Repeat("v", n) }

func e(key, value string) api.Entry { return api.Entry{Key: key, Value: value} }

func TestCheck(t *testing.T) {
	for i, l := range [][]api.Entry{
		nil, {e("a", "1")}, {e("abcdef", text(80))}, {e("a", "1"), e("b", "1")}, {e("a", "1"), e("a\x00", "1")}, {e("\x00", "\x00"), e("\xff", "\xff")},
		fill(40), {e("aa", "1"), e("b", "1")},
	} {
		if err := canon.Check(l); err != api.OK {
			t.Errorf("%d: %v", i, err)
		}
	}
	for i, l := range [][]api.Entry{
		{e("", "1")}, {e("a", "")}, {e("abcdefg", "1")}, {e("a", text(81))}, {e("a", "1"), e("a", "1")}, {e("b", "1"), e("a", "1")}, {e("ab", "1"), e("a", "1")},
		{e("a", "1"), e("b", "1"), e("b", "2")}, append(fill(40), e("a", "1")), append(fill(50), e("z", "")), append(fill(41), e("kkkkkkk", "1")), {{}},
		{e("a", "1"), e("", "1")}, {e("b", "1"), e("b\xff", "1"), e("b\x80", "1")},
	} {
		if err := canon.Check(l); err != api.ErrArg {
			t.Errorf("%d: %v", i, err)
		}
	}
	for _, n := range []int{41, 200} {
		if err := canon.Check(fill(n)); err != api.ErrMany {
			t.Errorf("%d: %v", n, err)
		}
	}
}

func TestOfNoMap(t *testing.T) {
	for _, x := range []struct {
		l   []api.Entry
		err api.Errno
	}{{[]api.Entry{e("", "1")}, api.ErrArg}, {fill(41), api.ErrMany}, {append(fill(41), e("", "")), api.ErrArg}} {
		if s, err := canon.Top(x.l); s != "" || err != x.err {
			t.Error(s, err)
		}
		if s, err := canon.Root(x.l); s != "" || err != x.err {
			t.Error(s, err)
		}
		if l, err := canon.Nodes(x.l); len(l) != 0 || err != x.err {
			t.Error(l, err)
		}
		if l, err := canon.Apply(x.l, nil); len(l) != 0 || err != x.err {
			t.Error(l, err)
		}
		// What the map is is asked ahead of what the changes are.
		if l, err := canon.Apply(x.l, []api.Change{{}}); len(l) != 0 || err != x.err {
			t.Error(l, err)
		}
	}
}

func TestTops(t *testing.T) {
	empty := strings.Repeat("\x80", 14)
	for _, x := range []struct {
		l   []api.Entry
		top string
	}{
		{nil, "\x80"},
		{[]api.Entry{e("\x12", "v")}, "\xc4\x82\x20\x12v"},
		{[]api.Entry{e("\x12", "v"), e("\x34", "w")}, "\xd5\x80\xc2\x32v\x80\xc2\x34w" + empty[1:]},
		{[]api.Entry{e("\x12", "v"), e("\x13", "w")}, "\xd7\x11\xd5\x80\x80\xc2\x20v\xc2\x20w" + empty[1:]},
		{[]api.Entry{e("\x12", "v"), e("\x12\x34", "w")}, "\xd7\x82\x00\x12\xd3\x80\x80\x80\xc2\x34w" + empty[2:] + "v"},
	} {
		if s, err := canon.Top(x.l); s != x.top || err != api.OK {
			t.Errorf("Top = %x, %v; want %x", s, err, x.top)
		}
		if s, err := canon.Root(x.l); s != sha.Of(x.top) || err != api.OK {
			t.Errorf("Root = %x, %v", s, err)
		}
	}
}

func TestNodesOfMaps(t *testing.T) {
	r := rand.New(rand.NewSource(1))
	for i := range 600 {
		l := entries(someMap(r, i%41))
		before := slices.Clone(l)
		want := wanted(l)
		all, err := canon.Nodes(l)
		if !slices.Equal(all, want) || err != api.OK {
			t.Fatalf("Nodes of %q: %x, %v; want %x", l, all, err, want)
		}
		top, err := canon.Top(l)
		root, bad := canon.Root(l)
		if top != want[0] || root != sha.Of(want[0]) || err != api.OK || bad != api.OK {
			t.Fatalf("Top and Root of %q: %x, %x", l, top, root)
		}
		if !slices.Equal(l, before) {
			t.Fatal("entries were changed")
		}
	}
	if all, err := canon.Nodes(fill(40)); err != api.OK || !slices.Equal(all, wanted(fill(40))) {
		t.Error(len(all), err)
	}
}

// Two parts of a trie that are alike are one node.
func TestEachNodeOnce(t *testing.T) {
	l := []api.Entry{e("a1", text(50)), e("a2", text(50)), e("b1", text(50)), e("b2", text(50))}
	all, err := canon.Nodes(l)
	if err != api.OK || !slices.Equal(all, wanted(l)) || len(slices.Compact(slices.Sorted(slices.Values(all)))) != len(all) {
		t.Error(len(all), err)
	}
	// Ext 6, Branch, Ext 3, Branch, one leaf.
	if len(all) != 5 {
		t.Errorf("%d nodes", len(all))
	}
}

func TestOneRootAMap(t *testing.T) {
	r := rand.New(rand.NewSource(2))
	roots := map[string][]api.Entry{}
	for i := range 1500 {
		l := entries(someMap(r, i%9))
		root, _ := canon.Root(l)
		if other, ok := roots[root]; ok && !slices.Equal(other, l) {
			t.Fatalf("%q and %q have one root", l, other)
		}
		roots[root] = l
	}
}

func TestFind(t *testing.T) {
	l := []api.Entry{e("b", "1"), e("a", "2"), e("b", "3"), e("", "4"), e("c", "")}
	for _, x := range []struct {
		key, value string
		ok         bool
	}{{"b", "1", true}, {"a", "2", true}, {"", "4", true}, {"c", "", true}, {"d", "", false}, {"bb", "", false}} {
		if v, ok := canon.Find(l, x.key); v != x.value || ok != x.ok {
			t.Errorf("Find %q: %q, %v", x.key, v, ok)
		}
	}
	if v, ok := canon.Find(nil, ""); v != "" || ok {
		t.Error(v)
	}
}

func TestApply(t *testing.T) {
	put := func(k, v string) api.Change { return api.Change{Key: k, Value: v} }
	gone := func(k string) api.Change { return api.Change{Key: k, Gone: true} }
	l := []api.Entry{e("a", "1"), e("c", "3")}
	for i, x := range []struct {
		c    []api.Change
		want []api.Entry
	}{
		{nil, l},
		{[]api.Change{put("b", "2")}, []api.Entry{e("a", "1"), e("b", "2"), e("c", "3")}},
		{[]api.Change{put("a", "9"), gone("c")}, []api.Entry{e("a", "9")}},
		{[]api.Change{gone("b"), gone("a"), gone("a"), gone("c")}, nil},
		{[]api.Change{put("a", "2"), put("a", "3")}, []api.Entry{e("a", "3"), e("c", "3")}},
		{[]api.Change{put("d", "2"), gone("d")}, l},
		{[]api.Change{gone("a"), put("a", "7")}, []api.Entry{e("a", "7"), e("c", "3")}},
		{[]api.Change{put("\xff\xff\xff\xff\xff\xff", text(80)), put("\x00", "0")}, []api.Entry{e("\x00", "0"), e("a", "1"), e("c", "3"), e("\xff\xff\xff\xff\xff\xff", text(80))}},
	} {
		if got, err := canon.Apply(l, x.c); !slices.Equal(got, x.want) || err != api.OK {
			t.Errorf("%d: %q, %v", i, got, err)
		}
	}
	for i, c := range []api.Change{
		{}, put("", "1"), put("a", ""), put("abcdefg", "1"), put("a", text(81)), gone(""), gone("abcdefg"), {Key: "a", Value: "1", Gone: true},
	} {
		if got, err := canon.Apply(l, []api.Change{put("b", "2"), c, put("d", "4")}); len(got) != 0 || err != api.ErrArg {
			t.Errorf("%d: %q, %v", i, got, err)
		}
	}
}

func TestApplyOfMany(t *testing.T) {
	put := func(k string) api.Change { return api.Change{Key: k, Value: "w"} }
	l := fill(40)
	if got, err := canon.Apply(l, []api.Change{put("a")}); len(got) != 0 || err != api.ErrMany {
		t.Error(len(got), err)
	}
	// What is wrong with a change is told ahead of how many there would be.
	if got, err := canon.Apply(l, []api.Change{put("a"), put("")}); len(got) != 0 || err != api.ErrArg {
		t.Error(len(got), err)
	}
	// It is counted at the end alone.
	if got, err := canon.Apply(l, []api.Change{put("a"), put("b"), {Key: "k\x00", Gone: true}, {Key: "k\x07", Gone: true}}); len(got) != 40 || err != api.OK || got[0].Key != "a" {
		t.Error(len(got), err)
	}
	var c []api.Change
	for i := range 1000 {
		c = append(c, put(string([]byte{byte(i % 40)})))
	}
	if got, err := canon.Apply(nil, c); len(got) != 40 || err != api.OK {
		t.Error(len(got), err)
	}
}

func TestApplyLeavesWhatItIsHanded(t *testing.T) {
	l, c := fill(5), []api.Change{{Key: "k\x01", Value: "x"}, {Key: "a", Value: "y"}}
	got, _ := canon.Apply(l, c)
	if !slices.Equal(l, fill(5)) || !slices.Equal(c, []api.Change{{Key: "k\x01", Value: "x"}, {Key: "a", Value: "y"}}) {
		t.Error("arguments were changed")
	}
	same, _ := canon.Apply(l, nil)
	got[0].Value, same[0].Value = "zzz", "zzz"
	if !slices.Equal(l, fill(5)) {
		t.Error("the answer shares memory with an argument")
	}
}

func TestDiff(t *testing.T) {
	a := []api.Entry{e("a", "1"), e("b", "2"), e("d", "4")}
	b := []api.Entry{e("a", "1"), e("b", "3"), e("c", "5"), e("e", "6")}
	want := []api.Change{{Key: "b", Value: "3"}, {Key: "c", Value: "5"}, {Key: "d", Gone: true}, {Key: "e", Value: "6"}}
	if c := canon.Diff(a, b); !slices.Equal(c, want) {
		t.Error(c)
	}
	want = []api.Change{{Key: "b", Value: "2"}, {Key: "c", Gone: true}, {Key: "d", Value: "4"}, {Key: "e", Gone: true}}
	if c := canon.Diff(b, a); !slices.Equal(c, want) {
		t.Error(c)
	}
	none := []api.Entry{e("b", "1"), e("a", "1")}
	for i, x := range [][2][]api.Entry{{a, a}, {nil, nil}, {a, none}, {none, a}, {none, none}, {fill(41), a}, {a, fill(41)}} {
		if c := canon.Diff(x[0], x[1]); len(c) != 0 {
			t.Error(i, c)
		}
	}
	r := rand.New(rand.NewSource(3))
	for i := range 400 {
		a, b := entries(someMap(r, i%41)), entries(someMap(r, (i*7)%41))
		c := canon.Diff(a, b)
		if got, err := canon.Apply(a, c); !slices.Equal(got, b) || err != api.OK {
			t.Fatalf("Diff of %q and %q: %v", a, b, c)
		}
		for j, x := range c {
			v, in := canon.Find(a, x.Key)
			if j > 0 && c[j-1].Key >= x.Key || !x.Gone && in && v == x.Value || x.Gone && (!in || x.Value != "") {
				t.Fatalf("Diff of %q and %q: %v", a, b, c)
			}
		}
	}
}

func TestClashOfNone(t *testing.T) {
	a, b := []api.Entry{e("a", "1")}, []api.Entry{e("a", "2")}
	none := []api.Entry{e("", "1")}
	for i, x := range [][2][]api.Entry{{a, a}, {a, b}, {nil, nil}, {nil, a}, {none, none}, {none, a}, {a, none}, {fill(41), fill(42)}} {
		if p, q, ok := canon.Clash(x[0], x[1]); p != "" || q != "" || ok {
			t.Error(i, p, q)
		}
	}
}

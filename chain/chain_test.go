package chain_test

import (
	"maps"
	"math/rand"
	"slices"
	"strings"
	"testing"

	"guilloche/api"
	"guilloche/canon"
	"guilloche/chain"
	"guilloche/model"
	"guilloche/sha"
	"guilloche/span"
	"guilloche/wire"
)

func e(key, value string) api.Entry { return api.Entry{Key: key, Value: value} }

func put(key, value string) api.Change { return api.Change{Key: key, Value: value} }

func gone(key string) api.Change { return api.Change{Key: key, Gone: true} }

func long(b byte) string { return strings.Repeat(string([]byte{b}), 40) }

func newChain(t *testing.T, window, room, cached int) *chain.Chain {
	t.Helper()
	c, err := chain.New(window, room, cached)
	if c == nil || err != api.OK {
		t.Fatal(err)
	}
	return c
}

// commit commits what must be taken.
func commit(t *testing.T, c *chain.Chain, l ...api.Change) int {
	t.Helper()
	block, err := c.Commit(l)
	if err != api.OK {
		t.Fatal(err)
	}
	return block
}

// like tells that a chain has the versions of a model, and their nodes alone.
func like(t *testing.T, c *chain.Chain, m model.Model) {
	t.Helper()
	var blocks []int
	nodes := map[string]int{}
	for _, v := range m.All {
		blocks = append(blocks, v.Block)
		all, _ := canon.Nodes(v.Entries)
		for _, text := range all {
			nodes[sha.Of(text)]++
		}
		root, err := c.Root(v.Block)
		if root != sha.Of(all[0]) || err != api.OK {
			t.Fatalf("Root(%d) = %x, %v", v.Block, root, err)
		}
		n, err := c.Notice(v.Block)
		if n.Block != v.Block || n.Root != root || !slices.Equal(n.Changes, v.Changes) || n.Session != 0 || n.Err != 0 || err != api.OK {
			t.Fatalf("Notice(%d) = %v, %v", v.Block, n, err)
		}
	}
	if !slices.Equal(c.Blocks(), blocks) {
		t.Fatalf("Blocks = %v; want %v", c.Blocks(), blocks)
	}
	if !slices.Equal(c.Nodes(), slices.Sorted(maps.Keys(nodes))) {
		t.Fatalf("%d nodes; want %d", len(c.Nodes()), len(nodes))
	}
}

func TestExample(t *testing.T) {
	c := newChain(t, 1, 10, 1)
	block := commit(t, c, put("a", "1"))
	want, _ := canon.Root([]api.Entry{e("a", "1")})
	if root, err := c.Root(block); block != 1 || root != want || err != api.OK {
		t.Error(block, root, err)
	}
}

func TestNew(t *testing.T) {
	for _, room := range []int{0, -1, -1 << 63} {
		if c, err := chain.New(1, room, 1); c != nil || err != api.ErrFull {
			t.Error(room, err)
		}
	}
	for _, window := range []int{-5, 0, 1, 3, 8, 9, 1 << 40} {
		c := newChain(t, window, 1, -3)
		like(t, c, model.New(window))
		if c.Cached() != 0 {
			t.Error(c.Cached())
		}
		for range 12 {
			commit(t, c)
		}
		if n := len(c.Blocks()); n != min(max(window, 1), 8) {
			t.Error(window, n)
		}
		if len(c.Nodes()) != 1 {
			t.Error(len(c.Nodes()))
		}
	}
}

// keys are those that maps may have, and others.
var keys = []string{"", "a", "ab", "abc", "b", "ba", "\x00", "\xff\xff", "q", "abcdef"}

// answers tells that a version's answers are those of its map.
func answers(t *testing.T, c *chain.Chain, v model.Version) {
	t.Helper()
	root, _ := canon.Root(v.Entries)
	for _, key := range keys {
		want, in := canon.Find(v.Entries, key)
		value, err := c.Get(v.Block, key)
		if value != want || in && err != api.OK || !in && err != api.ErrNone {
			t.Fatalf("Get(%d, %q) = %q, %v", v.Block, key, value, err)
		}
		text, err := c.Prove(v.Block, key)
		p, bad := wire.Get(text)
		if err != api.OK || bad != api.OK || p.Kind != 0 || p.Root != root || p.Key != key {
			t.Fatalf("Prove(%d, %q): %v, %v, %v", v.Block, key, p, err, bad)
		}
		told, err := wire.Judge(p)
		if in && !slices.Equal(told, []api.Entry{e(key, want)}) || !in && len(told) != 0 || err != api.OK {
			t.Fatalf("Judge(%d, %q) = %v, %v", v.Block, key, told, err)
		}
	}
}

func ranges(t *testing.T, c *chain.Chain, v model.Version, from, to string, limit int) {
	t.Helper()
	root, _ := canon.Root(v.Entries)
	want := span.Between(v.Entries, span.Ends{From: from, To: to})
	more := len(want) > limit
	want = want[:min(limit, len(want))]
	some, is, err := c.Range(v.Block, from, to, limit)
	if !slices.Equal(some, want) || is != more || err != api.OK {
		t.Fatalf("Range(%d, %q, %q, %d) = %v, %v, %v", v.Block, from, to, limit, some, is, err)
	}
	text, is, err := c.ProveRange(v.Block, from, to, limit)
	if from > to {
		if text != "" || is || err != api.ErrArg {
			t.Fatalf("ProveRange(%d, %q, %q, %d): %v, %v", v.Block, from, to, limit, is, err)
		}
		return
	}
	end := to
	if more {
		end = want[limit-1].Key
	}
	p, bad := wire.Get(text)
	if is != more || err != api.OK || bad != api.OK || p.Kind != 1 || p.Root != root || p.Key != from || p.To != end {
		t.Fatalf("ProveRange(%d, %q, %q, %d): %v, %v, %v", v.Block, from, to, limit, p, is, err)
	}
	if told, err := wire.Judge(p); !slices.Equal(told, want) || err != api.OK {
		t.Fatalf("Judge(%q, %q, %d) = %v, %v; want %v", from, to, limit, told, err, want)
	}
}

// It answers as the model does, whatever is committed, pinned, and unpinned.
func TestAgainstTheModel(t *testing.T) {
	r := rand.New(rand.NewSource(1))
	for window := 1; window <= 4; window++ {
		c, m := newChain(t, window, 400, window*3-3), model.New(window)
		for range 250 {
			switch r.Intn(5) {
			case 0:
				at := r.Intn(m.Next+2) - 2
				next, want, bad := model.Pin(m, at)
				if block, err := c.Pin(at); block != want || err != bad {
					t.Fatalf("Pin(%d) = %d, %v; want %d, %v", at, block, err, want, bad)
				}
				m = next
			case 1:
				block := m.All[r.Intn(len(m.All))].Block + r.Intn(2)
				next, bad := model.Unpin(m, block)
				if err := c.Unpin(block); err != bad {
					t.Fatalf("Unpin(%d) = %v; want %v", block, err, bad)
				}
				m = next
			case 2:
				l := []api.Change{put("a", "1"), put("", "1")}[r.Intn(2):]
				next, want, bad := model.Commit(m, l)
				if block, err := c.Commit(l); block != want || err != bad {
					t.Fatalf("Commit = %d, %v; want %d, %v", block, err, want, bad)
				}
				m = next
			default:
				var l []api.Change
				for range r.Intn(4) {
					if key := keys[1+r.Intn(len(keys)-1)]; r.Intn(3) == 0 {
						l = append(l, gone(key))
					} else {
						l = append(l, put(key, strings.Repeat("v", 1+r.Intn(60))))
					}
				}
				next, want, bad := model.Commit(m, l)
				before := slices.Clone(l)
				if block, err := c.Commit(l); block != want || err != bad || !slices.Equal(l, before) {
					t.Fatalf("Commit = %d, %v; want %d, %v", block, err, want, bad)
				}
				m = next
			}
			like(t, c, m)
			v := m.All[r.Intn(len(m.All))]
			answers(t, c, v)
			ranges(t, c, v, keys[r.Intn(len(keys))], keys[r.Intn(len(keys))], 1+r.Intn(8))
			if c.Cached() > max(0, window*3-3) {
				t.Fatal(c.Cached())
			}
		}
	}
}

func TestNoVersion(t *testing.T) {
	c := newChain(t, 2, 50, 4)
	for range 3 {
		commit(t, c, put("a", "1"))
	}
	for _, block := range []int{0, 1, 4, -1, 1 << 40, -1 << 63} {
		if root, err := c.Root(block); root != "" || err != api.ErrRoot {
			t.Error(block, err)
		}
		if v, err := c.Get(block, "a"); v != "" || err != api.ErrRoot {
			t.Error(block, err)
		}
		if n, err := c.Notice(block); n.Block != 0 || n.Root != "" || len(n.Changes) != 0 || err != api.ErrRoot {
			t.Error(block, err)
		}
		// It is asked ahead of all else.
		for _, limit := range []int{1, 0} {
			if some, more, err := c.Range(block, "a", "b", limit); len(some) != 0 || more || err != api.ErrRoot {
				t.Error(block, err)
			}
			if p, more, err := c.ProveRange(block, "b", "aaaaaaa", limit); p != "" || more || err != api.ErrRoot {
				t.Error(block, err)
			}
		}
		for _, key := range []string{"a", "abcdefg"} {
			if p, err := c.Prove(block, key); p != "" || err != api.ErrRoot {
				t.Error(block, err)
			}
		}
		if block != -1 {
			if at, err := c.Pin(block); at != 0 || err != api.ErrRoot {
				t.Error(block, err)
			}
		}
		if err := c.Unpin(block); err != api.ErrRoot {
			t.Error(block, err)
		}
	}
	if c.Cached() != 0 {
		t.Error(c.Cached())
	}
}

func TestArguments(t *testing.T) {
	c := newChain(t, 2, 50, 4)
	block := commit(t, c, put("a", "1"), put("b", "2"))
	if p, err := c.Prove(block, "abcdefg"); p != "" || err != api.ErrArg {
		t.Error(err)
	}
	if _, err := c.Prove(block, "abcdef"); err != api.OK {
		t.Error(err)
	}
	for _, limit := range []int{0, -1, 9, 1 << 40} {
		if some, more, err := c.Range(block, "a", "b", limit); len(some) != 0 || more || err != api.ErrArg {
			t.Error(limit, err)
		}
		if p, more, err := c.ProveRange(block, "a", "b", limit); p != "" || more || err != api.ErrArg {
			t.Error(limit, err)
		}
	}
	for i, x := range []struct{ from, to string }{{"abcdefg", "b"}, {"a", "abcdefg"}, {"b", "a"}, {"a\x00", "a"}} {
		if p, more, err := c.ProveRange(block, x.from, x.to, 1); p != "" || more || err != api.ErrArg {
			t.Error(i, err)
		}
	}
	// Range has no such bounds.
	if some, more, err := c.Range(block, "", strings.Repeat("\xff", 7), 1); !slices.Equal(some, []api.Entry{e("a", "1")}) || !more || err != api.OK {
		t.Error(some, more, err)
	}
	if v, err := c.Get(block, "abcdefghijk"); v != "" || err != api.ErrNone {
		t.Error(v, err)
	}
}

// A commit that finds no room changes nothing; what goes makes room only behind it.
func TestFull(t *testing.T) {
	c := newChain(t, 1, 4, 4)
	m := model.New(1)
	m, _, _ = model.Commit(m, []api.Change{put("a", long('1')), put("b", long('2'))})
	if block, err := c.Commit([]api.Change{put("a", long('1')), put("b", long('2')), put("c", long('3'))}); block != 0 || err != api.ErrFull {
		t.Error(block, err)
	}
	like(t, c, model.New(1))
	// An ext, a branch, and two leaves need four; one stands there.
	if block, err := c.Commit([]api.Change{put("a", long('1')), put("b", long('2'))}); block != 0 || err != api.ErrFull {
		t.Error(block, err)
	}
	like(t, c, model.New(1))
	c = newChain(t, 1, 5, 4)
	if block := commit(t, c, put("a", long('1')), put("b", long('2'))); block != 1 {
		t.Error(block)
	}
	like(t, c, m)
	if block, err := c.Commit([]api.Change{put("a", long('3'))}); block != 0 || err != api.ErrFull {
		t.Error(block, err)
	}
	like(t, c, m)
	// What is wrong with changes is told ahead of that.
	if block, err := c.Commit([]api.Change{put("a", long('3')), put("", "")}); block != 0 || err != api.ErrArg {
		t.Error(block, err)
	}
	if block := commit(t, c, gone("a"), gone("b")); block != 2 {
		t.Error(block)
	}
	if len(c.Nodes()) != 1 {
		t.Error(len(c.Nodes()))
	}
	// A block that changes nothing needs no room.
	c = newChain(t, 8, 1, 0)
	for range 10 {
		commit(t, c, gone("x"))
	}
}

func TestCommitErrors(t *testing.T) {
	c := newChain(t, 2, 200, 0)
	var many []api.Change
	for i := range 41 {
		many = append(many, put(string([]byte{'k', byte(i)}), "v"))
	}
	if block, err := c.Commit(many); block != 0 || err != api.ErrMany {
		t.Error(block, err)
	}
	like(t, c, model.New(2))
	if block, err := c.Commit(many[:40]); block != 1 || err != api.OK {
		t.Error(block, err)
	}
}

func TestPins(t *testing.T) {
	c := newChain(t, 1, 50, 0)
	commit(t, c, put("a", "1"))
	for i, x := range []struct{ at, block int }{{-1, 1}, {1, 1}} {
		if block, err := c.Pin(x.at); block != x.block || err != api.OK {
			t.Error(i, block, err)
		}
	}
	commit(t, c, put("a", "2"))
	if v, err := c.Get(1, "a"); v != "1" || err != api.OK {
		t.Error(v, err)
	}
	if err := c.Unpin(1); err != api.OK || !slices.Equal(c.Blocks(), []int{1, 2}) {
		t.Error(err, c.Blocks())
	}
	if err := c.Unpin(1); err != api.OK || !slices.Equal(c.Blocks(), []int{2}) || len(c.Nodes()) != 1 {
		t.Error(err, c.Blocks())
	}
	if err := c.Unpin(2); err != api.ErrRoot {
		t.Error(err)
	}
}

func TestCache(t *testing.T) {
	c := newChain(t, 1, 50, 2)
	cached := func(want int) {
		t.Helper()
		if c.Cached() != want {
			t.Errorf("Cached = %d; want %d", c.Cached(), want)
		}
	}
	get := func(block int, key, want string) {
		t.Helper()
		if v, err := c.Get(block, key); v != want || want != "" && err != api.OK || want == "" && err != api.ErrNone {
			t.Errorf("Get(%d, %q) = %q, %v", block, key, v, err)
		}
	}
	commit(t, c, put("a", "1"), put("b", "2"))
	cached(0)
	get(1, "x", "")
	cached(0)
	get(1, "a", "1")
	cached(1)
	get(1, "a", "1")
	cached(1)
	// Another version's value is another thing; what versions that go had stays.
	commit(t, c, put("a", "3"))
	cached(1)
	get(2, "a", "3")
	cached(2)
	get(2, "b", "2")
	cached(2)
	// The same map again is the same root.
	commit(t, c, put("a", "1"))
	get(3, "a", "1")
	get(3, "b", "2")
	cached(2)
	c = newChain(t, 1, 50, 0)
	commit(t, c, put("a", "1"))
	get(1, "a", "1")
	cached(0)
}

func TestAnswersAreApart(t *testing.T) {
	c := newChain(t, 1, 50, 2)
	l := []api.Change{put("a", "1"), put("b", "2")}
	commit(t, c, l...)
	clear(l)
	n, _ := c.Notice(1)
	clear(n.Changes)
	clear(c.Blocks())
	clear(c.Nodes())
	some, _, _ := c.Range(1, "a", "b", 2)
	clear(some)
	m, _, _ := model.Commit(model.New(1), []api.Change{put("a", "1"), put("b", "2")})
	like(t, c, m)
	answers(t, c, m.All[0])
}

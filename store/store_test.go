package store_test

import (
	"maps"
	"math/rand"
	"slices"
	"strings"
	"testing"

	"guilloche/api"
	"guilloche/canon"
	"guilloche/node"
	"guilloche/rlp"
	"guilloche/sha"
	"guilloche/store"
)

// leafOf is a leaf that is not inline.
func leafOf(b byte) string {
	s, _ := node.Put(api.Node{Kind: api.Leaf, Path: "\x01", Value: strings.Repeat(string([]byte{b}), 40)})
	return s
}

// branchOf refers by their hashes to the nodes of these bytes.
func branchOf(nodes ...string) string {
	n := api.Node{Kind: api.Branch}
	for i, s := range nodes {
		n.Refs[i] = rlp.Text(sha.Of(s))
	}
	if len(nodes) < 2 {
		n.Value = "v"
	}
	s, _ := node.Put(n)
	return s
}

func hashes(nodes ...string) []string {
	var all []string
	for _, s := range nodes {
		all = append(all, sha.Of(s))
	}
	slices.Sort(all)
	return all
}

// add adds nodes that must be taken.
func add(t *testing.T, s *store.Store, nodes ...string) string {
	t.Helper()
	root, err := s.Add(nodes)
	if root != sha.Of(nodes[0]) || err != api.OK {
		t.Fatalf("Add = %x, %v", root, err)
	}
	return root
}

// refused tells that an add fails, and changes nothing.
func refused(t *testing.T, s *store.Store, want api.Errno, nodes ...string) {
	t.Helper()
	before, room := s.Hashes(), s.Room()
	held := map[string]int{}
	for _, h := range before {
		held[h] = s.Count(h)
	}
	if root, err := s.Add(nodes); root != "" || err != want {
		t.Errorf("Add = %x, %v; want %v", root, err, want)
	}
	if !slices.Equal(before, s.Hashes()) || s.Room() != room {
		t.Error("a failed Add changed the store")
	}
	for h, n := range held {
		if s.Count(h) != n {
			t.Error("a failed Add changed a count")
		}
	}
}

// has tells that just these nodes are there.
func has(t *testing.T, s *store.Store, size int, nodes ...string) {
	t.Helper()
	if got := s.Hashes(); !slices.Equal(got, hashes(nodes...)) || s.Room() != size-len(nodes) {
		t.Errorf("there are %d nodes, and room for %d; want %d nodes", len(got), s.Room(), len(nodes))
	}
	for _, text := range nodes {
		if got, ok := s.Get(sha.Of(text)); got != text || !ok {
			t.Errorf("Get = %x, %v", got, ok)
		}
	}
}

func TestLeafTwiceAndDropped(t *testing.T) {
	s := store.New(5)
	has(t, s, 5)
	root := add(t, s, leafOf('a'))
	if s.Held(root) != 1 || s.Count(root) != 1 {
		t.Error(s.Held(root), s.Count(root))
	}
	add(t, s, leafOf('a'))
	if s.Held(root) != 2 || s.Count(root) != 2 {
		t.Error(s.Held(root), s.Count(root))
	}
	has(t, s, 5, leafOf('a'))
	if err := s.Drop(root); err != api.OK || s.Held(root) != 1 {
		t.Error(err)
	}
	has(t, s, 5, leafOf('a'))
	if err := s.Drop(root); err != api.OK {
		t.Error(err)
	}
	has(t, s, 5)
	if text, ok := s.Get(root); text != "" || ok || s.Held(root) != 0 || s.Count(root) != 0 {
		t.Error("it is there")
	}
	if err := s.Drop(root); err != api.ErrRoot {
		t.Error(err)
	}
}

func TestDropOfNoRoot(t *testing.T) {
	s := store.New(9)
	a, b := leafOf('a'), leafOf('b')
	add(t, s, branchOf(a, b), a, b)
	// A node that is there, but is not held, is no root.
	for _, root := range []string{"", "x", sha.Of(a), sha.Of("none"), branchOf(a, b)} {
		if err := s.Drop(root); err != api.ErrRoot {
			t.Errorf("Drop(%x) = %v", root, err)
		}
	}
	has(t, s, 9, a, b, branchOf(a, b))
	if s.Held(sha.Of(a)) != 0 || s.Held(sha.Of(branchOf(a, b))) != 1 {
		t.Error("held otherwise")
	}
}

func TestMalformed(t *testing.T) {
	s := store.New(2)
	a, b := leafOf('a'), leafOf('b')
	refused(t, s, api.ErrMalformed)
	for _, none := range []string{"", "x", "\xc0", a + "x", "\x80\x80"} {
		refused(t, s, api.ErrMalformed, none)
		// Reached or not.
		refused(t, s, api.ErrMalformed, a, none)
		refused(t, s, api.ErrMalformed, none, a)
	}
	refused(t, s, api.ErrMalformed, branchOf(a, b))
	refused(t, s, api.ErrMalformed, branchOf(a, b), a)
	refused(t, s, api.ErrMalformed, branchOf(branchOf(a, b), a), branchOf(a, b), a)
	// It is told ahead of there being no room.
	refused(t, s, api.ErrMalformed, branchOf(a, branchOf(b, leafOf('c'))), a, branchOf(b, leafOf('c')), leafOf('c'))
	has(t, s, 2)
	// What is not reached need not have what it refers to.
	add(t, s, a, branchOf(b, leafOf('c')))
	has(t, s, 2, a)
}

func TestNoEntriesIsANode(t *testing.T) {
	s := store.New(1)
	root := add(t, s, "\x80")
	has(t, s, 1, "\x80")
	if s.Held(root) != 1 {
		t.Error("not held")
	}
	s = store.New(3)
	add(t, s, branchOf("\x80", leafOf('a')), "\x80", leafOf('a'))
	has(t, s, 3, "\x80", leafOf('a'), branchOf("\x80", leafOf('a')))
}

func TestRoom(t *testing.T) {
	a, b := leafOf('a'), leafOf('b')
	for _, room := range []int{0, -1, -1 << 63} {
		s := store.New(room)
		if s.Room() != 0 {
			t.Error(s.Room())
		}
		refused(t, s, api.ErrFull, a)
	}
	s := store.New(2)
	refused(t, s, api.ErrFull, branchOf(a, b), a, b)
	// One that is referred to twice needs room once; what is not reached needs none.
	add(t, s, branchOf(a, a), a, b, leafOf('c'))
	has(t, s, 2, a, branchOf(a, a))
	refused(t, s, api.ErrFull, b)
	// What is there already needs no room, be it a root or not.
	add(t, s, branchOf(a, a))
	add(t, s, a)
	if s.Held(sha.Of(a)) != 1 || s.Count(sha.Of(a)) != 3 || s.Held(sha.Of(branchOf(a, a))) != 2 {
		t.Error(s.Held(sha.Of(a)), s.Count(sha.Of(a)))
	}
	s = store.New(3)
	add(t, s, branchOf(a, b), b, a)
	has(t, s, 3, a, b, branchOf(a, b))
	if s = store.New(1<<63 - 1); s.Room() != 1<<63-1 {
		t.Error(s.Room())
	}
}

// Hashes of the store's own nodes need not be given again.
func TestNewAboveOld(t *testing.T) {
	s := store.New(10)
	a, b, c := leafOf('a'), leafOf('b'), leafOf('c')
	low := branchOf(a, b)
	add(t, s, low, a, b)
	high := branchOf(low, c)
	top := add(t, s, high, c)
	has(t, s, 10, a, b, c, low, high)
	if s.Count(sha.Of(low)) != 2 || s.Held(sha.Of(low)) != 1 || s.Count(top) != 1 || s.Count(sha.Of(c)) != 1 {
		t.Error("counted otherwise")
	}
	// What a root of its own still needs stays.
	if err := s.Drop(sha.Of(low)); err != api.OK {
		t.Error(err)
	}
	has(t, s, 10, a, b, c, low, high)
	if s.Count(sha.Of(low)) != 1 || s.Held(sha.Of(low)) != 0 {
		t.Error("counted otherwise")
	}
	add(t, s, a)
	if err := s.Drop(top); err != api.OK {
		t.Error(err)
	}
	has(t, s, 10, a)
	if s.Count(sha.Of(a)) != 1 {
		t.Error(s.Count(sha.Of(a)))
	}
}

// A node that refers to another one twice counts twice.
func TestCountOfRefs(t *testing.T) {
	a := leafOf('a')
	s := store.New(10)
	add(t, s, branchOf(a, a), a)
	add(t, s, branchOf(a, leafOf('b')), leafOf('b'))
	if n := s.Count(sha.Of(a)); n != 3 {
		t.Error(n)
	}
	// What is not in the store is counted 0, whoever refers to it.
	if n := s.Count(sha.Of("x")); n != 0 {
		t.Error(n)
	}
}

func TestAnswersAreApart(t *testing.T) {
	s := store.New(10)
	nodes := []string{branchOf(leafOf('a'), leafOf('b')), leafOf('a'), leafOf('b')}
	before := slices.Clone(nodes)
	add(t, s, nodes...)
	if !slices.Equal(nodes, before) {
		t.Error("nodes were changed")
	}
	clear(nodes)
	clear(s.Hashes())
	has(t, s, 10, before...)
	other := store.New(10)
	has(t, other, 10)
}

// someMap is a map of keys that have much in common.
func someMap(r *rand.Rand) []api.Entry {
	m := map[string]string{}
	for range r.Intn(12) {
		m[string([]byte{'k', "ab\x10"[r.Intn(3)], byte(r.Intn(4))})] = strings.Repeat(string([]byte{byte('a' + r.Intn(3))}), 1+r.Intn(60))
	}
	var l []api.Entry
	for _, k := range slices.Sorted(maps.Keys(m)) {
		l = append(l, api.Entry{Key: k, Value: m[k]})
	}
	return l
}

// There are just the nodes that are reached, whatever was added and dropped.
func TestJustWhatIsReached(t *testing.T) {
	r := rand.New(rand.NewSource(1))
	s := store.New(60)
	var held [][]string
	check := func() {
		t.Helper()
		all, times := map[string]string{}, map[string]int{}
		for _, nodes := range held {
			times[sha.Of(nodes[0])]++
			for _, text := range nodes {
				all[sha.Of(text)] = text
			}
		}
		if !slices.Equal(s.Hashes(), slices.Sorted(maps.Keys(all))) || s.Room() != 60-len(all) {
			t.Fatal("other nodes than those that are reached")
		}
		count := maps.Clone(times)
		for _, text := range all {
			n, _ := node.Get(text)
			for _, h := range node.Hashes(n) {
				count[h]++
			}
		}
		for h, text := range all {
			if got, ok := s.Get(h); got != text || !ok || s.Held(h) != times[h] || s.Count(h) != count[h] {
				t.Fatal("held or counted otherwise")
			}
		}
	}
	full := 0
	for range 1500 {
		if len(held) > 0 && r.Intn(2) == 0 {
			i := r.Intn(len(held))
			if err := s.Drop(sha.Of(held[i][0])); err != api.OK {
				t.Fatal(err)
			}
			held = slices.Delete(held, i, i+1)
		} else {
			nodes, _ := canon.Nodes(someMap(r))
			given := slices.Clone(nodes)
			r.Shuffle(len(given)-1, func(i, j int) { given[i+1], given[j+1] = given[j+1], given[i+1] })
			fresh := 0
			for _, text := range nodes {
				if _, ok := s.Get(sha.Of(text)); !ok {
					fresh++
				}
			}
			want := api.OK
			if fresh > s.Room() {
				want = api.ErrFull
				full++
			}
			if _, err := s.Add(given); err != want {
				t.Fatal(err, want)
			}
			if want == api.OK {
				held = append(held, nodes)
			}
		}
		check()
	}
	if full == 0 {
		t.Error("it was never full")
	}
	for _, nodes := range held {
		s.Drop(sha.Of(nodes[0]))
	}
	has(t, s, 60)
}

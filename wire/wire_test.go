package wire_test

import (
	"math/rand"
	"slices"
	"strings"
	"testing"

	"guilloche/api"
	"guilloche/canon"
	"guilloche/proof"
	"guilloche/rlp"
	"guilloche/sha"
	"guilloche/span"
	"guilloche/store"
	"guilloche/wire"
)

func e(key, value string) api.Entry { return api.Entry{Key: key, Value: value} }

// size is so many bytes.
func size(n int) string { return strings.Repeat("\x90", n) }

func rows(n, bytes int) []string {
	var all []string
	for range n {
		all = append(all, size(bytes))
	}
	return all
}

// stored is a store that has a map, and its root.
func stored(t *testing.T, l ...api.Entry) (*store.Store, string) {
	t.Helper()
	nodes, err := canon.Nodes(l)
	if err != api.OK {
		t.Fatal(err)
	}
	s := store.New(500)
	root, err := s.Add(nodes)
	if err != api.OK {
		t.Fatal(err)
	}
	return s, root
}

// bytesOf is the frame of a paper, laid by hand.
func bytesOf(p wire.Paper) string {
	var nodes []string
	for _, s := range p.Nodes {
		nodes = append(nodes, rlp.Text(s))
	}
	return rlp.List(rlp.Num(uint64(p.Kind)), rlp.Text(p.Root), rlp.Text(p.Key), rlp.Text(p.To), rlp.List(nodes...))
}

func TestPutAndGet(t *testing.T) {
	root := size(32)
	for i, p := range []wire.Paper{
		{Root: root}, {Kind: 1, Root: root}, {Root: root, Key: "abcdef"}, {Kind: 1, Root: root, Key: "abcdef", To: "\xff\xff\xff\xff\xff\xff"},
		{Kind: 1, Root: root, Key: "b", To: "a", Nodes: []string{"", "x", "\x80", size(56), size(1000)}}, {Root: root, Key: "a", Nodes: rows(200, 3)}, {Root: root, Nodes: rows(60, 1000)},
		{Kind: 1, Root: root, Key: "\x00", To: "\x7f", Nodes: []string{"\xc0", "\xc0"}},
	} {
		if !wire.Valid(p) {
			t.Error(i, "is not valid")
		}
		before := slices.Clone(p.Nodes)
		s, err := wire.Put(p)
		if s != bytesOf(p) || err != api.OK {
			t.Errorf("%d: Put = %x, %v", i, s, err)
		}
		got, err := wire.Get(s)
		if !wire.Same(got, p) || err != api.OK || !slices.Equal(got.Nodes, p.Nodes) || got.Kind != p.Kind || got.Root != p.Root || got.Key != p.Key || got.To != p.To {
			t.Errorf("%d: Get = %v, %v", i, got, err)
		}
		if !slices.Equal(p.Nodes, before) {
			t.Error("nodes were changed")
		}
	}
	if s, _ := wire.Put(wire.Paper{Root: root, Key: "a", Nodes: []string{"v"}}); s != "\xe6\x80\xa0"+root+"a\x80\xc1v" {
		t.Errorf("%x", s)
	}
}

func TestWhatMayNotBe(t *testing.T) {
	root := size(32)
	for i, p := range []wire.Paper{
		{Kind: 2, Root: root}, {Kind: -1, Root: root}, {Kind: 1 << 40, Root: root}, {}, {Kind: 1}, {Root: root[:31]}, {Root: root + "x"}, {Kind: 1, Root: root[:31]},
		{Root: root, Key: "abcdefg"}, {Kind: 1, Root: root, Key: "abcdefg"}, {Kind: 1, Root: root, To: "abcdefg"}, {Root: root, To: "a"}, {Root: root, Key: "a", To: "a"},
		{Root: root, Nodes: rows(201, 1)}, {Kind: 1, Root: root, Nodes: rows(201, 1)}, {Root: root, Nodes: []string{size(1001)}}, {Kind: 1, Root: root, Nodes: []string{"", "a", size(1001), "b"}},
		// What may not be is told ahead of its being too large.
		{Kind: 2, Root: root, Nodes: rows(200, 1000)}, {Root: root, Nodes: append(rows(199, 1000), size(1001))},
	} {
		if wire.Valid(p) {
			t.Error(i, "is valid")
		}
		if s, err := wire.Put(p); s != "" || err != api.ErrArg {
			t.Error(i, len(s), err)
		}
		if all, err := wire.Judge(p); len(all) != 0 || err != api.ErrArg {
			t.Error(i, all, err)
		}
	}
}

func TestLarge(t *testing.T) {
	// Of 65 nodes: by the length of the last one it is as large as it may be, or larger by one.
	for last := 500; last <= 1000; last++ {
		p := wire.Paper{Root: size(32), Nodes: append(rows(65, 995), size(last))}
		want := bytesOf(p)
		s, err := wire.Put(p)
		if len(want) > 65536 {
			if s != "" || err != api.ErrLarge || !wire.Valid(p) {
				t.Fatal(last, len(s), err)
			}
			if got, err := wire.Get(want); !wire.Same(got, wire.Paper{}) || err != api.ErrMalformed {
				t.Fatal(last, err)
			}
		} else if s != want || err != api.OK {
			t.Fatal(last, len(want), err)
		}
	}
	if s, err := wire.Put(wire.Paper{Root: size(32), Nodes: rows(200, 1000)}); s != "" || err != api.ErrLarge {
		t.Error(len(s), err)
	}
}

// At just 65536 bytes it is put, and got.
func TestAsLargeAsItMayBe(t *testing.T) {
	met := 0
	for last := range 1001 {
		p := wire.Paper{Kind: 1, Root: size(32), Key: "a", To: "b", Nodes: append(rows(65, 990), size(last))}
		want := bytesOf(p)
		if len(want) != 65536 && len(want) != 65537 {
			continue
		}
		met++
		s, err := wire.Put(p)
		got, bad := wire.Get(want)
		if len(want) == 65536 && (s != want || err != api.OK || !wire.Same(got, p) || bad != api.OK) {
			t.Error(err, bad)
		}
		if len(want) == 65537 && (s != "" || err != api.ErrLarge || bad != api.ErrMalformed) {
			t.Error(err, bad)
		}
	}
	if met != 2 {
		t.Error(met)
	}
}

func TestMalformed(t *testing.T) {
	root := rlp.Text(size(32))
	good, _ := wire.Put(wire.Paper{Root: size(32), Key: "a", Nodes: []string{"v"}})
	for _, s := range []string{
		"", "x", "\x80", "\xc0", "\xff", good + "x", good[:len(good)-1], good[1:], rlp.Text(good), rlp.List(good), good + good,
		rlp.List("\x02", root, "a", "\x80", "\xc0"), rlp.List("\x00", root, "a", "\x80", "\xc0"), rlp.List("\x81\x01", root, "a", "\x80", "\xc0"), rlp.List("\xc0", root, "a", "\x80", "\xc0"),
		rlp.List("\x88\xff\xff\xff\xff\xff\xff\xff\xff", root, "a", "\x80", "\xc0"), rlp.List("\x89\x01\x00\x00\x00\x00\x00\x00\x00\x01", root, "a", "\x80", "\xc0"),
		rlp.List("\x80", root, "a", "b", "\xc0"), rlp.List("\x80", rlp.Text(size(31)), "a", "\x80", "\xc0"), rlp.List("\x80", rlp.List(size(32)), "a", "\x80", "\xc0"),
		rlp.List("\x80", root, "\xc1a", "\x80", "\xc0"), rlp.List("\x80", root, "\x81a", "\x80", "\xc0"), rlp.List("\x80", root, "a", "\xc0", "\xc0"), rlp.List("\x80", root, "a", "\x80", "\x80"),
		rlp.List("\x80", root, "a", "\x80", "\x83abc"), rlp.List("\x80", root, "a", "\x80", "\xc1\xc0"), rlp.List("\x80", root, "a", "\x80", "\xc1\xc1"), rlp.List("\x80", root, "a", "\x80", "\xc1\x81"),
		rlp.List("\x80", root, "a", "\x80", rlp.List("\x81v")), rlp.List("\x80", root, "a", "\x80"), rlp.List("\x80", root, "a", "\x80", "\xc0", "\xc0"), rlp.List("\x80", root, "a", "\x80", "\xc0", "\x80"),
		rlp.List("\x01", root, rlp.Text("abcdefg"), "\x80", "\xc0"), rlp.List("\x01", root, "a", rlp.Text("abcdefg"), "\xc0"), rlp.List("\x01", root, "a", "b", rlp.List(rlp.Text(size(1001)))),
		rlp.List("\x01", root, "a", "b", rlp.List(rows(201, 1)...)), rlp.List("\x01", root, "a", "b", rlp.List(strings.Repeat("v", 201))), strings.Repeat("\xc1", 100), strings.Repeat("\xf8", 100),
	} {
		if p, err := wire.Get(s); !wire.Same(p, wire.Paper{}) || err != api.ErrMalformed {
			t.Errorf("Get(%x) = %v, %v", s[:min(60, len(s))], p, err)
		}
	}
}

// Bytes that are a little otherwise are another paper, or none.
func TestNothingElseIsGot(t *testing.T) {
	r := rand.New(rand.NewSource(1))
	good, _ := wire.Put(wire.Paper{Kind: 1, Root: size(32), Key: "a", To: "bc", Nodes: []string{"v", size(60), "\x80"}})
	got := 0
	for range 20000 {
		b := []byte(good)
		for range 1 + r.Intn(2) {
			b[r.Intn(len(b))] = byte(r.Intn(256))
		}
		p, err := wire.Get(string(b))
		if err != api.OK {
			if !wire.Same(p, wire.Paper{}) || err != api.ErrMalformed {
				t.Fatal(p, err)
			}
			continue
		}
		got++
		if s, err := wire.Put(p); s != string(b) || err != api.OK {
			t.Fatalf("%x is got as another one's bytes", b)
		}
	}
	if got == 0 {
		t.Error("none was got")
	}
}

func TestJudge(t *testing.T) {
	l := []api.Entry{e("a", size(40)), e("ab", "2"), e("b", size(50)), e("c", "4")}
	s, root := stored(t, l...)
	for _, key := range []string{"", "a", "ab", "b", "c", "d", "abcdef"} {
		nodes, _ := proof.Build(s, root, key)
		p := wire.Paper{Root: root, Key: key, Nodes: nodes}
		var want []api.Entry
		if v, ok := canon.Find(l, key); ok {
			want = []api.Entry{e(key, v)}
		}
		if all, err := wire.Judge(p); !slices.Equal(all, want) || err != api.OK {
			t.Errorf("Judge of %q: %v, %v", key, all, err)
		}
		// It proves the same, put and got.
		frame, _ := wire.Put(p)
		again, _ := wire.Get(frame)
		if all, err := wire.Judge(again); !slices.Equal(all, want) || err != api.OK {
			t.Errorf("Judge of %q: %v, %v", key, all, err)
		}
		p.Root = sha.Of("x")
		if all, err := wire.Judge(p); len(all) != 0 || err != api.ErrProof {
			t.Error(all, err)
		}
		p.Root, p.Nodes = root, nil
		if all, err := wire.Judge(p); len(all) != 0 || err != api.ErrProof {
			t.Error(all, err)
		}
	}
	for _, ends := range []span.Ends{{To: "z"}, {From: "a", To: "a"}, {From: "aa", To: "bb"}, {From: "x", To: "z"}, {}} {
		nodes, err := span.Build(s, root, ends)
		if err != api.OK {
			t.Fatal(err)
		}
		p := wire.Paper{Kind: 1, Root: root, Key: ends.From, To: ends.To, Nodes: nodes}
		if all, err := wire.Judge(p); !slices.Equal(all, span.Between(l, ends)) || err != api.OK {
			t.Errorf("Judge of %v: %v, %v", ends, all, err)
		}
		p.Nodes = append(nodes, "\x80")
		if all, err := wire.Judge(p); len(all) != 0 || err != api.ErrProof {
			t.Error(all, err)
		}
	}
	nodes, _ := span.Build(s, root, span.Ends{To: "z"})
	if all, err := wire.Judge(wire.Paper{Kind: 1, Root: root, Key: "z", To: "a", Nodes: nodes}); len(all) != 0 || err != api.ErrProof {
		t.Error(all, err)
	}
}

func TestSame(t *testing.T) {
	p := wire.Paper{Kind: 1, Root: "r", Key: "a", To: "b", Nodes: []string{"x", "y"}}
	same := p
	same.Nodes = []string{"x", "y"}
	if !wire.Same(p, same) || !wire.Same(wire.Paper{}, wire.Paper{Nodes: []string{}}) {
		t.Error("alike ones are not")
	}
	for i, other := range []wire.Paper{
		{Kind: 0, Root: "r", Key: "a", To: "b", Nodes: []string{"x", "y"}}, {Kind: 1, Root: "s", Key: "a", To: "b", Nodes: []string{"x", "y"}}, {Kind: 1, Root: "r", Key: "b", To: "b", Nodes: []string{"x", "y"}},
		{Kind: 1, Root: "r", Key: "a", To: "a", Nodes: []string{"x", "y"}}, {Kind: 1, Root: "r", Key: "a", To: "b", Nodes: []string{"x"}}, {Kind: 1, Root: "r", Key: "a", To: "b", Nodes: []string{"y", "x"}},
		{Kind: 1, Root: "r", Key: "a", To: "b", Nodes: []string{"x", "y", ""}}, {Kind: 1, Root: "r", Key: "a", To: "b"},
	} {
		if wire.Same(p, other) || wire.Same(other, p) {
			t.Error(i, "is alike")
		}
	}
}

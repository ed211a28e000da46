package gate_test

import (
	"maps"
	"math/rand"
	"slices"
	"strings"
	"testing"

	"guilloche/api"
	"guilloche/canon"
	"guilloche/frame"
	"guilloche/gate"
	"guilloche/sha"
)

var keys = []string{"a", "ab", "abc", "b", "ba", "c", "\x00", "\xff\xff", "abcdef"}

func changes(r *rand.Rand) []api.Change {
	var l []api.Change
	for range r.Intn(5) {
		key := keys[r.Intn(len(keys))]
		switch r.Intn(12) {
		case 0:
			key = ""
			fallthrough
		case 1, 2, 3, 4, 5, 6, 7:
			l = append(l, put(key, strings.Repeat("v", 1+r.Intn(60))))
		default:
			l = append(l, api.Change{Key: key, Gone: true})
		}
	}
	return l
}

// ask is one that sessions might ask; some are late, and some may not be.
func ask(r *rand.Rand, next *int) api.Ask {
	*next++
	a := api.Ask{Kind: r.Intn(10), Session: 1 + r.Intn(6), Seq: max(1, *next-r.Intn(4)*r.Intn(3))}
	key := keys[r.Intn(len(keys))]
	switch a.Kind {
	case 0:
		a.Session, a.At = 0, r.Intn(5)-1
	case 1, 3:
		a.Key = key
	case 2:
		a.Key, a.Limit = key, r.Intn(10)
	case 4:
		a.Key, a.To, a.Limit = key, keys[r.Intn(len(keys))], 1+r.Intn(8)
	case 7:
		a.At = r.Intn(20) - 1
	case 9:
		if r.Intn(3) > 0 {
			a.Kind = 8
		}
	}
	return a
}

func act(r *rand.Rand, next *int) api.Act {
	switch r.Intn(16) {
	case 0, 1, 2, 3:
		return api.Act{Ask: ask(r, next)}
	case 4:
		return api.Act{Kind: 1, Changes: changes(r)}
	case 5, 6, 7:
		return api.Act{Kind: 2, N: r.Intn(6)}
	case 8, 9, 10, 11:
		return api.Act{Kind: 3, N: r.Intn(6) - 2}
	case 12:
		return api.Act{Kind: 4, N: r.Intn(8) - 4}
	case 13:
		return api.Act{Kind: 5, N: r.Intn(8) - 4}
	case 14:
		return api.Act{Kind: 6, N: r.Intn(6)}
	}
	return api.Act{Kind: r.Intn(9), N: r.Intn(9) - 4, Text: strings.Repeat("x", r.Intn(3))}
}

// maps that were committed, block by block.
type versions [][]api.Entry

// within tells that nothing is beyond its room, and that just the versions that are in the window, or pinned, are there.
func within(t *testing.T, c gate.Config, g *gate.Gate, all versions) {
	t.Helper()
	kept := map[int]int{}
	for block := max(0, len(all)-c.Window); block < len(all); block++ {
		kept[block]++
	}
	if len(g.Sessions()) > c.Sessions || len(g.Up()) > c.Net || len(g.Down()) > c.Net || len(g.Queue(0)) > c.Queue || g.Stored() > 2+2*len(g.Sessions()) {
		t.Fatal("beyond its room")
	}
	there := map[int]int{0: 1}
	for _, s := range g.Sessions() {
		kept[s.Block]++
		there[s.Id]++
		if s.Deadline <= g.Clock() {
			t.Fatal("a session that should have ended", s)
		}
	}
	for id := range 200 {
		queue := g.Queue(id)
		if len(queue) > c.Queue || g.Waiting(id) > c.Queue+1 {
			t.Fatal("beyond its room")
		}
		if there[id] == 0 && (len(queue) > 0 || g.Waiting(id) > 0 || g.Follows(id)) {
			t.Fatal("something waits of a session that is not there")
		}
		if id > 0 && !slices.IsSortedFunc(queue, func(a, b api.Ask) int { return a.Seq - b.Seq }) {
			t.Fatal("not in order")
		}
	}
	if blocks := slices.Sorted(maps.Keys(kept)); !slices.Equal(blocks, g.Blocks()) {
		t.Fatalf("Blocks = %v; want %v", g.Blocks(), blocks)
	}
	nodes := map[string]int{}
	for block := range kept {
		texts, _ := canon.Nodes(all[block])
		for _, text := range texts {
			nodes[sha.Of(text)]++
		}
	}
	if !slices.Equal(g.Nodes(), slices.Sorted(maps.Keys(nodes))) {
		t.Fatalf("%d nodes; want %d", len(g.Nodes()), len(nodes))
	}
}

// Nothing grows beyond its room, an ask is run once, and what fails to be committed changes nothing.
func TestRandomActs(t *testing.T) {
	for seed := range 40 {
		r := rand.New(rand.NewSource(int64(seed)))
		c := gate.Config{Window: 1 + seed%3, Room: 8 + 4*seed, Cached: seed % 4, Sessions: 1 + seed%4, Term: 3 + seed%9, Queue: 1 + seed%4, Net: 2 + seed%9}
		g := newGate(t, c)
		all := versions{nil}
		once := map[api.Ask]int{}
		next := 0
		for range 400 {
			a := act(r, &next)
			before := g.Blocks()
			s := g.Do(a)
			if s.Err != api.OK && (s.Block != 0 || s.Ran || len(s.Sent) != 0 || s.Got != "" || s.Ask != api.Ask{}) {
				t.Fatal(s)
			}
			if a.Kind == 1 && s.Err == api.OK {
				l, err := canon.Apply(all[len(all)-1], a.Changes)
				if all = append(all, l); s.Block != len(all)-1 || err != api.OK {
					t.Fatal(s.Block, err)
				}
			} else if a.Kind == 1 && !slices.Equal(g.Blocks(), before) {
				t.Fatal("a commit that fails did something")
			}
			if s.Ran && s.Ask.Kind != 0 {
				name := api.Ask{Session: s.Ask.Session, Seq: s.Ask.Seq}
				if once[name]++; once[name] > 1 {
					t.Fatal("run twice", s.Ask)
				}
			}
			for _, text := range s.Sent {
				if frame.Kind(text) < 1 {
					t.Fatalf("%q was emitted", text)
				}
			}
			within(t, c, g, all)
		}
	}
}

package weak_test

import (
	"math/rand"
	"strings"
	"testing"

	"guilloche/api"
	"guilloche/cursor"
	"guilloche/diff"
	"guilloche/gate"
	"guilloche/proof"
	"guilloche/script"
	"guilloche/span"
	"guilloche/store"
	"guilloche/trie"
)

// some are changes of keys that begin alike.
func some(r *rand.Rand) []api.Change {
	var l []api.Change
	for range r.Intn(12) {
		key := strings.Repeat("k", r.Intn(4)) + string([]byte{byte(r.Intn(4)), byte(r.Intn(256))})
		if r.Intn(4) == 0 {
			l = append(l, api.Change{Key: key, Gone: true})
		} else {
			l = append(l, api.Change{Key: key, Value: strings.Repeat("v", 1+r.Intn(80))})
		}
	}
	return l
}

// Where nodes collide answers are free, but they end.
func TestTriesEnd(t *testing.T) {
	needsWeak(t)
	for seed := range 8 {
		r := rand.New(rand.NewSource(int64(seed)))
		s := store.New(200)
		root, _ := s.Add([]string{"\x80"})
		roots := []string{root}
		for range 60 {
			a, b := roots[r.Intn(len(roots))], roots[r.Intn(len(roots))]
			l := some(r)
			if next, err := trie.Commit(s, a, l); err == api.OK {
				roots = append(roots, next)
			}
			key := strings.Repeat("k", r.Intn(4))
			trie.Get(s, a, key)
			trie.Path(s, a, key)
			trie.All(s, a)
			cursor.Count(s, a)
			cursor.Page(s, a, key, 8)
			diff.Of(s, a, b)
			diff.Fresh(s, a, b)
			diff.Makes(s, a, l, b)
			diff.Undo(s, a, l)
			proof.Build(s, a, key)
			span.Build(s, a, span.Ends{From: key, To: "z"})
			if r.Intn(4) == 0 {
				s.Drop(a)
			}
		}
	}
}

func TestScriptsEnd(t *testing.T) {
	needsWeak(t)
	c := gate.Config{Window: 3, Room: 100, Cached: 4, Sessions: 4, Term: 40, Queue: 4, Net: 9}
	for seed := range 12 {
		r := rand.New(rand.NewSource(int64(seed)))
		var l []api.Act
		for seq := range 100 {
			a := api.Ask{Kind: r.Intn(10), Session: 1 + r.Intn(4), Seq: seq + 1}
			switch a.Kind {
			case 0, 9:
				a.Kind, a.Session, a.At = 0, 0, -1
			case 1, 3:
				a.Key = "k"
			case 2, 4:
				a.Limit = 1 + r.Intn(8)
				if a.Kind == 4 {
					a.To = "z"
				}
			case 7:
				a.At = -1
			}
			l = append(l, api.Act{Kind: 1, Changes: some(r)}, api.Act{Ask: a}, api.Act{Kind: 3}, api.Act{Kind: 2, N: a.Session}, api.Act{Kind: 6, N: 1})
		}
		got, err := script.Run(c, l)
		if len(got.Steps) != len(l) || err != api.OK {
			t.Fatal(len(got.Steps), err)
		}
		script.Replay(c, got.Ops)
	}
}

package weak_test

import (
	"slices"
	"testing"

	"guilloche/api"
	"guilloche/canon"
	"guilloche/nibble"
	"guilloche/node"
	"guilloche/proof"
	"guilloche/sha"
	"guilloche/span"
)

// way are the nodes on the way to a key, looked for among those of a map by what they are referred to as.
func way(l []api.Entry, key string) []string {
	all, _ := canon.Nodes(l)
	nodes, text, path := all[:1:1], all[0], nibble.Path(key)
	for {
		n, _ := node.Get(text)
		ref, rest := proof.Step(n, path)
		if ref == "" {
			return nodes
		}
		text, path = ref, rest
		for _, next := range all[1:] {
			if node.Ref(next) == ref {
				nodes, text = append(nodes, next), next
				break
			}
		}
	}
}

// roots are the hashes of the tops of maps.
func roots(all [][]api.Entry) []string {
	var hashes []string
	for _, l := range all {
		root, _ := canon.Root(l)
		hashes = append(hashes, root)
	}
	return hashes
}

func TestExtractOfProofs(t *testing.T) {
	needsWeak(t)
	all := maps()
	hashes := roots(all)
	met, deep := 0, 0
	for i, a := range all {
		for j, b := range all {
			if hashes[i] != hashes[j] || i == j || (i+j)%3 > 0 {
				continue
			}
			own, _ := canon.Nodes(a)
			for _, key := range []string{"k1", "k2", "kk1", "a", "x", ""} {
				nodes := way(b, key)
				c, err := proof.Verify(hashes[i], key, nodes)
				wrong := err == api.OK && !proof.Holds(a, key, c)
				p, q, ok := proof.Extract(a, key, nodes)
				if !wrong {
					if p != "" || q != "" || ok {
						t.Fatalf("%x and %x are told, but nothing is wrong", p, q)
					}
					continue
				}
				if met++; nodes[0] == own[0] {
					deep++
				}
				if x, y, is := twins(nodes, own); p != x || q != y || !ok || !is || !sha.Collide(p, q) {
					t.Fatalf("Extract(%v, %q) = %x, %x, %v", a, key, p, q, ok)
				}
			}
		}
	}
	if met < 100 || deep < 10 {
		t.Fatal("too few wrong proofs", met, deep)
	}
}

func TestExtractOfSpans(t *testing.T) {
	needsWeak(t)
	all := maps()
	hashes := roots(all)
	met, deep := 0, 0
	for i, a := range all {
		for j, b := range all {
			if hashes[i] != hashes[j] || i == j || (i+j)%3 > 0 {
				continue
			}
			own, _ := canon.Nodes(a)
			nodes, _ := canon.Nodes(b)
			for _, ends := range []span.Ends{{To: "\xff"}, {From: "k", To: "k1"}, {From: "a", To: "a"}} {
				told, err := span.Verify(hashes[i], ends, nodes)
				wrong := err == api.OK && !slices.Equal(told, span.Between(a, ends))
				p, q, ok := span.Extract(a, ends, nodes)
				if !wrong {
					if p != "" || q != "" || ok {
						t.Fatalf("%x and %x are told, but nothing is wrong", p, q)
					}
					continue
				}
				if met++; nodes[0] == own[0] {
					deep++
				}
				if x, y, is := twins(nodes, own); p != x || q != y || !ok || !is || !sha.Collide(p, q) {
					t.Fatalf("Extract(%v, %v) = %x, %x, %v", a, ends, p, q, ok)
				}
			}
		}
	}
	if met < 100 || deep < 10 {
		t.Fatal("too few wrong proofs", met, deep)
	}
}

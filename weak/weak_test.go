// Package weak has tests of what layers tell of texts that collide. None are known by SHA-256: these tests run once more with a hash of eight bits in the place of package sha.
package weak_test

import (
	"encoding/json"
	"os"
	"os/exec"
	"path/filepath"
	"strings"
	"testing"

	"guilloche/api"
	"guilloche/canon"
	"guilloche/sha"
)

// source is package sha with a hash that has few values.
const source = `package sha

import "strings"

type Hash struct{ all string }

func New() *Hash                      { return &Hash{} }
func (h *Hash) Write(s string) *Hash  { h.all += s; return h }
func (h *Hash) Sum() string           { return Of(h.all) }
func Hex(s string) string             { return s }
func Collide(a, b string) bool        { return a != b && Of(a) == Of(b) }

func Of(parts ...string) string {
	n := uint32(2166136261)
	for _, p := range parts {
		for i := range len(p) {
			n = (n ^ uint32(p[i])) * 16777619
		}
	}
	return strings.Repeat(string([]byte{byte(n>>24) ^ byte(n>>16) ^ byte(n>>8) ^ byte(n)}), 32)
}
`

// again tells that these tests run with the weak hash.
const again = "GUILLOCHE_WEAK"

// overlay is a file that tells the go command to take the weak source.
func overlay(t *testing.T) string {
	t.Helper()
	dir := t.TempDir()
	weak := filepath.Join(dir, "sha.go")
	if err := os.WriteFile(weak, []byte(source), 0o600); err != nil {
		t.Fatal(err)
	}
	files, err := filepath.Glob("../sha/*.go")
	if err != nil {
		t.Fatal(err)
	}
	replace := map[string]string{}
	for _, f := range files {
		whole, err := filepath.Abs(f)
		if err != nil {
			t.Fatal(err)
		}
		// A file that is replaced by none is left out.
		replace[whole] = ""
		if !strings.HasSuffix(f, "_test.go") {
			replace[whole], weak = weak, ""
		}
	}
	text, err := json.Marshal(map[string]any{"Replace": replace})
	if err != nil {
		t.Fatal(err)
	}
	name := filepath.Join(dir, "overlay.json")
	if err := os.WriteFile(name, text, 0o600); err != nil {
		t.Fatal(err)
	}
	return name
}

func TestWithAWeakHash(t *testing.T) {
	if os.Getenv(again) != "" {
		t.Skip("this is that run")
	}
	c := exec.Command("go", "test", "-vet=off", "-overlay", overlay(t), ".")
	c.Env = append(os.Environ(), again+"=1")
	if out, err := c.CombinedOutput(); err != nil {
		t.Fatalf("%v\n%s", err, out)
	}
}

// needsWeak leaves a test out where the hash is not weak.
func needsWeak(t *testing.T) {
	t.Helper()
	if os.Getenv(again) == "" {
		t.Skip("of the run with a weak hash")
	}
	if h := sha.Of("a"); h != strings.Repeat(h[:1], 32) {
		t.Fatal("the hash is not weak")
	}
}

// maps are small maps, many of them of one root.
func maps() [][]api.Entry {
	var all [][]api.Entry
	for i := range 26 {
		for j := range 12 {
			v := strings.Repeat(string([]byte{byte('a' + i)}), 3*j+1)
			all = append(all, []api.Entry{{Key: "k1", Value: v}},
				[]api.Entry{{Key: "k1", Value: v}, {Key: "k2", Value: strings.Repeat("w", 40)}, {Key: "m", Value: "x"}},
				[]api.Entry{{Key: "a", Value: strings.Repeat("y", 50)}, {Key: "kk1", Value: v + strings.Repeat("z", 30)}, {Key: "kk2", Value: strings.Repeat("w", 40)}})
		}
	}
	return all
}

// twins are, by another way, the first texts of two lists that collide.
func twins(a, b []string) (string, string, bool) {
	for i := range len(a) * len(b) {
		if x, y := a[i/len(b)], b[i%len(b)]; x != y && sha.Of(x) == sha.Of(y) {
			return x, y, true
		}
	}
	return "", "", false
}

func TestClash(t *testing.T) {
	needsWeak(t)
	all, deep, met := maps(), 0, 0
	var nodes [][]string
	for _, a := range all {
		n, _ := canon.Nodes(a)
		nodes = append(nodes, n)
	}
	for i, a := range all {
		for j, b := range all[:i] {
			one, other := nodes[i], nodes[j]
			alike := sha.Of(one[0]) == sha.Of(other[0])
			if !alike && (i+j)%97 > 0 {
				continue
			}
			p, q, ok := canon.Clash(a, b)
			if !alike {
				if p != "" || q != "" || ok {
					t.Fatalf("%v and %v have two roots, but clash", a, b)
				}
				continue
			}
			if met++; one[0] == other[0] {
				deep++
			}
			if x, y, is := twins(one, other); p != x || q != y || !ok || !is || !sha.Collide(p, q) {
				t.Fatalf("Clash(%v, %v) = %x, %x, %v", a, b, p, q, ok)
			}
		}
		if p, q, ok := canon.Clash(a, a); p != "" || q != "" || ok {
			t.Fatal("a map clashes with itself")
		}
	}
	if met < 100 || deep < 10 {
		t.Fatal("too few maps of one root", met, deep)
	}
}

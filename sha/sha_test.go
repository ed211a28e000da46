package sha_test

import (
	"crypto/sha256"
	"encoding/hex"
	"math/rand"
	"slices"
	"strings"
	"testing"

	"guilloche/sha"
)

// want is the hash by another program.
func want(s string) string {
	sum := sha256.Sum256([]byte(s))
	return string(sum[:])
}

func someText(r *rand.Rand, n int) string {
	b := make([]byte, n)
	r.Read(b)
	return string(b)
}

func TestExample(t *testing.T) {
	if s := sha.Hex(sha.Of("abc")); s != "ba7816bf8f01cfea414140de5dae2223b00361a396177a9cb410ff61f20015ad" {
		t.Error(s)
	}
}

func TestEachLength(t *testing.T) {
	r := rand.New(rand.NewSource(1))
	for n := range 400 {
		for _, s := range []string{someText(r, n), strings.Repeat("\x00", n), strings.Repeat("\xff", n)} {
			if got := sha.Of(s); got != want(s) {
				t.Fatalf("Of %d bytes: %x", n, got)
			}
		}
	}
	for _, n := range []int{1000, 65535, 65536, 1 << 21, 1<<21 + 57} {
		if s := someText(r, n); sha.Of(s) != want(s) {
			t.Errorf("Of %d bytes", n)
		}
	}
}

func TestParts(t *testing.T) {
	if sha.Of() != want("") || sha.Of("") != want("") || sha.Of("", "", "") != want("") {
		t.Error("of nothing")
	}
	r := rand.New(rand.NewSource(2))
	for range 300 {
		var parts []string
		for range r.Intn(6) {
			parts = append(parts, someText(r, r.Intn(150)))
		}
		before := slices.Clone(parts)
		all := strings.Join(parts, "")
		if sha.Of(parts...) != want(all) {
			t.Fatalf("Of %d parts, of %d bytes", len(parts), len(all))
		}
		if !slices.Equal(parts, before) {
			t.Fatal("parts were changed")
		}
		h := sha.New()
		for _, p := range parts {
			if h.Write(p) != h {
				t.Fatal("Write answers another one")
			}
		}
		if h.Sum() != want(all) {
			t.Fatalf("written in %d parts, of %d bytes", len(parts), len(all))
		}
	}
}

func TestSumLetsMoreBeWritten(t *testing.T) {
	h := sha.New()
	if h.Sum() != want("") {
		t.Error("of nothing yet")
	}
	all := ""
	for i := range 200 {
		s := strings.Repeat("a", i%7)
		all += s
		if h.Write(s); h.Sum() != want(all) || h.Sum() != want(all) {
			t.Fatalf("behind %d bytes", len(all))
		}
	}
}

func TestTwoHashesAreApart(t *testing.T) {
	a, b := sha.New(), sha.New()
	a.Write("a")
	b.Write("b")
	a.Write(strings.Repeat("c", 70))
	if a.Sum() != want("a"+strings.Repeat("c", 70)) || b.Sum() != want("b") || sha.New().Sum() != want("") {
		t.Error("one was written into the other one")
	}
}

func TestHex(t *testing.T) {
	if s := sha.Hex(""); s != "" {
		t.Error(s)
	}
	for b := range 256 {
		s := string([]byte{byte(b), byte(255 - b)})
		if sha.Hex(s) != hex.EncodeToString([]byte(s)) {
			t.Errorf("Hex(%x) = %s", s, sha.Hex(s))
		}
	}
}

func TestCollide(t *testing.T) {
	for _, x := range [][2]string{{"", ""}, {"a", "a"}, {"a", "b"}, {"", "a"}, {"ab", "a"}} {
		if sha.Collide(x[0], x[1]) {
			t.Errorf("%q and %q collide", x[0], x[1])
		}
	}
}

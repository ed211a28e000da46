package nibble_test

import (
	"math/rand"
	"testing"

	"guilloche/nibble"
)

// somePath is a path of the given number of nibbles.
func somePath(r *rand.Rand, n int) string {
	p := make([]byte, n)
	for i := range p {
		p[i] = byte(r.Intn(16))
	}
	return string(p)
}

func someText(r *rand.Rand, n int) string {
	b := make([]byte, n)
	r.Read(b)
	return string(b)
}

func TestPathTellsHighBitsFirst(t *testing.T) {
	for _, x := range []struct{ k, p string }{
		{"", ""}, {"\x00", "\x00\x00"}, {"\xff", "\x0f\x0f"}, {"\x1a\x2b", "\x01\x0a\x02\x0b"}, {"a", "\x06\x01"},
	} {
		if p := nibble.Path(x.k); p != x.p {
			t.Errorf("Path(%x) = %x", x.k, p)
		}
	}
	for b := 0; b < 256; b++ {
		if p := nibble.Path(string([]byte{byte(b)})); p != string([]byte{byte(b / 16), byte(b % 16)}) {
			t.Errorf("Path of byte %d: %x", b, p)
		}
	}
}

func TestKeyUndoesPath(t *testing.T) {
	r := rand.New(rand.NewSource(1))
	for n := 0; n < 40; n++ {
		k := someText(r, n)
		if got, ok := nibble.Key(nibble.Path(k)); got != k || !ok {
			t.Errorf("Key(Path(%x)) = %x, %v", k, got, ok)
		}
		p := somePath(r, n)
		got, ok := nibble.Key(p)
		if ok != (n%2 == 0) || ok && nibble.Path(got) != p || !ok && got != "" {
			t.Errorf("Key(%x) = %x, %v", p, got, ok)
		}
	}
}

func TestKeyOfNoPath(t *testing.T) {
	for _, p := range []string{"\x01", "\x01\x02\x03", "\x10\x01", "\x01\x10", "\xff\xff", "ab", "\x00\x80"} {
		if k, ok := nibble.Key(p); k != "" || ok {
			t.Errorf("Key(%x) = %x, %v", p, k, ok)
		}
	}
}

func TestValid(t *testing.T) {
	for b := 0; b < 256; b++ {
		one := string([]byte{byte(b)})
		for _, p := range []string{one, "\x00" + one, one + "\x0f", "\x01\x02" + one + "\x03"} {
			if nibble.Valid(p) != (b < 16) {
				t.Errorf("Valid(%x) = %v", p, nibble.Valid(p))
			}
		}
	}
	if !nibble.Valid("") {
		t.Error("the empty path is none")
	}
}

func TestCommon(t *testing.T) {
	for _, x := range []struct {
		a, b string
		n    int
	}{
		{"", "", 0}, {"", "a", 0}, {"a", "", 0}, {"a", "a", 1}, {"a", "b", 0}, {"ab", "a", 1}, {"a", "ab", 1},
		{"abc", "abd", 2}, {"xbc", "abc", 0}, {"abab", "abab", 4}, {"\xff\xfe", "\xff\xff", 1}, {"axc", "abc", 1},
	} {
		if n := nibble.Common(x.a, x.b); n != x.n {
			t.Errorf("Common(%q, %q) = %d", x.a, x.b, n)
		}
	}
}

func TestPutExamples(t *testing.T) {
	for _, x := range []struct {
		p    string
		leaf bool
		s    string
	}{
		{"\x01\x02\x03", true, "\x31\x23"}, {"", false, "\x00"}, {"", true, "\x20"},
		{"\x07", false, "\x17"}, {"\x07", true, "\x37"}, {"\x0a\x0b", false, "\x00\xab"}, {"\x0a\x0b", true, "\x20\xab"},
	} {
		if s, ok := nibble.Put(x.p, x.leaf); s != x.s || !ok {
			t.Errorf("Put(%x, %v) = %x, %v", x.p, x.leaf, s, ok)
		}
		if p, leaf, ok := nibble.Get(x.s); p != x.p || leaf != x.leaf || !ok {
			t.Errorf("Get(%x) = %x, %v, %v", x.s, p, leaf, ok)
		}
	}
}

func TestPutOfNoPath(t *testing.T) {
	for _, p := range []string{"\x10", "\x01\x02\x10", "a", "\xff\x00"} {
		for _, leaf := range []bool{false, true} {
			if s, ok := nibble.Put(p, leaf); s != "" || ok {
				t.Errorf("Put(%x) = %x, %v", p, s, ok)
			}
		}
	}
}

func TestWhatIsPutIsGotAgain(t *testing.T) {
	r := rand.New(rand.NewSource(2))
	for n := 0; n < 60; n++ {
		for _, leaf := range []bool{false, true} {
			p := somePath(r, n)
			s, ok := nibble.Put(p, leaf)
			if !ok || len(s) != n/2+1 {
				t.Fatalf("Put(%x) = %x, %v", p, s, ok)
			}
			if q, of, ok := nibble.Get(s); q != p || of != leaf || !ok {
				t.Errorf("Get(%x) = %x, %v, %v", s, q, of, ok)
			}
		}
	}
}

// Every text of one or two bytes, and none: it is got just if it is the Put of what is got.
func TestNothingElseIsGot(t *testing.T) {
	texts := []string{""}
	for a := 0; a < 256; a++ {
		texts = append(texts, string([]byte{byte(a)}))
		for b := 0; b < 256; b++ {
			texts = append(texts, string([]byte{byte(a), byte(b)}))
		}
	}
	for _, s := range texts {
		p, leaf, ok := nibble.Get(s)
		may := s != "" && (s[0]>>4 == 1 || s[0]>>4 == 3 || s[0] == 0 || s[0] == 0x20)
		if ok != may {
			t.Fatalf("Get(%x) = %x, %v, %v", s, p, leaf, ok)
		}
		if !ok && (p != "" || leaf) {
			t.Fatalf("Get(%x) tells %x, %v beside false", s, p, leaf)
		}
		if again, _ := nibble.Put(p, leaf); ok && again != s {
			t.Fatalf("Get(%x) is the Put of %x", s, again)
		}
	}
}

func TestTextsStandAsTheirPaths(t *testing.T) {
	r := rand.New(rand.NewSource(3))
	for range 2000 {
		a, b := someText(r, r.Intn(4)), someText(r, r.Intn(4))
		if r.Intn(2) == 0 {
			b = a[:r.Intn(len(a)+1)] + b
		}
		if (a < b) != (nibble.Path(a) < nibble.Path(b)) {
			t.Errorf("%x and %x stand otherwise than their paths", a, b)
		}
	}
}

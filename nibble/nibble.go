// Package nibble is layer 1: paths of half bytes.
package nibble

// largest is the greatest nibble.
const largest = 15

// Path is a text's nibbles: of each byte the higher four bits, and the lower four.
func Path(k string) string {
	p := make([]byte, 2*len(k))
	for i := range len(k) {
		p[2*i], p[2*i+1] = k[i]>>4, k[i]&largest
	}
	return string(p)
}

// Key is the text of which p is the Path, if there is one.
func Key(p string) (string, bool) {
	if len(p)%2 != 0 || !Valid(p) {
		return "", false
	}
	return pack(p), true
}

// Valid tells whether p is a path: bytes from 0 to 15 alone.
func Valid(p string) bool {
	for i := range len(p) {
		if p[i] > largest {
			return false
		}
	}
	return true
}

// Common is how many bytes both texts begin with alike.
func Common(a, b string) int {
	for i := range min(len(a), len(b)) {
		if a[i] != b[i] {
			return i
		}
	}
	return min(len(a), len(b))
}

// Put is a path as bytes, with a flag in front.
func Put(p string, leaf bool) (string, bool) {
	if !Valid(p) {
		return "", false
	}
	odd := func() bool { return len(p)%2 == 1 }
	return pack(front(leaf, odd) + p), true
}

// Get is the path, and whether it is of a leaf, of which s is the Put.
func Get(s string) (string, bool, bool) {
	if s == "" {
		return "", false, false
	}
	n := Path(s)
	leaf := false
	switch n[0] {
	case 3:
		leaf = true
		fallthrough
	case 1:
		return n[1:], leaf, true
	case 2:
		leaf = true
		fallthrough
	case 0:
		if n[1] == 0 {
			return n[2:], leaf, true
		}
	}
	return "", false, false
}

// front is the nibbles that stand ahead of a path: its flag, and, if the path is even, one more, so that whole bytes come of it.
func front(leaf bool, odd func() bool) string {
	flag := byte(0)
	if leaf {
		flag += 2
	}
	if odd() {
		return string([]byte{flag + 1})
	}
	return string([]byte{flag, 0})
}

// pack lays two nibbles into each byte, the first one the higher.
func pack(p string) string {
	b := make([]byte, len(p)/2)
	for i := range b {
		b[i] = p[2*i]<<4 | p[2*i+1]
	}
	return string(b)
}

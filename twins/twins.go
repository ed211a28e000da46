// Package twins looks for two texts of one hash: canon, proof and span tell such ones where two lists of nodes can't both be right.
package twins

import "guilloche/sha"

// First is the first one of a, and the first one of b, that collide with each other: the first such one of a, and its first one of b.
func First(a, b []string) (string, string, bool) {
	var hashes []string
	for _, y := range b {
		hashes = append(hashes, sha.Of(y))
	}
	for _, x := range a {
		hash := sha.Of(x)
		for i, y := range b {
			if hashes[i] == hash && x != y {
				return x, y, true
			}
		}
	}
	return "", "", false
}

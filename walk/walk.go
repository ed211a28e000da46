// Package walk is what trie, cursor, diff, proof and span share: how one goes from node to node.
package walk

import (
	"iter"
	"strings"

	"guilloche/api"
	"guilloche/nibble"
	"guilloche/node"
	"guilloche/store"
)

// Most is more nodes than the trie of a map has (a leaf an entry, a branch for each two of them, an ext a branch): who has met so many is in no such trie, and may stop.
const Most = 4 * api.MaxEntries

// Root is the node of a root, and its bytes, if the store has it.
func Root(s *store.Store, root string) (api.Node, string, bool) {
	if s == nil {
		return api.Node{}, "", false
	}
	text, ok := s.Get(root)
	if !ok {
		return api.Node{}, "", false
	}
	n, err := node.Get(text)
	return n, text, err == api.OK
}

// Node is the node that a ref refers to, and its bytes, if it is not inline.
func Node(s *store.Store, ref string) (api.Node, string, bool) {
	if hash, ok := node.Hash(ref); ok {
		return Root(s, hash)
	}
	n, ok := node.Inline(ref)
	return n, "", ok
}

// Step is where a path leads on from a node: the ref, and what is left of the path; no ref, and the path, if it leads nowhere.
func Step(n api.Node, path string) (string, string) {
	ref, rest := "", path
	switch {
	case n.Kind == api.Branch && path != "" && int(path[0]) < len(n.Refs):
		ref, rest = n.Refs[path[0]], path[1:]
	case n.Kind == api.Ext && strings.HasPrefix(path, n.Path):
		ref, rest = n.Refs[0], path[len(n.Path):]
	}
	if ref == "" {
		return "", path
	}
	return ref, rest
}

// Value is what a node itself has at a path.
func Value(n api.Node, path string) (string, bool) {
	ends := n.Kind == api.Leaf && path == n.Path || n.Kind == api.Branch && path == "" && n.Value != ""
	if !ends {
		return "", false
	}
	return n.Value, true
}

// Entry is what a node itself has, if it stands at a path.
func Entry(n api.Node, path string) (api.Entry, bool) {
	value, ok := Value(n, n.Path)
	key, is := nibble.Key(path + n.Path)
	if !ok || !is {
		return api.Entry{}, false
	}
	return api.Entry{Key: key, Value: value}, true
}

// Refs tells all refs of a node that stands at a path: the path of each, and it, in order.
func Refs(n api.Node, path string) iter.Seq2[string, string] {
	return func(yield func(string, string) bool) {
		for i, ref := range n.Refs {
			at := path + n.Path
			if n.Kind == api.Branch {
				at += string([]byte{byte(i)})
			}
			if ref != "" && !yield(at, ref) {
				return
			}
		}
	}
}

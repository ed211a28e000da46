package trie

import (
	"iter"

	"guilloche/api"
	"guilloche/nibble"
	"guilloche/node"
	"guilloche/store"
	"guilloche/walk"
)

// part is a trie, or what is below a node of one, of which others are made by changes; it is never changed itself.
type part interface {
	// with is the part in which a path has a value.
	with(path, value string) part
	// without is the part in which it has none.
	without(path string) part
}

// nothing is the part of no entries.
type nothing struct{}

// leaf is the part of one entry.
type leaf struct{ path, value string }

// ext is a part all of whose paths begin alike.
type ext struct {
	path  string
	below part
}

// branch is a part of several nibbles; it is nil where there is none.
type branch struct {
	value string
	below [16]part
}

// far is a part that stands in the store, and was not asked for yet.
type far struct {
	store *store.Store
	ref   string
}

// open is the part of a node.
func open(s *store.Store, n api.Node) part {
	switch n.Kind {
	case api.Leaf:
		return leaf{n.Path, n.Value}
	case api.Ext:
		return ext{n.Path, refer(s, n.Refs[0])}
	case api.Branch:
		b := branch{value: n.Value}
		for i, ref := range n.Refs {
			if ref != "" {
				b.below[i] = refer(s, ref)
			}
		}
		return b
	}
	return nothing{}
}

// refer is the part that a ref refers to.
func refer(s *store.Store, ref string) part {
	if n, ok := node.Inline(ref); ok {
		return open(s, n)
	}
	return far{s, ref}
}

// near is the part itself, read from the store, if need be.
func near(p part) part {
	f, ok := p.(far)
	if !ok {
		return p
	}
	n, _, _ := walk.Node(f.store, f.ref)
	return open(f.store, n)
}

// lead is a part with a path ahead of all of its own.
func lead(path string, p part) part {
	if path == "" {
		return p
	}
	switch x := near(p).(type) {
	case nothing:
		return x
	case leaf:
		return leaf{path + x.path, x.value}
	case ext:
		return ext{path + x.path, x.below}
	}
	return ext{path, p}
}

func (nothing) with(path, value string) part { return leaf{path, value} }

func (n nothing) without(string) part { return n }

func (l leaf) with(path, value string) part {
	if path == l.path {
		return leaf{path, value}
	}
	n := nibble.Common(path, l.path)
	return lead(path[:n], branch{}.with(l.path[n:], l.value).with(path[n:], value))
}

func (l leaf) without(path string) part {
	if path == l.path {
		return nothing{}
	}
	return l
}

func (e ext) with(path, value string) part {
	n := nibble.Common(path, e.path)
	if n == len(e.path) {
		return lead(e.path, e.below.with(path[n:], value))
	}
	fork := branch{}
	fork.below[e.path[n]] = lead(e.path[n+1:], e.below)
	return lead(path[:n], fork.with(path[n:], value))
}

func (e ext) without(path string) part {
	n := nibble.Common(path, e.path)
	if n < len(e.path) {
		return e
	}
	return lead(e.path, e.below.without(path[n:]))
}

func (b branch) with(path, value string) part {
	if path == "" {
		b.value = value
		return b
	}
	i := path[0]
	if b.below[i] == nil {
		b.below[i] = nothing{}
	}
	b.below[i] = b.below[i].with(path[1:], value)
	return b
}

func (b branch) without(path string) part {
	if path == "" {
		b.value = ""
		return b.shrunk()
	}
	i := path[0]
	if b.below[i] == nil {
		return b
	}
	b.below[i] = b.below[i].without(path[1:])
	if _, ok := b.below[i].(nothing); ok {
		b.below[i] = nil
	}
	return b.shrunk()
}

func (f far) with(path, value string) part { return near(f).with(path, value) }

func (f far) without(path string) part { return near(f).without(path) }

// shrunk is the branch itself, or, if one thing alone is left of it, that.
func (b branch) shrunk() part {
	last, n := 0, 0
	for i, p := range b.below {
		if p != nil {
			last = i
			n++
		}
	}
	switch {
	case n == 0 && b.value == "":
		return nothing{}
	case n == 0:
		return leaf{"", b.value}
	case n == 1 && b.value == "":
		return lead(string([]byte{byte(last)}), b.below[last])
	}
	return b
}

// tree is a node's bytes, how it is referred to, and the trees below it; of what is far the ref alone.
type tree struct {
	text, ref string
	below     []tree
}

// grow is the tree of a part.
func grow(p part) tree {
	n := api.Node{}
	var below []tree
	switch x := p.(type) {
	case far:
		return tree{ref: x.ref}
	case leaf:
		n = api.Node{Kind: api.Leaf, Path: x.path, Value: x.value}
	case ext:
		n = api.Node{Kind: api.Ext, Path: x.path}
		below = append(below, grow(x.below))
		n.Refs[0] = below[0].ref
	case branch:
		n = api.Node{Kind: api.Branch, Value: x.value}
		for i, sub := range x.below {
			if sub != nil {
				t := grow(sub)
				n.Refs[i] = t.ref
				below = append(below, t)
			}
		}
	}
	text, _ := node.Put(n)
	return tree{text, node.Ref(text), below}
}

// texts tells the bytes of all nodes that are neither inline nor far, each ahead of what it refers to.
func (t tree) texts() iter.Seq[string] {
	return func(yield func(string) bool) { t.tell(yield) }
}

// tell tells them till no more is asked for, and whether it is.
func (t tree) tell(yield func(string) bool) bool {
	if t.ref != t.text && t.text != "" && !yield(t.text) {
		return false
	}
	for _, sub := range t.below {
		if !sub.tell(yield) {
			return false
		}
	}
	return true
}

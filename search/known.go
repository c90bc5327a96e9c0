package search

import (
	"relucert/api"
	"relucert/derive"
	"relucert/phase"
)

// known is a tree of the paths of entries that apply. Its kids are found by the texts of their decisions; first is the one that was added first.
type known struct {
	leaf  *api.Node
	first *api.Decision
	kids  map[string]*known
}

// collect returns the tree of those entries that apply; nothing about the others is used.
func collect(q api.Query, entries []api.Entry) *known {
	root := &known{}
	for i := range entries {
		if Applies(q, entries[i]) {
			root.add(entries[i].Path, &entries[i].Leaf)
		}
	}
	return root
}

// Applies reports whether an entry applies to the part with its path.
func Applies(q api.Query, e api.Entry) bool {
	n := e.Leaf
	if len(n.Kids) > 0 || n.Split.Kind != 0 || n.Split.Index != 0 || n.Split.At.Neg || len(n.Split.At.Num)+len(n.Split.At.Den) > 0 {
		return false
	}
	if _, errno := phase.Path(e.Path, len(q.Graph.Units)); errno != api.OK {
		return false
	}
	s := api.Scope{Query: q, Path: e.Path, Lemmas: n.Lemmas}
	if !derive.Scope(s) {
		return false
	}
	if n.Empty {
		return derive.Refutes(s, n.Proof)
	}
	return derive.Proves(s, q.Goal, n.Proof)
}

func (k *known) add(path []api.Decision, leaf *api.Node) {
	for i := range path {
		if k.kids == nil {
			k.kids = map[string]*known{}
			k.first = &path[i]
		}
		text := phase.Text(path[i])
		if k.kids[text] == nil {
			k.kids[text] = &known{}
		}
		k = k.kids[text]
	}
	if k.leaf == nil {
		k.leaf = leaf
	}
}

// kid returns the entries behind a decision, or nil.
func (k *known) kid(d api.Decision) *known {
	if k == nil {
		return nil
	}
	return k.kids[phase.Text(d)]
}

// covered reports whether the entries that are found along the first decisions are the leaves of a whole tree.
func (k *known) covered() bool {
	switch {
	case k == nil:
		return false
	case k.leaf != nil:
		return true
	case k.first == nil:
		return false
	}
	return k.kid(*k.first).covered() && k.kid(phase.Opposite(*k.first)).covered()
}

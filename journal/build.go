package journal

import (
	"slices"

	"relucert/api"
	"relucert/phase"
)

// node is a node of the tree of entries: unknown, a leaf, or an inner node with two kids.
type node struct {
	leaf  *api.Node
	split api.Decision
	kids  [2]*node
}

func equal(a, b api.Decision) bool {
	return a.Kind == b.Kind && a.Index == b.Index && a.At.Neg == b.At.Neg && slices.Equal(a.At.Num, b.At.Num) && slices.Equal(a.At.Den, b.At.Den)
}

// continued returns the kid to which a decision leads, or false if it does not fit.
func (n *node) continued(d api.Decision) (*node, bool) {
	if n.leaf != nil {
		return nil, false
	}
	if n.kids[0] == nil {
		n.split = d
		if d.Kind == api.DecOff || d.Kind == api.DecAbove {
			n.split = phase.Opposite(d)
		}
		n.kids = [2]*node{{}, {}}
	}
	switch {
	case equal(d, n.split):
		return n.kids[0], true
	case equal(d, phase.Opposite(n.split)):
		return n.kids[1], true
	}
	return nil, false
}

// add adds an entry and reports whether it fits.
func (n *node) add(e api.Entry) bool {
	for _, d := range e.Path {
		next, ok := n.continued(d)
		if !ok {
			return false
		}
		n = next
	}
	if n.kids[0] != nil {
		return false
	}
	if n.leaf == nil {
		n.leaf = &e.Leaf
	}
	return true
}

// size returns the number of nodes.
func (n *node) size() int {
	if n.kids[0] == nil {
		return 1
	}
	return 1 + n.kids[0].size() + n.kids[1].size()
}

// convert returns the tree, and appends the paths of the unknown nodes. The capacity of path serves as a stack.
func (n *node) convert(path []api.Decision, missing *[][]api.Decision) api.Node {
	switch {
	case n.leaf != nil:
		return *n.leaf
	case n.kids[0] == nil:
		*missing = append(*missing, slices.Clone(path))
		return api.Node{}
	}
	out := api.Node{Split: n.split}
	for i, d := range [2]api.Decision{n.split, phase.Opposite(n.split)} {
		out.Kids = append(out.Kids, n.kids[i].convert(append(path, d), missing))
	}
	return out
}

// Build returns the tree of some entries, and the paths of the missing nodes.
func Build(l []api.Entry) (api.Node, [][]api.Decision, api.Errno) {
	if slices.ContainsFunc(l, func(e api.Entry) bool { return !valid(e) }) {
		return api.Node{}, nil, api.ErrArg
	}
	root := &node{}
	for _, e := range l {
		if !root.add(e) {
			return api.Node{}, nil, api.ErrMismatch
		}
	}
	// Paths have at most MaxDepth decisions, so that only the number of nodes may be too great.
	if root.size() > api.MaxNodes {
		return api.Node{}, nil, api.ErrLimit
	}
	var missing [][]api.Decision
	out := root.convert(nil, &missing)
	return out, missing, api.OK
}

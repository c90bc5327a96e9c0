// Package lemmas removes the lemmas that a certificate tree does not need. The search and layer 49 use it.
package lemmas

import (
	"slices"
	"sort"

	"relucert/api"
)

// Prune returns a tree without the lemmas that are not needed, as layer 49 defines it. Nodes have no kids or two.
func Prune(n api.Node) api.Node {
	var m marker
	return rewrite(n, m.mark(n), 0, nil)
}

// marker finds the lemmas that are needed: used has, for each number of a lemma on the current path, whether a proof uses it.
type marker struct{ used []bool }

// needed is a tree of the lemmas of the nodes that are needed.
type needed struct {
	own  []bool
	kids []needed
}

// mark walks from the leaves to the root, because a lemma is needed only if something behind it is.
func (m *marker) mark(n api.Node) needed {
	base := len(m.used)
	m.used = append(m.used, make([]bool, len(n.Lemmas))...)
	var out needed
	for _, k := range n.Kids {
		out.kids = append(out.kids, m.mark(k))
	}
	if len(n.Kids) == 0 {
		m.use(n.Proof, len(m.used))
	}
	for i := len(n.Lemmas) - 1; i >= 0; i-- {
		if m.used[base+i] {
			m.use(n.Lemmas[i].Proof, base+i)
		}
	}
	out.own = slices.Clone(m.used[base:])
	m.used = m.used[:base]
	return out
}

// use marks the lemmas below a number that a proof uses.
func (m *marker) use(proof []api.Mult, below int) {
	for _, x := range proof {
		for _, number := range [2]int{x.Row.Lo, x.Row.Hi} {
			if number > 0 && number <= below {
				m.used[number-1] = true
			}
		}
	}
}

// rewrite returns a node without lemmas; base is the number of the lemmas above, and removed contains the numbers of those of them that are removed.
func rewrite(n api.Node, keep needed, base int, removed []int) api.Node {
	removed = slices.Clip(removed)
	for i := range n.Lemmas {
		if !keep.own[i] {
			removed = append(removed, base+i)
		}
	}
	out := api.Node{Split: n.Split, Empty: n.Empty, Proof: renumber(n.Proof, removed)}
	for i, m := range n.Lemmas {
		if keep.own[i] {
			m.Proof = renumber(m.Proof, removed)
			out.Lemmas = append(out.Lemmas, m)
		}
	}
	for i, k := range n.Kids {
		out.Kids = append(out.Kids, rewrite(k, keep.kids[i], base+len(n.Lemmas), removed))
	}
	return out
}

// renumber decreases each field Lo and Hi by the number of removed lemmas before the one that it names.
func renumber(proof []api.Mult, removed []int) []api.Mult {
	out := slices.Clone(proof)
	for i := range out {
		out[i].Row.Lo = lower(out[i].Row.Lo, removed)
		out[i].Row.Hi = lower(out[i].Row.Hi, removed)
	}
	return out
}

func lower(number int, removed []int) int {
	if number <= 0 {
		return number
	}
	return number - sort.SearchInts(removed, number-1)
}

package certfile

import (
	"relucert/api"
	"relucert/wire"
)

// The first byte of a tree: whether it is an empty leaf, or an inner node.
const innerTag = 2

// malformed is what a reader panics with.
type malformed struct{}

// reader reads encodings, and panics at bytes that are none.
type reader struct{ *wire.Reader }

func must[T any](x T, e api.Errno) T {
	if e != api.OK {
		panic(malformed{})
	}
	return x
}

// readTrees returns the trees whose list some bytes are.
func readTrees(b []byte) (out []api.Node, e api.Errno) {
	defer func() {
		if x := recover(); x != nil {
			out, e = nil, api.ErrForm
		}
	}()
	r := reader{wire.New(b)}
	out = elements(r, reader.node)
	if r.Done() != api.OK {
		panic(malformed{})
	}
	return out, api.OK
}

// ReadNode reads a tree.
func ReadNode(r *wire.Reader) (n api.Node, e api.Errno) {
	defer func() {
		if x := recover(); x != nil {
			n, e = api.Node{}, api.ErrForm
		}
	}()
	return reader{r}.node(), api.OK
}

// ReadDecision reads a decision.
func ReadDecision(r *wire.Reader) (d api.Decision, e api.Errno) {
	defer func() {
		if x := recover(); x != nil {
			d, e = api.Decision{}, api.ErrForm
		}
	}()
	return reader{r}.decision(), api.OK
}

// elements reads a list. A wrong number of elements ends at the first one that is missing.
func elements[T any](r reader, element func(r reader) T) []T {
	var out []T
	for n := must(r.Uint()); n > 0; n-- {
		out = append(out, element(r))
	}
	return out
}

// tag reads a byte that is at most most.
func (r reader) tag(most uint64) uint64 {
	t := must(r.Uint())
	if t > most {
		panic(malformed{})
	}
	return t
}

func (r reader) mult() api.Mult {
	row := api.Row{Kind: must(r.Int()), Index: must(r.Int()), Lo: must(r.Int()), Hi: must(r.Int())}
	return api.Mult{Row: row, Coef: must(r.Rat())}
}

func (r reader) decision() api.Decision {
	return api.Decision{Kind: must(r.Int()), Index: must(r.Int()), At: must(r.Rat())}
}

func (r reader) lemma() api.Lemma {
	return api.Lemma{Unit: must(r.Int()), Upper: r.tag(1) == 1, Value: must(r.Rat()), Proof: elements(r, reader.mult)}
}

func (r reader) node() api.Node {
	tag := r.tag(innerTag)
	n := api.Node{Empty: tag == 1, Lemmas: elements(r, reader.lemma)}
	if tag < innerTag {
		n.Proof = elements(r, reader.mult)
		return n
	}
	n.Split = r.decision()
	n.Kids = append(n.Kids, r.node())
	n.Kids = append(n.Kids, r.node())
	return n
}

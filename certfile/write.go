package certfile

import (
	"relucert/api"
	"relucert/digest"
	"relucert/wire"
)

// writer collects encodings. Each number is encoded by itself, because layer 8 copies what it appends to.
type writer struct{ out []byte }

// digester is a writer whose bytes have a digest.
type digester struct{ writer }

func (d *digester) sum() [32]byte { return digest.Sum(d.out) }

func (w *writer) count(n int) { w.out = append(w.out, wire.AppendUint(nil, uint64(n))...) }

func (w *writer) integers(l ...int) {
	for _, n := range l {
		w.out = append(w.out, wire.AppendInt(nil, n)...)
	}
}

func (w *writer) number(x api.Rat) { w.out = append(w.out, wire.AppendRat(nil, x)...) }

func (w *writer) flag(b bool) {
	if b {
		w.out = append(w.out, 1)
	} else {
		w.out = append(w.out, 0)
	}
}

// list writes the number of elements and the elements.
func list[T any](w *writer, l []T, element func(w *writer, x T)) {
	w.count(len(l))
	for _, x := range l {
		element(w, x)
	}
}

func (w *writer) numbers(l []api.Rat) { list(w, l, (*writer).number) }

func (w *writer) term(t api.Term) {
	w.integers(t.Var)
	w.number(t.Coef)
}

func (w *writer) affine(f api.Affine) {
	list(w, f.Terms, (*writer).term)
	w.number(f.Const)
}

func (w *writer) graph(g api.Graph) {
	w.integers(g.Inputs)
	list(w, g.Units, (*writer).affine)
	list(w, g.Outputs, (*writer).affine)
}

func (w *writer) region(r api.Region) {
	w.numbers(r.Lo)
	w.numbers(r.Hi)
	list(w, r.Rows, (*writer).affine)
}

func (w *writer) claim(c api.Claim) {
	w.integers(c.Kind, c.Target)
	w.number(c.Margin)
	list(w, c.Rows, (*writer).affine)
}

func (w *writer) mult(m api.Mult) {
	w.integers(m.Row.Kind, m.Row.Index, m.Row.Lo, m.Row.Hi)
	w.number(m.Coef)
}

func (w *writer) derivation(l []api.Mult) { list(w, l, (*writer).mult) }

func (w *writer) decision(d api.Decision) {
	w.integers(d.Kind, d.Index)
	w.number(d.At)
}

func (w *writer) lemma(m api.Lemma) {
	w.integers(m.Unit)
	w.flag(m.Upper)
	w.number(m.Value)
	w.derivation(m.Proof)
}

func (w *writer) node(n api.Node) {
	if len(n.Kids) == 0 {
		w.flag(n.Empty)
		list(w, n.Lemmas, (*writer).lemma)
		w.derivation(n.Proof)
		return
	}
	w.out = append(w.out, innerTag)
	list(w, n.Lemmas, (*writer).lemma)
	w.decision(n.Split)
	for _, k := range n.Kids {
		w.node(k)
	}
}

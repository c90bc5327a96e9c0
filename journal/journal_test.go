package journal

import (
	"bytes"
	"math/rand"
	"slices"
	"testing"

	"relucert/api"
	"relucert/digest"
	"relucert/phase"
	"relucert/rational"
	"relucert/tree"
	"relucert/wire"
)

func on(unit int) api.Decision { return api.Decision{Kind: api.DecOn, Index: unit} }

func off(unit int) api.Decision { return api.Decision{Kind: api.DecOff, Index: unit} }

func entry(unit int, path ...api.Decision) api.Entry {
	return api.Entry{Path: path, Leaf: api.Node{Lemmas: []api.Lemma{{Unit: unit, Value: rational.Of(3)}}, Empty: unit%2 == 0}}
}

func same(a, b api.Entry) bool {
	return tree.Equal(a.Leaf, b.Leaf) && slices.EqualFunc(a.Path, b.Path, equal)
}

func sample(t *testing.T) ([]byte, []api.Entry, []int) {
	t.Helper()
	half, _ := rational.Frac(1, 2)
	entries := []api.Entry{entry(1, on(0)), entry(2, off(0), api.Decision{Kind: api.DecAbove, Index: 3, At: half}), entry(3)}
	b := New([32]byte{1, 2, 3})
	sizes := []int{len(b)}
	for _, e := range entries {
		var errno api.Errno
		if b, errno = Append(b, e); errno != api.OK {
			t.Fatal(errno)
		}
		sizes = append(sizes, len(b))
	}
	return b, entries, sizes
}

func TestRoundTrip(t *testing.T) {
	if b := New([32]byte{}); len(b) != 44 {
		t.Error(len(b))
	}
	b, entries, sizes := sample(t)
	for n := range len(b) + 1 {
		d, got, length, e := Recover(b[:n])
		k := -1
		for k+1 < len(sizes) && sizes[k+1] <= n {
			k++
		}
		if k < 0 {
			if e != api.ErrForm || d != [32]byte{} || len(got) != 0 || length != 0 {
				t.Error(n, e)
			}
			continue
		}
		if e != api.OK || d != [32]byte{1, 2, 3} || length != sizes[k] || !slices.EqualFunc(got, entries[:k], same) {
			t.Error(n, k, length, e)
		}
	}
	if _, got, length, e := Recover(append(slices.Clone(b), 1, 2, 3)); e != api.OK || len(got) != 3 || length != len(b) {
		t.Error(length, e)
	}
}

func TestDamage(t *testing.T) {
	b, entries, sizes := sample(t)
	for i := range b {
		c := slices.Clone(b)
		c[i] ^= 64
		k := 0
		for k < len(sizes) && sizes[k] <= i {
			k++
		}
		_, got, length, e := Recover(c)
		if k == 0 {
			if e != api.ErrForm || len(got) != 0 {
				t.Error(i, e)
			}
		} else if e != api.OK || length != sizes[k-1] || !slices.EqualFunc(got, entries[:k-1], same) {
			t.Error(i, k, length, e)
		}
		if x, e := Append(c, entries[0]); e != api.ErrForm || len(x) != 0 {
			t.Error("append", i, e)
		}
	}
}

func TestErrors(t *testing.T) {
	b := New([32]byte{})
	wide := api.Rat{Num: api.Nat{1}, Den: api.Nat{1}}
	long := slices.Repeat([]api.Decision{{Kind: api.DecAbove}}, 2049)
	bad := []api.Entry{
		entry(1, api.Decision{}), entry(1, api.Decision{Kind: 5}), entry(1, api.Decision{Kind: api.DecAbove, At: wide}), {Leaf: api.Node{Kids: make([]api.Node, 2), Split: on(0)}}, {Leaf: api.Node{Split: on(0)}}, {Leaf: api.Node{Lemmas: []api.Lemma{{Value: wide}}}}, entry(1, long...),
	}
	for i, e := range bad {
		if x, errno := Append(b, e); errno != api.ErrArg || len(x) != 0 {
			t.Error(i, errno)
		}
		if x, errno := Append(nil, e); errno != api.ErrArg || len(x) != 0 {
			t.Error(i, errno)
		}
		if n, missing, errno := Build([]api.Entry{entry(1), e}); errno != api.ErrArg || len(missing) != 0 || !tree.Equal(n, api.Node{}) {
			t.Error(i, errno)
		}
		if i == 4 {
			continue // the split of a leaf is not written
		}
		record := wire.AppendBytes(nil, payload(e))
		forged := append(slices.Clone(b), record...)
		sum := digest.Sum(forged)
		forged = append(forged, sum[:8]...)
		if _, got, length, errno := Recover(forged); errno != api.OK || len(got) != 0 || length != 44 {
			t.Error("forged", i, length, errno)
		}
	}
	if x, e := Append(nil, entry(1)); e != api.ErrForm || len(x) != 0 {
		t.Error(e)
	}
	if x, e := Append(b, entry(1, long[1:]...)); e != api.OK || !bytes.HasPrefix(x, b) {
		t.Error(e)
	}
}

func TestBuild(t *testing.T) {
	n, missing, e := Build([]api.Entry{entry(1, off(0)), entry(2, on(0))})
	if e != api.OK || len(missing) != 0 || n.Split.Kind != api.DecOn || n.Kids[0].Lemmas[0].Unit != 2 || n.Kids[1].Lemmas[0].Unit != 1 {
		t.Error(n, missing, e)
	}
	n, missing, e = Build([]api.Entry{entry(1, on(0))})
	if e != api.OK || len(missing) != 1 || len(missing[0]) != 1 || !equal(missing[0][0], off(0)) || tree.Size(n) != 3 {
		t.Error(n, missing, e)
	}
	n, missing, e = Build(nil)
	if e != api.OK || len(missing) != 1 || len(missing[0]) != 0 || tree.Size(n) != 1 {
		t.Error(n, missing, e)
	}
	above := api.Decision{Kind: api.DecAbove, Index: 1}
	n, _, e = Build([]api.Entry{entry(1, above)})
	if e != api.OK || n.Split.Kind != api.DecBelow || len(n.Kids[1].Lemmas) != 1 {
		t.Error(n, e)
	}
	for i, l := range [][]api.Entry{{entry(1, on(0)), entry(1)}, {entry(1), entry(1, on(0))}, {entry(1, on(0)), entry(1, on(1))}, {entry(1, above), entry(1, api.Decision{Kind: api.DecAbove, Index: 1, At: rational.Of(2)})}} {
		if n, missing, e := Build(l); e != api.ErrMismatch || len(missing) != 0 || !tree.Equal(n, api.Node{}) {
			t.Error(i, e)
		}
	}
	n, missing, e = Build([]api.Entry{entry(1, on(0)), entry(5, on(0)), entry(2, off(0))})
	if e != api.OK || len(missing) != 0 || n.Kids[0].Lemmas[0].Unit != 1 {
		t.Error("first entry", e)
	}
	var wide []api.Entry
	for i := range 1 << 7 {
		var path []api.Decision
		for k := range 7 {
			path = append(path, api.Decision{Kind: api.DecOn + i>>k&1, Index: k})
		}
		wide = append(wide, entry(1, append(path, slices.Repeat([]api.Decision{on(9)}, 300)...)...))
	}
	if _, _, e := Build(wide); e != api.ErrLimit {
		t.Error(e)
	}
}

// TestTrees builds random trees from their leaves in random order.
func TestTrees(t *testing.T) {
	r := rand.New(rand.NewSource(1))
	var grow func(path []api.Decision) []api.Entry
	grow = func(path []api.Decision) []api.Entry {
		if len(path) > 5 || r.Intn(4) == 0 {
			return []api.Entry{entry(r.Intn(9), path...)}
		}
		d := api.Decision{Kind: 1 + r.Intn(4), Index: len(path)}
		return append(grow(append(slices.Clip(path), d)), grow(append(slices.Clip(path), phase.Opposite(d)))...)
	}
	for range 200 {
		l := grow(nil)
		want, missing, e := Build(l)
		if e != api.OK || len(missing) != 0 || tree.Leaves(want) != len(l) {
			t.Fatal(e, missing)
		}
		r.Shuffle(len(l), func(i, k int) { l[i], l[k] = l[k], l[i] })
		got, missing, e := Build(l)
		if e != api.OK || len(missing) != 0 || !tree.Equal(got, want) {
			t.Fatal("order", e)
		}
		for _, x := range l {
			if n, ok := tree.At(got, x.Path); !ok || !tree.Equal(n, x.Leaf) {
				t.Fatal("leaf")
			}
		}
		part, missing, e := Build(l[1:])
		if e != api.OK || len(missing) != 1 || len(missing[0]) > len(l[0].Path) {
			t.Fatal("missing", missing, e)
		}
		if n, ok := tree.At(part, missing[0]); !ok || !tree.Equal(n, api.Node{}) {
			t.Fatal("missing node")
		}
	}
}

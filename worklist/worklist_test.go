package worklist

import (
	"math/bits"
	"math/rand"
	"slices"
	"testing"
)

func TestExamples(t *testing.T) {
	l := New(func(a, b string) bool { return a[0] < b[0] })
	l.Push("b1", "a1", "b2", "a2")
	if got := slices.Collect(l.All()); !slices.Equal(got, []string{"a1", "a2", "b1", "b2"}) || l.Len() != 4 {
		t.Error(got)
	}
	for _, want := range []string{"a1", "a2", "b1", "b2"} {
		if p, ok := l.Peek(); !ok || p != want {
			t.Error(p)
		}
		if p, ok := l.Pop(); !ok || p != want {
			t.Error(p)
		}
	}
	if p, ok := l.Pop(); ok || p != "" {
		t.Error(p)
	}
	n := New(func(a, b int) bool { return a < b })
	n.Push(3, 1, 2)
	var seen []int
	if n.Keep(func(x int) bool { seen = append(seen, x); return x%2 == 1 }) != 1 || !slices.Equal(seen, []int{1, 2, 3}) {
		t.Error(seen)
	}
	if p, ok := n.Peek(); !ok || p != 1 || n.Len() != 2 {
		t.Error(p)
	}
}

func TestNil(t *testing.T) {
	var l *List[int]
	l.Push(1)
	_, ok := l.Pop()
	_, also := l.Peek()
	if ok || also || l.Len() != 0 || l.Keep(func(int) bool { return true }) != 0 || l.Clone() != nil {
		t.Error("nil")
	}
	for range l.All() {
		t.Error("all")
	}
	f := New[int](nil)
	f.Push(3, 1, 2)
	if got := slices.Collect(f.All()); !slices.Equal(got, []int{3, 1, 2}) {
		t.Error(got)
	}
}

type item struct{ key, number int }

// TestRandom compares with a stable sort, and counts the calls of less.
func TestRandom(t *testing.T) {
	r := rand.New(rand.NewSource(1))
	for range 200 {
		calls := 0
		l := New(func(a, b item) bool { calls++; return a.key < b.key })
		var want []item
		sort := func() { slices.SortStableFunc(want, func(a, b item) int { return a.key - b.key }) }
		for i := range 120 {
			calls = 0
			limit := 4 + 4*bits.Len(uint(l.Len()))
			switch r.Intn(8) {
			case 0, 1, 2, 3, 4:
				x := item{r.Intn(6), i}
				l.Push(x)
				want = append(want, x)
				if calls > limit {
					t.Fatal("push", calls, limit)
				}
			case 5:
				sort()
				x, ok := l.Pop()
				if ok != (len(want) > 0) || ok && x != want[0] || calls > limit {
					t.Fatal("pop", x, calls, limit)
				}
				if ok {
					want = want[1:]
				}
			case 6:
				sort()
				if got := slices.Collect(l.All()); !slices.Equal(got, want) {
					t.Fatal(got, want)
				}
				for x := range l.All() {
					if x != want[0] {
						t.Fatal("first")
					}
					break
				}
				c := l.Clone()
				c.Push(item{-1, -1})
				if p, _ := l.Peek(); len(want) > 0 && p != want[0] || l.Len() != len(want) || c.Len() != len(want)+1 {
					t.Fatal("clone")
				}
			case 7:
				sort()
				odd := func(x item) bool { return x.number%5 > 0 }
				n := len(want)
				want = slices.DeleteFunc(want, func(x item) bool { return !odd(x) })
				if l.Keep(odd) != n-len(want) {
					t.Fatal("keep")
				}
			}
			if l.Len() != len(want) {
				t.Fatal("len")
			}
		}
	}
}

package frontier

import (
	"math/rand"
	"slices"
	"sync"
	"testing"
)

func TestExample(t *testing.T) {
	f := New[string]()
	f.Push("a").Run()
	f.Push("b").Run()
	if got := slices.Collect(f.All()); !slices.Equal(got, []string{"b", "a"}) || f.Len() != 2 || f.Pending() != 2 {
		t.Error(got)
	}
	x, y := f.Take(), f.Take()
	if x.Step() || y.Step() {
		t.Error("first steps")
	}
	if !x.Step() || y.Step() || !x.Finished() || y.Finished() {
		t.Error("second steps")
	}
	if v, s := y.Result(); v != "" || s != 0 {
		t.Error("unfinished", v, s)
	}
	if v, s := x.Result(); v != "b" || s != Taken {
		t.Error(v, s)
	}
	if y.Step() || !y.Step() {
		t.Error("two more steps")
	}
	if v, s := y.Result(); v != "a" || s != Taken {
		t.Error(v, s)
	}
	if v, s := f.Take().Run(); v != "" || s != Empty {
		t.Error(v, s)
	}
	f.Done().Run()
	f.Done().Run()
	if v, s := f.Take().Run(); v != "" || s != Closed || f.Pending() != 0 {
		t.Error(v, s)
	}
}

func steps[T any](o *Op[T]) int {
	n := 1
	for !o.Step() {
		n++
	}
	return n
}

func TestSteps(t *testing.T) {
	f := New[int]()
	if steps(f.Push(1)) != 3 || steps(f.Take()) != 2 || steps(f.Take()) != 2 || steps(f.Done()) != 1 || steps(f.Take()) != 2 {
		t.Error("steps")
	}
	o := f.Push(2)
	if f.Len() != 0 || f.Pending() != 0 {
		t.Error("no step yet")
	}
	o.Step()
	if f.Len() != 0 || f.Pending() != 1 {
		t.Error("one step")
	}
	o.Step()
	other := f.Push(3)
	other.Run()
	if o.Step() || o.Step() || !o.Step() || !o.Step() || f.Len() != 2 {
		t.Error("a step that fails")
	}
	for x := range f.All() {
		if x != 2 {
			t.Error(x)
		}
		break
	}
	if v, s := o.Run(); v != 0 || s != 0 {
		t.Error("push has no result")
	}
}

func TestNil(t *testing.T) {
	var f *Frontier[int]
	var o *Op[int]
	if f.Push(1) != nil || f.Take() != nil || f.Done() != nil || f.Len() != 0 || f.Pending() != 0 || !o.Step() || !o.Finished() {
		t.Error("nil")
	}
	for range f.All() {
		t.Error("all")
	}
	if v, s := o.Result(); v != 0 || s != 0 {
		t.Error("result")
	}
	if v, s := o.Run(); v != 0 || s != 0 {
		t.Error("run")
	}
}

// TestInterleavings performs operations with random interleavings of their steps.
func TestInterleavings(t *testing.T) {
	r := rand.New(rand.NewSource(1))
	for range 500 {
		f := New[int]()
		var running []*Op[int]
		taken := map[int]int{}
		pushed, takes := 0, 0
		for range 60 {
			if len(running) < 5 && r.Intn(2) == 0 {
				if r.Intn(2) == 0 {
					running = append(running, f.Push(pushed))
					pushed++
				} else {
					running = append(running, f.Take())
				}
				continue
			}
			if len(running) == 0 {
				continue
			}
			i := r.Intn(len(running))
			if running[i].Step() {
				if v, s := running[i].Result(); s == Taken {
					taken[v]++
					takes++
				}
				running = slices.Delete(running, i, i+1)
			}
		}
		for _, o := range running {
			if v, s := o.Run(); s == Taken {
				taken[v]++
				takes++
			}
		}
		left := map[int]bool{}
		for x := range f.All() {
			left[x] = true
		}
		if len(taken) != takes || len(left)+takes != pushed || f.Len() != len(left) || f.Pending() != pushed {
			t.Fatal("items", taken, left, pushed)
		}
		for x := range taken {
			if left[x] {
				t.Fatal("taken and left", x)
			}
		}
	}
}

// TestParallel divides numbers among goroutines: an item n pushes the items below n/2, and all must be done at the end.
func TestParallel(t *testing.T) {
	f := New[int]()
	f.Push(12).Run()
	counts := make([]int, 8)
	var wg sync.WaitGroup
	for w := range counts {
		wg.Add(1)
		go func() {
			defer wg.Done()
			for {
				n, s := f.Take().Run()
				if s == Closed {
					return
				}
				if s == Empty {
					continue
				}
				counts[w]++
				for k := range n {
					f.Push(k / 2).Run()
				}
				f.Done().Run()
			}
		}()
	}
	wg.Wait()
	total := 0
	for _, c := range counts {
		total += c
	}
	if want := size(12); total != want || f.Len() != 0 || f.Pending() != 0 {
		t.Error(total, want)
	}
}

func size(n int) int {
	total := 1
	for k := range n {
		total += size(k / 2)
	}
	return total
}

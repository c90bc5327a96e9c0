package schedule

import (
	"math/rand"
	"slices"
	"testing"

	"relucert/api"
)

func TestExamples(t *testing.T) {
	for _, c := range []struct {
		counts []int
		script []uint8
		most   int
		want   []int
		e      api.Errno
	}{
		{[]int{2, 1, 2}, nil, 9, []int{0, 1, 2, 0, 2}, api.OK}, {[]int{2, 1, 2}, []uint8{2, 2, 0}, 9, []int{2, 2, 0, 1, 0}, api.OK}, {[]int{2, 1, 2}, nil, 5, []int{0, 1, 2, 0, 2}, api.OK}, {[]int{2, 1, 2}, nil, 3, []int{0, 1, 2}, api.ErrLimit},
		{nil, []uint8{1}, 0, nil, api.OK}, {[]int{1}, nil, 0, nil, api.ErrLimit}, {[]int{1, 0}, nil, 9, nil, api.ErrArg}, {[]int{1}, nil, -1, nil, api.ErrArg}, {[]int{3, 3}, []uint8{255, 255, 254}, 9, []int{1, 1, 0, 1, 0, 0}, api.OK}, {[]int{1, 2, 1}, []uint8{1}, 9, []int{1, 2, 0, 1}, api.OK},
		{[]int{1, 1, 2}, []uint8{1}, 9, []int{1, 2, 0, 2}, api.OK},
	} {
		if got, e := Order(c.counts, c.script, c.most); e != c.e || !slices.Equal(got, c.want) {
			t.Error(c, got, e)
		}
	}
}

// worker needs some steps and records them.
func worker(name, steps int, log *[]int) Worker {
	return Func(func() bool {
		*log = append(*log, name)
		steps--
		return steps <= 0
	})
}

func TestRun(t *testing.T) {
	r := rand.New(rand.NewSource(1))
	for range 300 {
		var workers []Worker
		var counts, log []int
		total := 0
		for i := range r.Intn(5) {
			n := 1 + r.Intn(4)
			counts = append(counts, n)
			total += n
			workers = append(workers, worker(i, n, &log))
		}
		script := make([]uint8, r.Intn(9))
		r.Read(script)
		most := r.Intn(15)
		n, e := Run(workers, script, most)
		order, f := Order(counts, script, most)
		if e != f || n != len(log) || n != min(total, most) || (e == api.OK) != (total <= most) || !slices.Equal(log, order) {
			t.Fatal(counts, script, most, log, order, n, e)
		}
	}
	log := []int{}
	if n, e := Run([]Worker{worker(0, 1, &log), nil}, nil, 9); n != 0 || e != api.ErrArg || len(log) != 0 {
		t.Error(n, e)
	}
	if n, e := Run([]Worker{worker(0, 1, &log)}, nil, -1); n != 0 || e != api.ErrArg || len(log) != 0 {
		t.Error(n, e)
	}
	var none Func
	if n, e := Run([]Worker{none}, nil, 9); n != 1 || e != api.OK || !none.Step() {
		t.Error(n, e)
	}
	if n, e := Run(nil, nil, 0); n != 0 || e != api.OK {
		t.Error(n, e)
	}
}

// TestEveryOrder finds a script for each order of the steps.
func TestEveryOrder(t *testing.T) {
	left := []int{2, 2, 1}
	var script []uint8
	for _, want := range []int{2, 0, 1, 1, 0} {
		place := 0
		for i := range want {
			if left[i] > 0 {
				place++
			}
		}
		script = append(script, uint8(place))
		left[want]--
	}
	if got, e := Order([]int{2, 2, 1}, script, 5); e != api.OK || !slices.Equal(got, []int{2, 0, 1, 1, 0}) {
		t.Error(got, e)
	}
}

func TestJoin(t *testing.T) {
	var log []int
	j := Join(worker(0, 2, &log), nil, worker(1, 1, &log))
	var ends []bool
	for range 5 {
		ends = append(ends, j.Step())
	}
	if !slices.Equal(log, []int{0, 0, 1}) || !slices.Equal(ends, []bool{false, false, false, true, true}) {
		t.Error(log, ends)
	}
	if !Join().Step() || !Join(nil).Step() {
		t.Error("no workers")
	}
}

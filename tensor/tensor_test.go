package tensor

import (
	"slices"
	"testing"

	"relucert/api"
)

func TestShapes(t *testing.T) {
	for _, c := range []struct {
		shape []int
		size  int
	}{
		{[]int{2, 3}, 6}, {nil, 0}, {[]int{1}, 1}, {[]int{1, 2, 3, 4}, 24}, {[]int{1, 1, 1, 1, 1}, 0}, {[]int{0}, 0}, {[]int{3, -1}, 0}, {[]int{-1, -1}, 0},
		{[]int{1 << 14}, 1 << 14}, {[]int{1<<14 + 1}, 0}, {[]int{128, 129}, 0}, {[]int{1 << 62, 1 << 62}, 0}, {[]int{1 << 32, 1 << 32, 1 << 14}, 0},
	} {
		if Size(c.shape) != c.size || Valid(c.shape) != (c.size > 0) {
			t.Error(c, Size(c.shape))
		}
	}
}

func TestIndex(t *testing.T) {
	for _, c := range []struct {
		shape, at []int
		want      int
		e         api.Errno
	}{
		{[]int{2, 3}, []int{1, 2}, 5, api.OK}, {[]int{2, 3}, []int{1}, 0, api.ErrArg}, {[]int{2, 0}, []int{1, 0}, 0, api.ErrArg},
		{[]int{2, 3}, []int{1, 3}, 0, api.ErrRange}, {[]int{2, 3}, []int{-1, 0}, 0, api.ErrRange}, {[]int{2, 3}, []int{2, 0}, 0, api.ErrRange},
	} {
		if i, e := Index(c.shape, c.at); i != c.want || e != c.e {
			t.Error(c, i, e)
		}
	}
	for _, c := range []struct {
		shape []int
		i     int
		e     api.Errno
	}{{[]int{2, 3}, 6, api.ErrRange}, {[]int{2, 3}, -1, api.ErrRange}, {nil, 0, api.ErrArg}} {
		if at, e := At(c.shape, c.i); e != c.e || len(at) != 0 {
			t.Error(c, at, e)
		}
	}
}

func TestInverseAndAll(t *testing.T) {
	for _, shape := range [][]int{{7}, {2, 3}, {2, 1, 4}, {3, 2, 2, 5}} {
		next := 0
		for i, at := range All(shape) {
			k, e := Index(shape, at)
			back, f := At(shape, i)
			if i != next || k != i || e != api.OK || f != api.OK || !slices.Equal(at, back) {
				t.Fatal(shape, i, at)
			}
			at[0] = 99
			next++
		}
		if next != Size(shape) {
			t.Error(shape, next)
		}
		for i := range All(shape) {
			if i == 1 {
				break
			}
		}
	}
	for range All([]int{0}) {
		t.Error("not a shape")
	}
}

func TestWindows(t *testing.T) {
	w, rows, cols, e := Windows([]int{1, 2, 2}, 2, 2, 1, 1)
	if e != api.OK || rows != 3 || cols != 3 || len(w) != 9 || !slices.Equal(w[0], []int{-1, -1, -1, 0}) || !slices.Equal(w[4], []int{0, 1, 2, 3}) {
		t.Error(w, rows, cols, e)
	}
	w, rows, cols, e = Windows([]int{2, 3, 5}, 2, 3, 2, 0)
	if e != api.OK || rows != 1 || cols != 2 || !slices.Equal(w[1], []int{2, 3, 4, 7, 8, 9, 17, 18, 19, 22, 23, 24}) {
		t.Error(w, rows, cols, e)
	}
	for _, c := range []struct {
		shape               []int
		kh, kw, stride, pad int
		e                   api.Errno
	}{
		{[]int{0, 2, 2}, 1, 1, 1, 0, api.ErrArg}, {[]int{1, 2, 2}, 0, 1, 1, 0, api.ErrArg}, {[]int{1, 2, 2}, 1, 65, 1, 0, api.ErrArg}, {[]int{1, 2, 2}, 1, 1, 0, 0, api.ErrArg},
		{[]int{1, 2, 2}, 1, 1, 65, 0, api.ErrArg}, {[]int{1, 2, 2}, 2, 2, 1, -1, api.ErrArg}, {[]int{1, 2, 2}, 2, 3, 1, 2, api.ErrArg}, {[]int{1, 2, 2}, 3, 2, 1, 2, api.ErrArg},
		{[]int{4}, 1, 1, 1, 0, api.ErrShape}, {[]int{1, 2, 2}, 3, 1, 1, 0, api.ErrShape}, {[]int{1, 2, 2}, 1, 3, 1, 0, api.ErrShape}, {[]int{4}, 1, 1, 1, 1, api.ErrArg},
		{[]int{1, 128, 128}, 5, 5, 1, 2, api.ErrLimit}, {[]int{1, 128, 128}, 4, 4, 1, 0, api.OK}, {[]int{1, 1, 1}, 64, 64, 64, 63, api.OK}, {[]int{1, 2, 2}, 4, 4, 1, 1, api.OK},
	} {
		w, rows, cols, e := Windows(c.shape, c.kh, c.kw, c.stride, c.pad)
		if e != c.e || (e != api.OK) != (len(w)+rows+cols == 0) || len(w) != rows*cols {
			t.Error(c, e)
		}
	}
}

func TestGroups(t *testing.T) {
	g, e := Groups([]int{2, 1, 3}, 1, 2, 1)
	if e != api.OK || !slices.EqualFunc(g, [][]int{{0, 1}, {1, 2}, {3, 4}, {4, 5}}, slices.Equal) {
		t.Error(g, e)
	}
	if g, e := Groups([]int{4}, 1, 1, 1); e != api.ErrShape || len(g) != 0 {
		t.Error(g, e)
	}
}

func TestCover(t *testing.T) {
	w, rows, cols, _ := Windows([]int{2, 4, 5}, 2, 3, 1, 0)
	for i, a := range w {
		seen := map[int]bool{}
		for _, x := range a {
			if x < 0 || seen[x] {
				t.Fatal("window", a)
			}
			seen[x] = true
		}
		if len(a) != 12 {
			t.Fatal("size", a)
		}
		if (i+1)%cols != 0 {
			for k, x := range w[i+1] {
				if x != a[k]+1 {
					t.Fatal("next window", a, w[i+1])
				}
			}
		}
	}
	if rows != 3 || cols != 3 {
		t.Error(rows, cols)
	}
}

package im2col

import (
	"math"
	"slices"
	"testing"

	"relucert/api"
	"relucert/tensor"
)

func layer(kind, kh, kw, stride, pad int) api.Layer {
	return api.Layer{Kind: kind, KH: kh, KW: kw, Stride: stride, Pad: pad}
}

func TestExamples(t *testing.T) {
	got, rows, cols, e := Gather([]int{1, 2, 3}, layer(api.LayerConv, 2, 2, 1, 0))
	if e != api.OK || rows != 4 || cols != 2 || !slices.Equal(got, []int{0, 1, 1, 2, 3, 4, 4, 5}) {
		t.Error(got, rows, cols, e)
	}
	got, size, e := Pool([]int{1, 2, 3}, layer(api.LayerMaxPool, 1, 2, 1, 0))
	if e != api.OK || size != 2 || !slices.Equal(got, []int{0, 1, 1, 2, 3, 4, 4, 5}) {
		t.Error(got, size, e)
	}
	got, size, e = Pool([]int{2, 1, 3}, layer(api.LayerAvgPool, 1, 2, 1, 7))
	if e != api.OK || size != 2 || !slices.Equal(got, []int{0, 1, 1, 2, 3, 4, 4, 5}) {
		t.Error(got, size, e)
	}
	if tiles := slices.Collect(Tiles(3, 2, 2, 2)); !slices.Equal(tiles, []Tile{{0, 0, 2, 2}, {2, 0, 1, 2}}) {
		t.Error(tiles)
	}
}

func TestErrors(t *testing.T) {
	for i, c := range []struct {
		shape        []int
		l            api.Layer
		gather, pool api.Errno
	}{
		{[]int{1, 2, 2}, layer(api.LayerRelu, 1, 1, 1, 0), api.ErrArg, api.ErrArg}, {[]int{1, 2, 2}, layer(api.LayerConv, 1, 1, 0, 0), api.ErrArg, api.ErrArg}, {[]int{4}, layer(api.LayerConv, 1, 1, 1, 0), api.ErrShape, api.ErrArg}, {[]int{1, 2, 2}, layer(api.LayerMaxPool, 3, 1, 1, 0), api.ErrArg, api.ErrShape},
		{[]int{1, 128, 128}, layer(api.LayerConv, 5, 5, 1, 2), api.ErrLimit, api.ErrArg}, {[]int{1, 128, 128}, layer(api.LayerAvgPool, 5, 5, 1, 0), api.ErrArg, api.ErrLimit}, {nil, layer(api.LayerMaxPool, 1, 1, 1, 0), api.ErrArg, api.ErrArg},
	} {
		a, rows, cols, e := Gather(c.shape, c.l)
		b, size, f := Pool(c.shape, c.l)
		if e != c.gather || f != c.pool || len(a)+len(b)+rows+cols+size != 0 {
			t.Error(i, e, f)
		}
	}
	for _, a := range [][4]int{{0, 1, 1, 1}, {1, 0, 1, 1}, {1, 1, 0, 1}, {1, 1, 1, -1}} {
		for range Tiles(a[0], a[1], a[2], a[3]) {
			t.Error(a)
		}
	}
	if tiles := slices.Collect(Tiles(math.MaxInt, 3, math.MaxInt, math.MaxInt)); !slices.Equal(tiles, []Tile{{0, 0, math.MaxInt, 3}}) {
		t.Error(tiles)
	}
	if tiles := slices.Collect(Tiles(math.MaxInt, 1, math.MaxInt-1, 1)); len(tiles) != 2 || tiles[1].Rows != 1 {
		t.Error(tiles)
	}
}

func TestCover(t *testing.T) {
	for i := range 200 {
		rows, cols, height, width := 1+i%5, 1+i%7, 1+i%3, 1+i%4
		seen := make([]int, rows*cols)
		for x := range Tiles(rows, cols, height, width) {
			if x.Rows > height || x.Cols > width || x.Row%height != 0 || x.Col%width != 0 {
				t.Fatal(x)
			}
			for r := range x.Rows {
				for c := range x.Cols {
					seen[(x.Row+r)*cols+x.Col+c]++
				}
			}
		}
		if slices.Min(seen) != 1 || slices.Max(seen) != 1 {
			t.Fatal(rows, cols, height, width)
		}
	}
	n := 0
	for range Tiles(9, 9, 2, 2) {
		if n++; n == 7 {
			break
		}
	}
	if n != 7 {
		t.Error("stop")
	}
}

func TestWindows(t *testing.T) {
	shape, l := []int{2, 4, 3}, layer(api.LayerConv, 2, 3, 1, 1)
	got, rows, cols, e := Gather(shape, l)
	windows, _, _, _ := tensor.Windows(shape, 2, 3, 1, 1)
	if e != api.OK || rows != 12 || cols != len(windows) {
		t.Fatal(rows, cols, e)
	}
	for c, w := range windows {
		for r, x := range w {
			if got[r*cols+c] != x {
				t.Fatal(r, c)
			}
		}
	}
}

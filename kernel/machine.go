package kernel

import (
	"slices"

	"relucert/api"
	"relucert/fixed"
	"relucert/im2col"
)

// machine executes the operations of a valid kernel.
type machine struct {
	buffers [][]int64
	tile    func(o api.Op) im2col.Tile
}

func (m machine) execute(o api.Op) {
	dst, src := m.buffers[o.Dst], m.buffers[o.Src]
	switch o.Kind {
	case api.OpGather:
		gather(dst, src, o.Index)
	case api.OpGemm:
		m.gemm(o, dst, src)
	case api.OpRelu:
		for i, x := range src {
			dst[i] = max(0, x)
		}
	case api.OpMax:
		for i := range dst {
			dst[i] = slices.Max(src[i*o.Inner : (i+1)*o.Inner])
		}
	case api.OpSum:
		for i := range dst {
			for _, x := range src[i*o.Inner : (i+1)*o.Inner] {
				dst[i] += x
			}
		}
	case api.OpAdd:
		for i, x := range src {
			dst[i] = x + m.buffers[o.Other][i]
		}
	case api.OpScale:
		for i, x := range src {
			dst[i] = scaled(x, o.Mul, o.Shift)
		}
	}
}

func gather(dst, src []int64, index []int) {
	for i, at := range index {
		if at >= 0 {
			dst[i] = src[at]
		}
	}
}

// gemm computes a product tile by tile.
func (m machine) gemm(o api.Op, dst, src []int64) {
	size := m.tile(o)
	for t := range im2col.Tiles(len(o.Bias), o.Cols, size.Rows, size.Cols) {
		for r := t.Row; r < t.Row+t.Rows; r++ {
			weights := o.Weights[r*o.Inner : (r+1)*o.Inner]
			for c := t.Col; c < t.Col+t.Cols; c++ {
				sum := o.Bias[r]
				for k, w := range weights {
					sum += w * src[k*o.Cols+c]
				}
				dst[r*o.Cols+c] = sum
			}
		}
	}
}

// scaled returns a rounded quotient, saturated also where it is out of the range of layer 51.
func scaled(x, mul int64, shift int) int64 {
	n, e := fixed.Scale(x, mul, shift)
	switch {
	case e == api.OK:
		return fixed.Saturate(n, valueBits)
	case (x < 0) != (mul < 0):
		return -1 << (valueBits - 1)
	}
	return 1<<(valueBits-1) - 1
}

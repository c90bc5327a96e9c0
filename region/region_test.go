package region

import (
	"math/rand"
	"slices"
	"testing"

	"relucert/api"
	"relucert/rational"
	"relucert/testkit"
)

var (
	frac = testkit.Frac
	rats = testkit.Rats
	form = testkit.Form
)

func same(a, b []api.Rat) bool {
	return slices.EqualFunc(a, b, func(x, y api.Rat) bool { return rational.Valid(x) && rational.Cmp(x, y) == 0 })
}

func sample() api.Region {
	return api.Region{Lo: rats(0, -1), Hi: rats(1, 1), Rows: []api.Affine{form("x0 - x1")}}
}

func TestExample(t *testing.T) {
	r := sample()
	if !Valid(r, 2) || !Contains(r, rats(1, 1)) || !Contains(r, []api.Rat{frac(1, 2), rational.Of(-1)}) || Contains(r, rats(0, 1)) {
		t.Error("contains")
	}
	if !same(Center(r), []api.Rat{frac(1, 2), {}}) || !same(Corner(r, 2), rats(0, 1)) || !same(Corner(r, 1), rats(1, -1)) {
		t.Error("corners")
	}
	c, e := Clip(r, api.Decision{Kind: api.DecAbove, Index: 0, At: api.Rat{Num: api.Nat{2}, Den: api.Nat{4}}})
	if e != api.OK || !same(c.Lo, []api.Rat{frac(1, 2), rational.Of(-1)}) || !same(c.Hi, r.Hi) || len(c.Rows) != 1 {
		t.Error(c, e)
	}
	if c, e := Clip(r, api.Decision{Kind: api.DecAbove, Index: 0, At: rational.Of(2)}); e != api.ErrNone || len(c.Lo) != 0 {
		t.Error(c, e)
	}
	b, e := Ball(rats(0, 0), frac(1, 4), r)
	if e != api.OK || !same(b.Lo, []api.Rat{{}, frac(-1, 4)}) || !same(b.Hi, []api.Rat{frac(1, 4), frac(1, 4)}) || len(b.Rows) != 1 {
		t.Error(b, e)
	}
	if !same(r.Lo, rats(0, -1)) || !same(r.Hi, rats(1, 1)) {
		t.Error("modified")
	}
}

func TestInvalid(t *testing.T) {
	r := sample()
	for i, bad := range []api.Region{
		{}, {Lo: rats(0), Hi: rats(1, 2)}, {Lo: rats(1), Hi: rats(0)}, {Lo: []api.Rat{{Neg: true}}, Hi: rats(0)}, {Lo: rats(0), Hi: []api.Rat{{Num: api.Nat{1}, Den: api.Nat{1}}}},
		{Lo: rats(0), Hi: rats(1), Rows: []api.Affine{form("x1")}}, {Lo: rats(0), Hi: rats(1), Rows: make([]api.Affine, 257)}, {Lo: make([]api.Rat, 257), Hi: make([]api.Rat, 257)},
	} {
		_, e := Ball(bad.Lo, rational.Of(1), bad)
		_, f := Clip(bad, api.Decision{Kind: api.DecAbove})
		if Valid(bad, len(bad.Lo)) || Contains(bad, bad.Lo) || len(Intervals(bad))+len(Center(bad))+len(Corner(bad, 0)) != 0 || e != api.ErrArg || f != api.ErrArg || Within(bad, bad) {
			t.Error(i)
		}
	}
	if Valid(r, 1) || Valid(r, 3) || Valid(r, 0) || Contains(r, rats(0)) {
		t.Error("inputs")
	}
	if !Valid(api.Region{Lo: make([]api.Rat, 256), Hi: make([]api.Rat, 256), Rows: make([]api.Affine, 256)}, 256) {
		t.Error("greatest region")
	}
	for _, d := range []api.Decision{{Kind: api.DecOn}, {Kind: api.DecOff}, {Kind: 5}, {Kind: api.DecBelow, Index: 2}, {Kind: api.DecBelow, Index: -1}} {
		if c, e := Clip(r, d); e != api.ErrArg || len(c.Lo) != 0 {
			t.Error(d, e)
		}
	}
	if b, e := Box(rats(1), rats(0)); e != api.ErrArg || len(b.Lo) != 0 {
		t.Error(e)
	}
	if b, e := Box([]api.Rat{{Num: api.Nat{2, 0}, Den: api.Nat{2}}}, rats(3)); e != api.OK || !Valid(b, 1) || !same(b.Lo, rats(1)) {
		t.Error(b, e)
	}
	for _, c := range []struct {
		center []api.Rat
		radius int
		e      api.Errno
	}{{rats(0), 1, api.ErrArg}, {rats(0, 0), -1, api.ErrArg}, {rats(3, 0), 1, api.ErrNone}, {rats(2, 0), 1, api.OK}, {rats(0, -3), 1, api.ErrNone}} {
		if b, e := Ball(c.center, rational.Of(c.radius), r); e != c.e || e != api.OK && len(b.Lo)+len(b.Rows) != 0 {
			t.Error(c, e)
		}
	}
}

func TestWithin(t *testing.T) {
	r := sample()
	small, _ := Clip(r, api.Decision{Kind: api.DecBelow, Index: 1, At: frac(1, 2)})
	if !Within(small, r) || Within(r, small) || !Within(r, r) || Within(r, api.Region{Lo: r.Lo, Hi: r.Hi}) || Within(api.Region{Lo: rats(0), Hi: rats(0)}, r) {
		t.Error("within")
	}
	many := api.Region{Lo: make([]api.Rat, 70), Hi: slices.Repeat(rats(1), 70)}
	c := Corner(many, 1<<63|1)
	if rational.Sign(c[63]) != 1 || rational.Sign(c[0]) != 1 || rational.Sign(c[64]) != 0 || rational.Sign(c[69]) != 0 {
		t.Error("corner")
	}
	if l := Intervals(r); len(l) != 2 || rational.Cmp(l[1].Lo, rational.Of(-1)) != 0 || rational.Cmp(l[1].Hi, rational.Of(1)) != 0 {
		t.Error(l)
	}
}

func TestBallsAndClipping(t *testing.T) {
	r := rand.New(rand.NewSource(1))
	g := sample()
	for range 2000 {
		x := []api.Rat{frac(r.Intn(9)-2, 4), frac(r.Intn(13)-6, 4)}
		center := []api.Rat{frac(r.Intn(9)-2, 4), frac(r.Intn(9)-4, 4)}
		radius := frac(r.Intn(5), 4)
		near := Contains(g, x)
		for i := range x {
			d := rational.Sub(x[i], center[i])
			d.Neg = false
			near = near && rational.Cmp(d, radius) <= 0
		}
		b, _ := Ball(center, radius, g)
		if Contains(b, x) != near {
			t.Fatal("ball", x, center, radius)
		}
		d := api.Decision{Kind: api.DecAbove, Index: r.Intn(2), At: frac(r.Intn(9)-4, 3)}
		up, _ := Clip(g, d)
		d.Kind = api.DecBelow
		down, _ := Clip(g, d)
		if Contains(g, x) != (Contains(up, x) || Contains(down, x)) {
			t.Fatal("clip", x, d)
		}
	}
}

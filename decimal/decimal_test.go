package decimal

import (
	"math/big"
	"math/rand"
	"strings"
	"testing"

	"relucert/api"
	"relucert/rational"
)

func frac(a, b int) api.Rat {
	x, _ := rational.Frac(a, b)
	return x
}

func TestText(t *testing.T) {
	for _, c := range []struct {
		x    api.Rat
		want string
	}{{frac(-6, 8), "-3/4"}, {frac(0, 1), "0"}, {frac(1000000000, 1), "1000000000"}, {frac(-7, 1), "-7"}, {frac(1, 1000000007), "1/1000000007"}} {
		if s := Text(c.x); s != c.want {
			t.Error(c, s)
		}
	}
}

func TestParse(t *testing.T) {
	nines := strings.Repeat("9", 4000)
	for _, c := range []struct {
		s    string
		want api.Rat
		at   int
		e    api.Errno
	}{
		{"0.125", frac(1, 8), 0, api.OK}, {"-010/4", frac(-5, 2), 0, api.OK}, {"-0", api.Rat{}, 0, api.OK}, {"00.50", frac(1, 2), 0, api.OK},
		{"1/", api.Rat{}, 2, api.ErrSyntax}, {"1/0", api.Rat{}, 2, api.ErrDivide}, {"+1", api.Rat{}, 0, api.ErrSyntax}, {".5", api.Rat{}, 0, api.ErrSyntax},
		{"", api.Rat{}, 0, api.ErrSyntax}, {"-", api.Rat{}, 1, api.ErrSyntax}, {"1.", api.Rat{}, 2, api.ErrSyntax}, {"1 ", api.Rat{}, 1, api.ErrSyntax},
		{"1/00x", api.Rat{}, 4, api.ErrSyntax}, {"-12/000", api.Rat{}, 4, api.ErrDivide}, {"1.2.3", api.Rat{}, 3, api.ErrSyntax}, {"1/2/3", api.Rat{}, 3, api.ErrSyntax},
		{"--1", api.Rat{}, 1, api.ErrSyntax}, {"1/-2", api.Rat{}, 2, api.ErrSyntax},
		{nines + "9", api.Rat{}, 4000, api.ErrLimit}, {nines + "x9", api.Rat{}, 4000, api.ErrSyntax}, {"1/" + nines, api.Rat{}, 4001, api.ErrLimit},
		{"-1." + nines + "x", api.Rat{}, 4002, api.ErrLimit}, {"1/" + strings.Repeat("0", 4000), api.Rat{}, 4001, api.ErrLimit},
	} {
		x, at, e := Parse(c.s)
		if e != c.e || at != c.at || !rational.Valid(x) || rational.Cmp(x, c.want) != 0 {
			t.Error(c.s[:min(len(c.s), 20)], x, at, e)
		}
	}
	if x, _, e := Parse(nines); e != api.OK || Text(x) != nines {
		t.Error("the greatest number", e)
	}
}

func TestFixed(t *testing.T) {
	for _, c := range []struct {
		x    api.Rat
		d    int
		want string
	}{
		{frac(-1, 8), 2, "-0.13"}, {frac(-1, 1000), 2, "0.00"}, {frac(5, 2), 0, "3"}, {frac(-5, 2), 0, "-3"}, {frac(1999, 1000), 2, "2.00"},
		{frac(0, 1), 3, "0.000"}, {frac(12345, 1), 1, "12345.0"}, {frac(1, 3), 5, "0.33333"}, {frac(-1, 2), 0, "-1"}, {frac(-49, 100), 0, "0"},
	} {
		if s, e := Fixed(c.x, c.d); e != api.OK || s != c.want {
			t.Error(c, s, e)
		}
	}
	for _, d := range []int{-1, 4001, -1 << 63, 1<<63 - 1} {
		if s, e := Fixed(frac(1, 2), d); e != api.ErrRange || s != "" {
			t.Error(d, s, e)
		}
	}
	if s, e := Fixed(frac(1, 2), 4000); e != api.OK || s != "0.5"+strings.Repeat("0", 3999) {
		t.Error("4000 places", e)
	}
}

func TestRoundTripAndRounding(t *testing.T) {
	r := rand.New(rand.NewSource(1))
	for range 2000 {
		num := new(big.Int).Rand(r, new(big.Int).Lsh(big.NewInt(1), uint(r.Intn(200))+1))
		den := new(big.Int).Rand(r, new(big.Int).Lsh(big.NewInt(1), uint(r.Intn(200))+1))
		den.Add(den, big.NewInt(1))
		if r.Intn(2) == 0 {
			num.Neg(num)
		}
		want := new(big.Rat).SetFrac(num, den)
		x, _, e := Parse(num.String() + "/" + den.String())
		if e != api.OK || Text(x) != want.RatString() {
			t.Fatal(want, Text(x), e)
		}
		y, _, e := Parse(Text(x))
		if e != api.OK || rational.Cmp(x, y) != 0 {
			t.Fatal("round trip", Text(x))
		}
		places := r.Intn(12)
		s, e := Fixed(x, places)
		if want := strings.TrimPrefix(want.FloatString(places), "-"); e != api.OK || strings.TrimPrefix(s, "-") != want {
			t.Fatal(Text(x), places, s, want)
		}
		z, _, _ := Parse(s)
		if again, _ := Fixed(z, places); again != s {
			t.Fatal("exact fraction", s, again)
		}
	}
}

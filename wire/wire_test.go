package wire

import (
	"bytes"
	"math/rand"
	"slices"
	"testing"

	"relucert/api"
	"relucert/natural"
	"relucert/rational"
)

func TestExamples(t *testing.T) {
	minusHalf, _ := rational.Frac(-1, 2)
	for _, c := range []struct{ got, want []byte }{
		{AppendUint(nil, 300), []byte{172, 2}}, {AppendInt([]byte{9}, -1), []byte{9, 1}}, {AppendInt(nil, 1), []byte{2}}, {AppendInt(nil, 0), []byte{0}},
		{AppendNat(nil, api.Nat{258}), []byte{1, 2, 1, 0, 0}}, {AppendRat(nil, minusHalf), []byte{1, 1, 1, 0, 0, 0, 1, 2, 0, 0, 0}},
		{AppendBytes([]byte{7}, []byte{1, 2}), []byte{7, 2, 1, 2}}, {AppendText(nil, "ab"), []byte{2, 'a', 'b'}},
		{AppendUint(nil, 1<<64-1), []byte{255, 255, 255, 255, 255, 255, 255, 255, 255, 1}}, {AppendInt(nil, -1<<63), []byte{255, 255, 255, 255, 255, 255, 255, 255, 255, 1}},
		{AppendRat(nil, api.Rat{Neg: true, Den: api.Nat{0}}), []byte{1, 0, 1, 0, 0, 0, 0}},
	} {
		if !bytes.Equal(c.got, c.want) {
			t.Error(c)
		}
	}
}

func TestAppendIsNewMemory(t *testing.T) {
	b := append(make([]byte, 0, 50), 5)
	x, y := AppendUint(b, 1), AppendUint(b, 2)
	z := AppendBytes(b, nil)
	x[0] = 9
	if y[1] != 2 || x[1] != 1 || b[0] != 5 || z[0] != 5 {
		t.Error("shared memory")
	}
}

func TestMalformed(t *testing.T) {
	type read func(r *Reader) (bool, api.Errno)
	number := func(r *Reader) (bool, api.Errno) { x, e := r.Uint(); return x == 0, e }
	integer := func(r *Reader) (bool, api.Errno) { x, e := r.Int(); return x == 0, e }
	nat := func(r *Reader) (bool, api.Errno) { x, e := r.Nat(); return len(x) == 0, e }
	rat := func(r *Reader) (bool, api.Errno) {
		x, e := r.Rat()
		return !x.Neg && len(x.Num)+len(x.Den) == 0, e
	}
	str := func(r *Reader) (bool, api.Errno) { x, e := r.Bytes(); return len(x) == 0, e }
	text := func(r *Reader) (bool, api.Errno) { x, e := r.Text(); return x == "", e }
	for _, c := range []struct {
		b []byte
		f read
	}{
		{nil, number}, {[]byte{128, 0}, number}, {[]byte{128}, number}, {[]byte{255, 255, 255, 255, 255, 255, 255, 255, 255, 2}, number},
		{[]byte{128, 128, 128, 128, 128, 128, 128, 128, 128, 128, 1}, number}, {[]byte{129, 0}, integer}, {nil, integer},
		{[]byte{1, 0, 0, 0, 0}, nat}, {[]byte{1, 1, 0, 0}, nat}, {[]byte{255, 255, 255, 255, 255, 255, 255, 255, 255, 1}, nat}, {[]byte{2, 1, 0, 0, 0, 0, 0, 0, 0}, nat},
		{nil, rat}, {[]byte{2, 0, 0}, rat}, {[]byte{1, 0, 0}, rat}, {[]byte{0, 1, 2, 0, 0, 0, 1, 4, 0, 0, 0}, rat}, {[]byte{0, 1, 2, 0, 0, 0, 1, 1, 0, 0, 0}, rat}, {[]byte{0, 0, 1, 3, 0, 0, 0}, rat}, {[]byte{0, 1, 2, 0, 0, 0}, rat},
		{[]byte{3, 1, 2}, str}, {[]byte{3, 1, 2}, text}, {nil, text},
	} {
		r := New(c.b)
		for range 2 {
			if zero, e := c.f(r); !zero || e != api.ErrForm {
				t.Error(c.b, e)
			}
		}
		if r.Left() != 0 || r.Done() != api.ErrForm {
			t.Error("after an error", c.b)
		}
		for _, f := range []read{number, integer, nat, rat, str, text} {
			if zero, e := f(r); !zero || e != api.ErrForm {
				t.Error("sticky", c.b)
			}
			if zero, e := f(nil); !zero || e != api.ErrForm {
				t.Error("nil")
			}
		}
	}
	var none *Reader
	if none.Left() != 0 || none.Done() != api.OK || New(nil).Done() != api.OK || New([]byte{1}).Done() != api.ErrForm {
		t.Error("done")
	}
}

func TestSequences(t *testing.T) {
	r := rand.New(rand.NewSource(1))
	for range 500 {
		u, i := r.Uint64()>>r.Intn(64), int(r.Uint64())>>r.Intn(64)
		n := natural.Mul(natural.Of(r.Uint64()>>r.Intn(64)), natural.Of(r.Uint64()>>r.Intn(64)))
		x, _ := rational.Frac(int(r.Uint32())-1<<31, 1+int(r.Uint32()))
		s := make([]byte, r.Intn(200))
		r.Read(s)
		b := AppendText(AppendBytes(AppendRat(AppendNat(AppendInt(AppendUint(nil, u), i), n), x), s), string(s))
		input := append(slices.Clone(b), 1, 2, 3)
		rd := New(input)
		clear(input)
		left := rd.Left()
		gu, _ := rd.Uint()
		if rd.Left() != left-len(AppendUint(nil, u)) {
			t.Fatal("left")
		}
		gi, _ := rd.Int()
		gn, _ := rd.Nat()
		gx, e := rd.Rat()
		gs, _ := rd.Bytes()
		gt, f := rd.Text()
		if e != api.OK || f != api.OK || gu != u || gi != i || natural.Cmp(gn, n) != 0 || rational.Cmp(gx, x) != 0 || !bytes.Equal(gs, s) || gt != string(s) || rd.Left() != 3 || rd.Done() != api.ErrForm {
			t.Fatal("sequence", u, i, n, x, s)
		}
	}
}

// TestUnique reads random bytes: whatever is read must be written in the same way.
func TestUnique(t *testing.T) {
	r := rand.New(rand.NewSource(2))
	for range 20000 {
		b := make([]byte, r.Intn(12))
		for i := range b {
			b[i] = byte(r.Intn(4))
			if r.Intn(4) == 0 {
				b[i] = byte(r.Intn(256))
			}
		}
		rd := New(b)
		if n, e := rd.Uint(); e == api.OK && !bytes.HasPrefix(b, AppendUint(nil, n)) {
			t.Fatal("uint", b)
		}
		rd = New(b)
		if x, e := rd.Rat(); e == api.OK && (!bytes.HasPrefix(b, AppendRat(nil, x)) || rd.Left() != len(b)-len(AppendRat(nil, x))) {
			t.Fatal("rat", b)
		}
	}
}

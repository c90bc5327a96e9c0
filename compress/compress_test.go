package compress

import (
	"bytes"
	"math/rand"
	"slices"
	"testing"

	"relucert/api"
	"relucert/wire"
)

func TestExamples(t *testing.T) {
	for _, c := range []struct{ in, want string }{
		{"", "\x00"}, {"aaaaaa", "\x06\x01a\x01\x00"}, {"abcdabcd", "\x08\x04abcd\x00\x03"}, {"abc", "\x03\x03abc"}, {"abcdabcdx", "\x09\x04abcd\x00\x03\x01x"},
	} {
		if p := Pack([]byte(c.in)); string(p) != c.want {
			t.Errorf("%q %q", c.in, p)
		}
		if b, e := Unpack([]byte(c.want), 10); e != api.OK || string(b) != c.in {
			t.Errorf("%q %q", c.want, b)
		}
	}
}

func TestMalformed(t *testing.T) {
	for _, c := range []struct {
		b     string
		limit int
		e     api.Errno
	}{
		{"\x06\x02aa\x00\x00", 10, api.ErrForm}, {"", 10, api.ErrForm}, {"\x03\x03ab", 9, api.ErrForm}, {"\x03\x03abcd", 9, api.ErrForm}, {"\x00\x00", 9, api.ErrForm},
		{"\x06\x01a\x01\x00", 5, api.ErrLimit}, {"", -1, api.ErrLimit}, {"\x80\x00", 9, api.ErrForm}, {"\x00", -1, api.ErrLimit}, {"\x09", 5, api.ErrLimit},
		{"\x06\x01a\x01\x01", 10, api.ErrForm}, {"\x06\x01a\x02\x00", 10, api.ErrForm}, {"\x03\x04abcd", 9, api.ErrForm}, {"\x06\x00\x01\x00", 9, api.ErrForm}, {"\x08\x04abcd\x00", 9, api.ErrForm},
		{"\x80\x80\x80\x80\x80\x80\x80\x01\x01a\x80\x80\x80\x80\x80\x40\x00", 1 << 60, api.ErrForm},
		{"\xff\xff\xff\xff\xff\xff\xff\xff\xff\x01", 1<<63 - 1, api.ErrLimit},
	} {
		if b, e := Unpack([]byte(c.b), c.limit); e != c.e || len(b) != 0 {
			t.Errorf("%q %d %v %q", c.b, c.limit, e, b)
		}
	}
}

// slowPack follows the definition.
func slowPack(b []byte) []byte {
	out := wire.AppendUint(nil, uint64(len(b)))
	start := 0
	for at := 0; at < len(b); {
		length, distance := 0, 0
		for d := 1; d <= at && d <= 4096; d++ {
			n := 0
			for at+n < len(b) && b[at+n-d] == b[at+n] {
				n++
			}
			if n >= 4 && n > length {
				length, distance = n, d
			}
		}
		if length == 0 {
			at++
			continue
		}
		out = wire.AppendBytes(out, b[start:at])
		out = wire.AppendUint(wire.AppendUint(out, uint64(length-4)), uint64(distance-1))
		at += length
		start = at
	}
	if start < len(b) {
		out = wire.AppendBytes(out, b[start:])
	}
	return out
}

func TestRandom(t *testing.T) {
	r := rand.New(rand.NewSource(1))
	for i := range 400 {
		size := r.Intn(300)
		if i%100 == 0 {
			size = 9000
		}
		b := make([]byte, size)
		letters := 1 + r.Intn(6)
		for i := range b {
			b[i] = byte(r.Intn(letters))
		}
		if size > 5000 && i > 0 {
			r.Read(b[100:4400])
			copy(b[4096+50:], b[50:100])
			copy(b[4500:], b[403:500])
		}
		c := slices.Clone(b)
		p := Pack(b)
		if !bytes.Equal(p, slowPack(b)) || !bytes.Equal(b, c) || len(p) > len(b)+len(b)/128+14 {
			t.Fatal("packed form", b)
		}
		if u, e := Unpack(p, len(b)); e != api.OK || !bytes.Equal(u, b) {
			t.Fatal("inverse", e)
		}
		if len(b) > 0 {
			if u, e := Unpack(p, len(b)-1); e != api.ErrLimit || len(u) > 0 {
				t.Fatal("limit", e)
			}
		}
		p[r.Intn(len(p))] ^= byte(1 << r.Intn(8))
		if u, e := Unpack(p, 1<<20); e == api.OK && !bytes.Equal(Pack(u), p) {
			t.Fatal("redundancy", p)
		}
	}
}

func TestSizes(t *testing.T) {
	for _, n := range []int{10, 127, 1000, 1 << 20} {
		b := bytes.Repeat([]byte{7}, n)
		p := Pack(b)
		if len(p) > 12 {
			t.Error(n, len(p))
		}
		if u, e := Unpack(p, n); e != api.OK || !bytes.Equal(u, b) {
			t.Error(n, e)
		}
	}
	r := rand.New(rand.NewSource(2))
	b := make([]byte, 1<<20)
	r.Read(b)
	if p := Pack(b); len(p) > len(b)+len(b)/128+14 {
		t.Error(len(p))
	}
}

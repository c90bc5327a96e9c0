package digest

import (
	"crypto/sha256"
	"encoding/hex"
	"math/rand"
	"slices"
	"testing"
)

func TestExamples(t *testing.T) {
	for s, want := range map[string]string{
		"":    "e3b0c44298fc1c149afbf4c8996fb92427ae41e4649b934ca495991b7852b855",
		"abc": "ba7816bf8f01cfea414140de5dae2223b00361a396177a9cb410ff61f20015ad",
	} {
		sum := Sum([]byte(s))
		if hex.EncodeToString(sum[:]) != want {
			t.Error(s)
		}
	}
}

func TestLengths(t *testing.T) {
	r := rand.New(rand.NewSource(1))
	for n := range 300 {
		b := make([]byte, n)
		r.Read(b)
		c := slices.Clone(b)
		if Sum(b) != sha256.Sum256(b) || !slices.Equal(b, c) {
			t.Error(n)
		}
	}
	long := make([]byte, 100001)
	if Sum(long) != sha256.Sum256(long) {
		t.Error("long")
	}
}

func TestDivisionAndClones(t *testing.T) {
	r := rand.New(rand.NewSource(2))
	for range 100 {
		b := make([]byte, r.Intn(500))
		r.Read(b)
		h := New()
		for rest := b; len(rest) > 0; {
			n := 1 + r.Intn(len(rest))
			h.Write(rest[:n])
			rest = rest[n:]
			h.Sum()
		}
		c := h.Clone()
		c.Write([]byte("more"))
		if h.Sum() != sha256.Sum256(b) || c.Sum() != sha256.Sum256(append(slices.Clone(b), "more"...)) {
			t.Fatal("division")
		}
		h.Write([]byte{1})
		if c.Sum() != sha256.Sum256(append(slices.Clone(b), "more"...)) {
			t.Fatal("clone")
		}
	}
}

func TestNil(t *testing.T) {
	var h *Hash
	h.Write([]byte("x"))
	if h.Sum() != Sum(nil) || h.Clone() != nil {
		t.Error("nil")
	}
}

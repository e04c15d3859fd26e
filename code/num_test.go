package code

import (
	"bytes"
	"math/rand"
	"slices"
	"testing"
)

// P10.1, P10.2: numbers and their bytes, written out: the edges of each number of bytes.
func TestNumKnown(t *testing.T) {
	for _, x := range []struct {
		n int
		b []byte
	}{
		{0, []byte{0}}, {1, []byte{1, 1}}, {127, []byte{1, 127}}, {128, []byte{1, 128}}, {255, []byte{1, 255}}, {256, []byte{2, 1, 0}}, {300, []byte{2, 1, 44}}, {511, []byte{2, 1, 255}},
		{65535, []byte{2, 255, 255}}, {65536, []byte{3, 1, 0, 0}}, {1<<24 - 1, []byte{3, 255, 255, 255}}, {1 << 24, []byte{4, 1, 0, 0, 0}}, {0x01020304, []byte{4, 1, 2, 3, 4}},
		{1<<32 - 1, []byte{4, 255, 255, 255, 255}}, {1 << 32, []byte{5, 1, 0, 0, 0, 0}}, {0x8001000203, []byte{5, 128, 1, 0, 2, 3}}, {1<<40 - 1, []byte{5, 255, 255, 255, 255, 255}}, {1 << 40, []byte{6, 1, 0, 0, 0, 0, 0}},
	} {
		got, ok := Num(x.n)
		answers(t, x.n, got, ok, x.b, true)
		for _, behind := range [][]byte{nil, {0}, {7}, {1, 1}, bytes.Repeat([]byte{255}, 300)} {
			n, rest, ok := TakeNum(slices.Concat(x.b, behind))
			if !ok || n != x.n || !bytes.Equal(rest, behind) {
				t.Error(x.n, "got", n, rest, ok)
			}
		}
		for cut := range x.b {
			noNum(t, x.b[:cut])
		}
	}
}

// noNum asks that no number is taken.
func noNum(t *testing.T, b []byte) {
	t.Helper()
	if n, rest, ok := TakeNum(b); ok || n != 0 || len(rest) != 0 {
		t.Error(b, "got", n, rest, ok)
	}
}

// P10.1: numbers that have no bytes.
func TestNumRefused(t *testing.T) {
	for _, n := range outside {
		got, ok := Num(n)
		answers(t, n, got, ok, nil, false)
	}
}

// P10.2: bytes that no number's begin: more than it needs, more than 6, too few, and more than the greatest number.
func TestTakeNumRefused(t *testing.T) {
	for _, b := range [][]byte{
		nil, {}, {1}, {2}, {6}, {7}, {255}, {1, 0}, {1, 0, 5}, {2, 5}, {2, 0, 0}, {2, 0, 255}, {3, 0, 1, 0}, {3, 1, 0}, {4, 0, 1, 1, 1}, {5, 0, 255, 255, 255, 255}, {6, 0, 1, 0, 0, 0, 0}, {6, 1, 0, 0, 0, 0},
		{6, 1, 0, 0, 0, 0, 1}, {6, 1, 0, 0, 0, 1, 0}, {6, 1, 1, 0, 0, 0, 0}, {6, 2, 0, 0, 0, 0, 0}, {6, 255, 255, 255, 255, 255, 255}, {7, 0, 1, 0, 0, 0, 0, 0}, {7, 0, 0, 0, 0, 0, 0, 1}, {7, 1, 0, 0, 0, 0, 0, 0}, {7, 1, 1, 1, 1, 1, 1, 1},
		{8, 0, 0, 0, 0, 0, 0, 0, 5}, {8, 128, 0, 0, 0, 0, 0, 0, 1}, {8, 255, 255, 255, 255, 255, 255, 255, 255}, {9, 1, 0, 0, 0, 0, 0, 0, 0, 0}, {9, 1, 0, 0, 0, 0, 0, 0, 0, 5}, {17, 1, 0, 0, 0, 0, 0, 0, 0, 0, 0, 0, 0, 0, 0, 0, 0, 5},
	} {
		noNum(t, b)
		noNum(t, slices.Clip(b))
	}
	for size := 7; size < 256; size++ {
		for _, digit := range []byte{0, 1, 255} {
			b := append([]byte{byte(size), digit}, make([]byte, 300)...)
			noNum(t, b)
			b[size] = 9
			noNum(t, b)
			noNum(t, b[:size+1])
			noNum(t, b[:size])
		}
	}
}

// P10.1, P10.3: numbers in a row, those around each power of two, and some drawn at random.
func TestNumAll(t *testing.T) {
	for n := range 70000 {
		numIs(t, n)
	}
	for power := range 63 {
		for by := -300; by <= 300; by++ {
			numIs(t, 1<<power+by)
			numIs(t, -1<<power+by)
		}
	}
	r := rand.New(rand.NewSource(102))
	for range 50000 {
		numIs(t, r.Intn(most+1))
		numIs(t, r.Intn(1<<(1+r.Intn(48))))
		numIs(t, int(r.Uint64()))
	}
}

// P10.2, P10.3: any two bytes behind each number of bytes, and the edges of bytes in each place.
func TestTakeNumAll(t *testing.T) {
	took := 0
	for size := range 9 {
		for first := range 256 {
			for second := range 256 {
				if takeNumIs(t, []byte{byte(size), byte(first), byte(second)}) {
					took++
				}
			}
		}
	}
	if want := 256*256 + 255*256 + 255*256; took != want {
		t.Error(took, want)
	}
	edges := []byte{0, 1, 2, 255}
	for size := range 10 {
		for code := range 1 << 16 {
			b := []byte{byte(size)}
			for rest := code; len(b) < 9; rest >>= 2 {
				b = append(b, edges[rest%4])
			}
			takeNumIs(t, b)
			takeNumIs(t, b[:max(size, 1)])
		}
	}
}

package sha

import (
	"bytes"
	"crypto/sha256"
	"encoding/binary"
	"encoding/hex"
	"math"
	"math/big"
	"math/rand"
	"strings"
	"testing"

	"imprimatur/api"
)

// message: n bytes that differ from block to block.
func message(n int) []byte {
	b := make([]byte, n)
	for i := range b {
		b[i] = byte(i*131 + i/64*7 + i>>8)
	}
	return b
}

// The lengths around the ends of blocks and of the room for the padding.
func edges() []int {
	list := []int{0, 1, 2, 3}
	for _, end := range []int{64, 128, 192, 1024, 65536} {
		for n := end - 10; n <= end+2; n++ {
			list = append(list, n)
		}
	}
	return list
}

func mustHex(t *testing.T, s string) api.Digest {
	t.Helper()
	b, err := hex.DecodeString(s)
	if err != nil || len(b) != 32 {
		t.Fatal(s)
	}
	return api.Digest(b)
}

// P1.1: the published digests.
func TestSumKnown(t *testing.T) {
	for _, c := range []struct{ text, want string }{
		{"", "e3b0c44298fc1c149afbf4c8996fb92427ae41e4649b934ca495991b7852b855"},
		{"abc", "ba7816bf8f01cfea414140de5dae2223b00361a396177a9cb410ff61f20015ad"},
		{"abcdbcdecdefdefgefghfghighijhijkijkljklmklmnlmnomnopnopq", "248d6a61d20638b8e5c026930c3e6039a33ce45964ff2167f6ecedd419db06c1"},
		{"abcdefghbcdefghicdefghijdefghijkefghijklfghijklmghijklmnhijklmnoijklmnopjklmnopqklmnopqrlmnopqrsmnopqrstnopqrstu", "cf5b16a778af8380036ce59e7b0492370b249b11e8f07a51afac45037afee9d1"},
		{strings.Repeat("a", 1000000), "cdc76e5c9914fb9281a1c7e284d73e67f1809a48a497200e046d39ccc7112cd0"},
	} {
		want := mustHex(t, c.want)
		if got := Sum([]byte(c.text)); got != want {
			t.Errorf("%d bytes: %x", len(c.text), got)
		}
	}
	if Sum(nil) != Sum([]byte{}) {
		t.Error("nil and empty differ")
	}
}

// P1.1: every length up to some blocks, and the edges beyond.
func TestSumLengths(t *testing.T) {
	for n := range 400 {
		if b := message(n); Sum(b) != sha256.Sum256(b) {
			t.Error(n)
		}
	}
	for _, n := range edges() {
		if b := message(n); Sum(b) != sha256.Sum256(b) {
			t.Error(n)
		}
		for _, fill := range []byte{0, 128, 255} {
			if b := bytes.Repeat([]byte{fill}, n); Sum(b) != sha256.Sum256(b) {
				t.Error(n, fill)
			}
		}
	}
}

// fraction: the first 32 bits of the fractional part of a prime's k-th root, by whole numbers alone.
func fraction(prime, k int64) uint32 {
	target := new(big.Int).Lsh(big.NewInt(prime), uint(32*k))
	root := new(big.Int)
	for bit := 40; bit >= 0; bit-- {
		next := new(big.Int).SetBit(root, bit, 1)
		if new(big.Int).Exp(next, big.NewInt(k), nil).Cmp(target) <= 0 {
			root = next
		}
	}
	return uint32(root.Uint64())
}

// P1.1: the state at first and K are what the chapter says they are.
func TestWords(t *testing.T) {
	first := firstState()
	i := 0
	for p := int64(2); i < rounds; p++ {
		if !big.NewInt(p).ProbablyPrime(0) {
			continue
		}
		if i < len(first) && first[i] != fraction(p, 2) {
			t.Errorf("state word %d: %x", i, first[i])
		}
		if roundWords[i] != fraction(p, 3) {
			t.Errorf("K[%d]: %x", i, roundWords[i])
		}
		i++
	}
}

// P1.1: Compress, block by block over a padded message, makes the digest.
func TestCompressChain(t *testing.T) {
	for _, n := range edges() {
		b := message(n)
		padded := append(bytes.Clone(b), Pad(n)...)
		state := [8]uint32{0x6a09e667, 0xbb67ae85, 0x3c6ef372, 0xa54ff53a, 0x510e527f, 0x9b05688c, 0x1f83d9ab, 0x5be0cd19}
		for ; len(padded) > 0; padded = padded[64:] {
			state = Compress(state, [64]byte(padded))
		}
		var got [32]byte
		for i, word := range state {
			binary.BigEndian.PutUint32(got[4*i:], word)
		}
		if got != sha256.Sum256(b) {
			t.Error(n)
		}
	}
}

// P1.1: the state after the one block of abc, as FIPS 180-4 tells it.
func TestCompressKnown(t *testing.T) {
	block := [64]byte{'a', 'b', 'c', 128, 63: 24}
	got := Compress([8]uint32{0x6a09e667, 0xbb67ae85, 0x3c6ef372, 0xa54ff53a, 0x510e527f, 0x9b05688c, 0x1f83d9ab, 0x5be0cd19}, block)
	want := [8]uint32{0xba7816bf, 0x8f01cfea, 0x414140de, 0x5dae2223, 0xb00361a3, 0x96177a9c, 0xb410ff61, 0xf20015ad}
	if got != want {
		t.Errorf("%x", got)
	}
}

// shaFrom: the state that the library's SHA-256 comes to from any state, so that Compress is held against it there too.
func shaFrom(t *testing.T, state [8]uint32, block [64]byte) [8]uint32 {
	t.Helper()
	raw := []byte("sha\x03")
	for _, word := range state {
		raw = binary.BigEndian.AppendUint32(raw, word)
	}
	raw = append(raw, make([]byte, 64)...)
	raw = binary.BigEndian.AppendUint64(raw, 0)
	h := sha256.New()
	type saved interface {
		MarshalBinary() ([]byte, error)
		UnmarshalBinary([]byte) error
	}
	s := h.(saved)
	if err := s.UnmarshalBinary(raw); err != nil {
		t.Fatal(err)
	}
	h.Write(block[:])
	raw, err := s.MarshalBinary()
	if err != nil {
		t.Fatal(err)
	}
	var out [8]uint32
	for i := range out {
		out[i] = binary.BigEndian.Uint32(raw[4+4*i:])
	}
	return out
}

// P1.1: Compress from any state, additions that wrap around among them.
func TestCompressAny(t *testing.T) {
	r := rand.New(rand.NewSource(1))
	for i := range 300 {
		var state [8]uint32
		var block [64]byte
		for j := range state {
			state[j] = r.Uint32()
		}
		r.Read(block[:])
		switch i {
		case 0:
			state, block = [8]uint32{}, [64]byte{}
		case 1:
			for j := range state {
				state[j] = math.MaxUint32
			}
			copy(block[:], bytes.Repeat([]byte{255}, 64))
		}
		if got, want := Compress(state, block), shaFrom(t, state, block); got != want {
			t.Errorf("%x, %x: %x, not %x", state, block, got, want)
		}
	}
}

// P1.1: the padding's parts, and that it is as short as can be.
func TestPad(t *testing.T) {
	list := append(edges(), 1<<29, 1<<31-1, 1<<31, 1<<32+55, 1<<32+56, 1<<50-9, 1<<50-8, 1<<50-1, 1<<50)
	for n := range 300 {
		list = append(list, n)
	}
	for _, n := range list {
		p := Pad(n)
		if len(p) < 9 || len(p) > 72 || (n+len(p))%64 != 0 {
			t.Error(n, len(p))
			continue
		}
		zeros := p[1 : len(p)-8]
		if p[0] != 128 || !bytes.Equal(zeros, make([]byte, len(zeros))) || len(zeros) > 63 {
			t.Error(n, p)
		}
		if binary.BigEndian.Uint64(p[len(p)-8:]) != 8*uint64(n) {
			t.Error(n, p)
		}
	}
}

// P1.1: the padding whole, where the lengths are at the edges.
func TestPadKnown(t *testing.T) {
	for _, c := range []struct{ n, size int }{{0, 64}, {3, 61}, {54, 10}, {55, 9}, {56, 72}, {63, 65}, {64, 64}, {119, 9}, {120, 72}, {1 << 50, 64}} {
		if got := len(Pad(c.n)); got != c.size {
			t.Error(c.n, got)
		}
	}
	for n, want := range map[int]string{
		55:        "8000000000000001b8",
		119:       "8000000000000003b8",
		1<<50 - 9: "80001fffffffffffb8",
	} {
		if got := hex.EncodeToString(Pad(n)); got != want {
			t.Error(n, got)
		}
	}
}

// P1.1, P1: no padding outside 0 to 2^50.
func TestPadOutside(t *testing.T) {
	for _, n := range []int{-1, -9, -64, math.MinInt, math.MinInt + 1, -(1 << 50), 1<<50 + 1, 1<<50 + 64, 1 << 60, 1 << 61, math.MaxInt - 1, math.MaxInt} {
		if p := Pad(n); len(p) != 0 {
			t.Error(n, p)
		}
	}
}

// P1.2: however the bytes are cut into parts and writes, the digest is the same.
func TestHashParts(t *testing.T) {
	r := rand.New(rand.NewSource(2))
	for range 300 {
		b := message(r.Intn(500))
		h := New()
		for rest := b; len(rest) > 0; {
			var parts [][]byte
			for range r.Intn(5) {
				n := r.Intn(min(len(rest), 130) + 1)
				parts = append(parts, rest[:n])
				rest = rest[n:]
			}
			h.Write(parts...)
		}
		if h.Len() != len(b) || h.Sum() != sha256.Sum256(b) {
			t.Error(len(b), h.Len())
		}
	}
}

// P1.2: two writes that meet at each place around the ends of blocks.
func TestHashCuts(t *testing.T) {
	b := message(200)
	for cut := range 201 {
		h := New()
		h.Write(b[:cut])
		h.Write(b[cut:])
		g := New()
		g.Write(b[:cut], b[cut:])
		if want := sha256.Sum256(b); h.Sum() != want || g.Sum() != want || h.Len() != 200 || g.Len() != 200 {
			t.Error(cut)
		}
	}
}

// P1.2, P1: writes of nothing.
func TestHashNothing(t *testing.T) {
	h := New()
	if h.Len() != 0 || h.Sum() != Sum(nil) {
		t.Error("new")
	}
	h.Write()
	h.Write(nil)
	h.Write([]byte{}, nil, nil)
	h.Write([][]byte(nil)...)
	if h.Len() != 0 || h.Sum() != Sum(nil) {
		t.Error(h.Len())
	}
	h.Write(nil, []byte("ab"), []byte{}, []byte("c"), nil)
	if h.Len() != 3 || h.Sum() != Sum([]byte("abc")) {
		t.Error(h.Len())
	}
}

// P1.2: Sum and Len may be asked between writes, repeatedly, and change nothing.
func TestHashAskedBetween(t *testing.T) {
	b := message(260)
	h := New()
	for i := range b {
		for range 2 {
			if h.Len() != i || h.Sum() != sha256.Sum256(b[:i]) {
				t.Fatal(i, h.Len())
			}
		}
		h.Write(b[i : i+1])
	}
	if h.Len() != 260 || h.Sum() != sha256.Sum256(b) {
		t.Error(h.Len())
	}
}

// P1.2: a fork and its origin go on, each on its own, from each place within a block.
func TestForkGoesOn(t *testing.T) {
	b := message(140)
	for n := range 141 {
		h := New()
		h.Write(b[:n])
		f := h.Fork()
		if f == h || f.Len() != n || f.Sum() != h.Sum() {
			t.Fatal(n)
		}
		left, right := bytes.Repeat([]byte("l"), 70), bytes.Repeat([]byte("r"), 5)
		f.Write(left[:1])
		h.Write(right)
		f.Write(left[1:])
		ff := f.Fork()
		ff.Write(right)
		for _, c := range []struct {
			h    *Hash
			want []byte
		}{
			{h, append(bytes.Clone(b[:n]), right...)},
			{f, append(bytes.Clone(b[:n]), left...)},
			{ff, append(append(bytes.Clone(b[:n]), left...), right...)},
		} {
			if c.h.Len() != len(c.want) || c.h.Sum() != sha256.Sum256(c.want) {
				t.Error(n, c.h.Len())
			}
		}
	}
}

// P1.2: two new hashes have nothing in common.
func TestNewApart(t *testing.T) {
	g, h := New(), New()
	g.Write(message(100))
	if g == h || h.Len() != 0 || h.Sum() != Sum(nil) || New().Sum() != Sum(nil) {
		t.Error("shared")
	}
}

// P1.3: arguments stay as they are, with the memory behind their length.
func TestArgumentsUnchanged(t *testing.T) {
	for _, n := range edges() {
		whole := message(n + 80)
		was := bytes.Clone(whole)
		part := whole[:n]
		Sum(part)
		h := New()
		parts := [][]byte{part, nil, part[:n/2], part}
		h.Write(parts[:3]...)
		h.Sum()
		h.Fork().Write(part)
		if !bytes.Equal(whole, was) {
			t.Error(n)
		}
		if len(parts[0]) != n || parts[1] != nil || len(parts[2]) != n/2 || len(parts[3]) != n {
			t.Error("the list of parts", n)
		}
	}
	state, block := [8]uint32{1, 2, 3, 4, 5, 6, 7, 8}, [64]byte{9, 10}
	Compress(state, block)
	if state != [8]uint32{1, 2, 3, 4, 5, 6, 7, 8} || block != [64]byte{9, 10} {
		t.Error("compressed in place")
	}
}

// P1.3: what is written may be changed afterwards: the hash doesn't hold on to it.
func TestArgumentsNotRetained(t *testing.T) {
	for _, n := range edges() {
		b := message(n)
		want := sha256.Sum256(b)
		h := New()
		parts := [][]byte{b[:n/3], b[n/3:]}
		h.Write(parts...)
		clear(b)
		clear(parts)
		if h.Sum() != want || h.Len() != n {
			t.Error(n)
		}
	}
}

// P1.3: results are new memory, their spare capacity too.
func TestResultsNew(t *testing.T) {
	for _, n := range []int{0, 3, 55, 56, 64} {
		p, q := Pad(n), Pad(n)
		was := bytes.Clone(q)
		clear(p[:cap(p)])
		if !bytes.Equal(q, was) || !bytes.Equal(Pad(n), was) || Sum(message(n)) != sha256.Sum256(message(n)) {
			t.Error(n)
		}
	}
	h := New()
	h.Write([]byte("abc"))
	d := h.Sum()
	clear(d[:])
	if h.Sum() != Sum([]byte("abc")) {
		t.Error("the digest is the hash's own")
	}
	var block [64]byte
	s := Compress(firstState(), block)
	want := s
	clear(s[:])
	if Compress(firstState(), block) != want {
		t.Error("the state is kept")
	}
}

// P1, P1.2: a message of many blocks, in one part and in parts of uneven length.
func TestLong(t *testing.T) {
	b := message(3<<20 + 17)
	want := sha256.Sum256(b)
	h := New()
	for rest := b; len(rest) > 0; {
		n := min(len(rest), 4099)
		h.Write(rest[:n])
		rest = rest[n:]
	}
	if Sum(b) != want || h.Sum() != want || h.Len() != len(b) {
		t.Error(h.Len())
	}
}

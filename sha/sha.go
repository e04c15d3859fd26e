// Package sha is layer 1, SHA-256: see shared/doc/01-sha.md.
package sha

import "imprimatur/api"

const (
	blockSize = 64
	lenSize   = 8       // bytes of the message's length at the end of the padding
	maxPad    = 1 << 50 // bytes of the longest message that Pad pads
)

// Hash takes in bytes, and tells their digest.
type Hash struct {
	state [8]uint32
	block [blockSize]byte // its first count % blockSize bytes wait to be compressed
	count int
}

// Sum: the digest of bytes.
func Sum(b []byte) api.Digest {
	h := New()
	h.Write(b)
	return h.Sum()
}

// New: a hash of no bytes.
func New() *Hash { return &Hash{state: firstState()} }

// Write takes in bytes.
func (h *Hash) Write(parts ...[]byte) {
	for _, part := range parts {
		for len(part) > 0 {
			part = part[h.take(part):]
		}
	}
}

// take consumes bytes up to the end of the current block, and tells how many.
func (h *Hash) take(part []byte) int {
	from := h.count % blockSize
	n := copy(h.block[from:], part)
	h.count += n
	if from+n == blockSize {
		h.state = Compress(h.state, h.block)
	}
	return n
}

// Sum: the digest of all so far.
func (h *Hash) Sum() api.Digest {
	// The padding goes into a fork, so that h can go on.
	last := h.Fork()
	last.Write(Pad(h.count))
	return digest(last.state)
}

// Len: how many bytes there were.
func (h *Hash) Len() int { return h.count }

// Fork: a hash with the same bytes.
func (h *Hash) Fork() *Hash {
	// State and block are arrays, so the copy shares nothing with h.
	twin := *h
	return &twin
}

// Pad: what stands behind so many bytes.
func Pad(n int) []byte {
	if n < 0 || n > maxPad {
		return nil
	}
	size := blockSize - n%blockSize
	if size < 1+lenSize {
		size += blockSize
	}
	pad := make([]byte, size)
	pad[0] = 128
	bits := uint64(n) * 8
	for i := range lenSize {
		pad[size-1-i] = byte(bits >> (8 * i))
	}
	return pad
}

func digest(state [8]uint32) api.Digest {
	var d api.Digest
	for i, word := range state {
		d[4*i] = byte(word >> 24)
		d[4*i+1] = byte(word >> 16)
		d[4*i+2] = byte(word >> 8)
		d[4*i+3] = byte(word)
	}
	return d
}

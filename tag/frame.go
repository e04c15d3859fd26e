package tag

import (
	"bytes"

	"imprimatur/api"
	"imprimatur/sha"
)

const numberSize = 4 // bytes of a count or a length within a frame

// Frame: parts in one row.
func Frame(parts ...[]byte) []byte {
	size := numberSize
	for _, part := range parts {
		size += numberSize + len(part)
	}
	frame := appendNumber(make([]byte, 0, size), len(parts))
	for _, part := range parts {
		frame = appendNumber(frame, len(part))
		frame = append(frame, part...)
	}
	return frame
}

// Unframe: the parts of a row.
func Unframe(b []byte) ([][]byte, bool) {
	count, rest, ok := cutNumber(b)
	if !ok {
		return nil, false
	}
	// The list grows part by part: a count that promises more than there is must not claim memory.
	var parts [][]byte
	for range count {
		var part []byte
		part, rest, ok = cutPart(rest)
		if !ok {
			return nil, false
		}
		parts = append(parts, bytes.Clone(part))
	}
	if len(rest) > 0 {
		return nil, false
	}
	return parts, true
}

// Node: the digest of a kind and parts.
func Node(kind byte, parts ...[]byte) api.Digest {
	h := sha.New()
	h.Write([]byte{kind}, Frame(parts...))
	return h.Sum()
}

// Texts: the digest of a kind and texts.
func Texts(kind byte, list ...string) api.Digest {
	parts := make([][]byte, len(list))
	for i, text := range list {
		parts[i] = []byte(text)
	}
	return Node(kind, parts...)
}

// Set: the digest of a kind and a set of digests.
func Set(kind byte, list ...api.Digest) api.Digest {
	sorted := Sort(list)
	parts := make([][]byte, len(sorted))
	for i := range sorted {
		parts[i] = sorted[i][:]
	}
	return Node(kind, parts...)
}

// appendNumber: b, and behind it a number, its least significant byte first.
func appendNumber(b []byte, n int) []byte {
	return append(b, byte(n), byte(n>>8), byte(n>>16), byte(n>>24))
}

// cutNumber: the number at the start of b, and what stands behind it.
func cutNumber(b []byte) (int, []byte, bool) {
	if len(b) < numberSize {
		return 0, nil, false
	}
	n := int(b[0]) | int(b[1])<<8 | int(b[2])<<16 | int(b[3])<<24
	return n, b[numberSize:], true
}

// cutPart: the part at the start of b, in b's own memory, and what stands behind it.
func cutPart(b []byte) (part, rest []byte, ok bool) {
	size, rest, ok := cutNumber(b)
	if !ok || size > len(rest) {
		return nil, nil, false
	}
	return rest[:size], rest[size:], true
}

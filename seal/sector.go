package seal

import "imprimatur/api"

// A sector: the mark, the number of record bytes, the record bytes and zeros, the mark again.
const (
	markSize = 8
	countAt  = markSize
	dataAt   = countAt + 2
	dataSize = 46
	lastAt   = dataAt + dataSize

	maxNumber = 1<<32 - 1 // of a generation, and of a sector within it
)

// mark stands at both ends of a sector, because a torn write leaves one of them as it was.
type mark [markSize]byte

func markOf(gen, num int) mark {
	var m mark
	put(m[:markSize/2], gen)
	put(m[markSize/2:], num)
	return m
}

func firstMark(b api.Block) mark {
	var m mark
	copy(m[:], b[:])
	return m
}

func lastMark(b api.Block) mark {
	var m mark
	copy(m[:], b[lastAt:])
	return m
}

func (m mark) gen() int { return number(m[:markSize/2]) }

func (m mark) num() int { return number(m[markSize/2:]) }

// sector: the whole sector that has this mark and these record bytes.
func sector(m mark, data []byte) api.Block {
	var b api.Block
	copy(b[:], m[:])
	put(b[countAt:dataAt], len(data))
	copy(b[dataAt:lastAt], data)
	copy(b[lastAt:], m[:])
	return b
}

// Whole: is a sector whole?
func Whole(b api.Block) bool {
	count := number(b[countAt:dataAt])
	// There is one whole sector of a mark and record bytes, so that it is enough to make it anew.
	return count <= dataSize && b == sector(firstMark(b), b[dataAt:dataAt+count])
}

// Mark: a sector's mark.
func Mark(b api.Block) (gen, num int, whole bool) {
	if !Whole(b) {
		return 0, 0, false
	}
	m := firstMark(b)
	return m.gen(), m.num(), true
}

// Data: a sector's bytes of a record.
func Data(b api.Block) []byte {
	if !Whole(b) {
		return nil
	}
	data := make([]byte, number(b[countAt:dataAt]))
	copy(data, b[dataAt:])
	return data
}

// Highest: the greatest generation that stands in sectors.
func Highest(list ...api.Block) int {
	highest := 0
	for _, b := range list {
		highest = max(highest, firstMark(b).gen(), lastMark(b).gen())
	}
	return highest
}

// put fills bytes with a number, the most significant byte first.
func put(to []byte, n int) {
	for i := len(to) - 1; i >= 0; i-- {
		to[i] = byte(n)
		n >>= 8
	}
}

// number: what put has filled bytes with.
func number(from []byte) int {
	n := 0
	for _, b := range from {
		n = n<<8 | int(b)
	}
	return n
}

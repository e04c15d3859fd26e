package seal

import (
	"bytes"
	"crypto/sha256"
	"encoding/binary"
	"math/rand"
	"testing"

	"imprimatur/api"
)

// The chapter's words, written once more by other means than the package's: what it answers is held against them.

// plainSector: a sector's parts one after the other; what stands behind the record bytes is up to the caller.
func plainSector(gen, num uint32, count int, data []byte) api.Block {
	var b api.Block
	binary.BigEndian.PutUint32(b[0:], gen)
	binary.BigEndian.PutUint32(b[4:], num)
	binary.BigEndian.PutUint16(b[8:], uint16(count))
	copy(b[10:56], data)
	binary.BigEndian.PutUint32(b[56:], gen)
	binary.BigEndian.PutUint32(b[60:], num)
	return b
}

// plainBytes: the bytes of a record, with any length ahead of it.
func plainBytes(length int, rec []byte) []byte {
	all := binary.BigEndian.AppendUint16(nil, uint16(length))
	all = append(all, rec...)
	sum := sha256.Sum256(all)
	return append(all, sum[:]...)
}

// plainCut: bytes in sectors, so many in each.
func plainCut(gen, num uint32, all []byte, each int) []api.Block {
	var list []api.Block
	for len(all) > 0 {
		n := min(each, len(all))
		list = append(list, plainSector(gen, num, n, all[:n]))
		all = all[n:]
		num++
	}
	return list
}

func plainPack(gen, num uint32, rec []byte) []api.Block {
	return plainCut(gen, num, plainBytes(len(rec), rec), 46)
}

func plainWhole(b api.Block) bool {
	if !bytes.Equal(b[:8], b[56:]) {
		return false
	}
	count := int(b[8])*256 + int(b[9])
	if count > 46 {
		return false
	}
	for i := 10 + count; i < 56; i++ {
		if b[i] != 0 {
			return false
		}
	}
	return true
}

// plainUnpack asks sector by sector, and the digest at last.
func plainUnpack(list []api.Block, gen, num int) ([]byte, int, bool) {
	if gen < 1 || gen > 1<<32-1 || num < 0 || num > 1<<32-1 {
		return nil, 0, false
	}
	var all []byte
	for i, b := range list {
		if !plainWhole(b) || num+i > 1<<32-1 {
			return nil, 0, false
		}
		if int(binary.BigEndian.Uint32(b[:])) != gen || int(binary.BigEndian.Uint32(b[4:])) != num+i {
			return nil, 0, false
		}
		count := int(binary.BigEndian.Uint16(b[8:]))
		all = append(all, b[10:10+count]...)
		if count < 2 && i == 0 {
			return nil, 0, false
		}
		total := 2 + int(binary.BigEndian.Uint16(all)) + 32
		if total > 2034 || len(all) > total || len(all) < total && count < 46 {
			return nil, 0, false
		}
		if len(all) == total {
			sum := sha256.Sum256(all[:total-32])
			if !bytes.Equal(sum[:], all[total-32:]) {
				return nil, 0, false
			}
			return all[2 : total-32], i + 1, true
		}
	}
	return nil, 0, false
}

// message: n bytes that differ from sector to sector, none of them 0.
func message(n int) []byte {
	b := make([]byte, n)
	for i := range b {
		b[i] = byte((i*131+i/46*7)%255) + 1
	}
	return b
}

// sameAnswer asks that Unpack answers what the chapter's words do, and tells whether there is a record.
func sameAnswer(t *testing.T, list []api.Block, gen, num int, about ...any) bool {
	t.Helper()
	rec, n, ok := Unpack(list, gen, num)
	wantRec, wantN, wantOK := plainUnpack(list, gen, num)
	if ok != wantOK || n != wantN || !bytes.Equal(rec, wantRec) {
		t.Error(append(about, "answered", len(rec), n, ok, "not", len(wantRec), wantN, wantOK)...)
	}
	return ok
}

// spoil changes something in a list of sectors, at times nothing.
func spoil(r *rand.Rand, list []api.Block) []api.Block {
	i := r.Intn(len(list))
	switch r.Intn(9) {
	case 0:
		list[i][r.Intn(64)] ^= 1 << r.Intn(8)
	case 1:
		list = list[:i]
	case 2:
		list = append(list, list[i])
	case 3:
		j := r.Intn(len(list))
		list[i], list[j] = list[j], list[i]
	case 4:
		list[i][9] = byte(r.Intn(50))
	case 5:
		// both marks, so that the sector stays whole
		at, bit := r.Intn(8), byte(1)<<r.Intn(8)
		list[i][at] ^= bit
		list[i][56+at] ^= bit
	case 6:
		list[0][10], list[0][11] = byte(r.Intn(9)), byte(r.Intn(256))
	case 7:
		list = append(list, api.Block{})
	}
	return list
}

// P4.1, P4.2, P4.3: whatever is done to sectors, the answers are those of the chapter's words.
func TestAgainstModel(t *testing.T) {
	r := rand.New(rand.NewSource(4))
	kept := 0
	for range 20000 {
		gen, num := uint32(1+r.Intn(3)), uint32(r.Intn(3))
		size := r.Intn(150)
		if r.Intn(20) == 0 {
			size = r.Intn(2001)
		}
		list, ok := Pack(int(gen), int(num), message(size))
		if !ok || !equal(list, plainPack(gen, num, message(size))) {
			t.Fatal(gen, num, size, ok)
		}
		list = spoil(r, list)
		if sameAnswer(t, list, int(gen), int(num), size) {
			kept++
		}
		sameAnswer(t, list, 1+r.Intn(3), r.Intn(3), size)
		for _, b := range list {
			if Whole(b) != plainWhole(b) {
				t.Errorf("%x", b)
			}
		}
	}
	if kept < 1000 || kept > 19000 {
		t.Error("the trial is one-sided:", kept)
	}
}

func equal(a, b []api.Block) bool {
	if len(a) != len(b) {
		return false
	}
	for i := range a {
		if a[i] != b[i] {
			return false
		}
	}
	return true
}

package seal

import (
	"bytes"
	"encoding/hex"
	"math"
	"testing"

	"imprimatur/api"
)

const most = 1<<32 - 1

// sizes: lengths of records, those around the ends of sectors and the longest among them.
func sizes() []int {
	list := []int{0, 1, 2, 11, 12, 13, 14, 45, 46, 47, 255, 256, 257}
	for end := 12; end <= 2000; end += 46 {
		list = append(list, end-1, end, end+1)
	}
	return append(list, 1999, 2000)
}

func pack(t *testing.T, gen, num int, rec []byte) []api.Block {
	t.Helper()
	list, ok := Pack(gen, num, rec)
	if !ok || len(list) == 0 {
		t.Fatal(gen, num, len(rec), ok)
	}
	return list
}

// none asks that there is no record.
func none(t *testing.T, list []api.Block, gen, num int, about ...any) {
	t.Helper()
	if rec, n, ok := Unpack(list, gen, num); ok || n != 0 || len(rec) != 0 {
		t.Error(append(about, gen, num, "answered", len(rec), n, ok)...)
	}
}

// P4.1: every length that a record may have: 2 + n + 32 bytes, 46 in a sector.
func TestNeed(t *testing.T) {
	for n := 0; n <= 2000; n++ {
		need := Need(n)
		if 46*need < n+34 || 46*(need-1) >= n+34 {
			t.Error(n, need)
		}
	}
	for n, want := range map[int]int{0: 1, 1: 1, 12: 1, 13: 2, 58: 2, 59: 3, 104: 3, 105: 4, 1990: 44, 1991: 45, 2000: 45} {
		if got := Need(n); got != want {
			t.Error(n, got)
		}
	}
}

// P4.1: no other length.
func TestNeedNone(t *testing.T) {
	for _, n := range []int{-1, -2, -34, -46, -80, -2000, 2001, 2002, 2036, 4096, 65535, 65536, 1 << 32, 1<<32 + 1, -1<<32 + 5, math.MaxInt, math.MaxInt - 33, math.MaxInt - 79, math.MinInt, math.MinInt + 1} {
		if got := Need(n); got != 0 {
			t.Error(n, got)
		}
	}
}

// P4.1: a record's sectors, byte by byte.
func TestPackKnown(t *testing.T) {
	list := pack(t, 0x01020304, 0x05060708, []byte("abc"))
	want := "0102030405060708" + "0025" + "0003616263" +
		"757f0dea9aa0c1f8dd5ab5ac9b30e7a7212bb11b7028c0211ebd5125caa277fd" +
		"000000000000000000" + "0102030405060708"
	if got := hex.EncodeToString(list[0][:]); len(list) != 1 || got != want {
		t.Errorf("%d: %s", len(list), got)
	}
}

// P4.1: the sectors of records of all edges, of several generations and numbers.
func TestPackSectors(t *testing.T) {
	for _, n := range sizes() {
		for _, c := range []struct{ gen, num int }{{1, 0}, {1, 1}, {258, 3}, {7, 253}, {65536, 65530}, {1 << 31, 1 << 31}, {most, most - 44}, {most, 0}, {255, 1<<24 - 20}} {
			rec := message(n)
			list := pack(t, c.gen, c.num, rec)
			if len(list) != Need(n) || !equal(list, plainPack(uint32(c.gen), uint32(c.num), rec)) {
				t.Error(n, c, len(list))
			}
			zeros := make([]byte, n)
			if !equal(pack(t, c.gen, c.num, zeros), plainPack(uint32(c.gen), uint32(c.num), zeros)) {
				t.Error("zeros", n, c)
			}
		}
	}
}

// P4.1: a record that fills its last sector, and one that needs one byte more.
func TestPackFull(t *testing.T) {
	for _, c := range []struct{ n, sectors, last int }{{0, 1, 34}, {11, 1, 45}, {12, 1, 46}, {13, 2, 1}, {57, 2, 45}, {58, 2, 46}, {59, 3, 1}, {1990, 44, 46}, {1991, 45, 1}, {2000, 45, 10}} {
		list := pack(t, 3, 4, message(c.n))
		if len(list) != c.sectors {
			t.Fatal(c, len(list))
		}
		for i, b := range list {
			want := 46
			if i == len(list)-1 {
				want = c.last
			}
			gen, num, whole := Mark(b)
			if len(Data(b)) != want || gen != 3 || num != 4+i || !whole {
				t.Error(c, i, len(Data(b)), gen, num, whole)
			}
		}
	}
}

// P4.1: nil and an empty record are one.
func TestPackNil(t *testing.T) {
	if !equal(pack(t, 9, 8, nil), pack(t, 9, 8, []byte{})) {
		t.Error("nil")
	}
}

// refused asks that Pack refuses.
func refused(t *testing.T, gen, num, n int) {
	t.Helper()
	if list, ok := Pack(gen, num, make([]byte, n)); ok || len(list) != 0 {
		t.Error(gen, num, n, len(list), ok)
	}
}

// P4.1: records that are too long.
func TestPackLong(t *testing.T) {
	for _, n := range []int{2001, 2002, 2036, 2037, 65535, 65536, 65536 + 3, 1 << 17} {
		refused(t, 1, 0, n)
		refused(t, most, 7, n)
		refused(t, 0, -1, n)
	}
}

// P4.1: the generations that there are, and those that there are not.
func TestPackGenerations(t *testing.T) {
	for _, gen := range []int{1, 2, 255, 256, 1<<31 - 1, 1 << 31, most - 1, most} {
		if got, _, whole := Mark(pack(t, gen, 0, nil)[0]); got != gen || !whole {
			t.Error(gen, got)
		}
	}
	for _, gen := range []int{0, -1, -2, most + 1, most + 2, 1 << 33, 1<<33 + 1, -1 << 32, -1<<32 + 1, math.MaxInt, math.MinInt, math.MinInt + 1} {
		for _, n := range []int{0, 13, 2000} {
			refused(t, gen, 0, n)
		}
	}
}

// P4.1: the first numbers that a record of some sectors may have, and those that it may not.
func TestPackNumbers(t *testing.T) {
	for _, n := range sizes() {
		last := most - Need(n) + 1
		for _, num := range []int{0, 1, last - 1, last} {
			list := pack(t, 1, num, make([]byte, n))
			if _, got, whole := Mark(list[len(list)-1]); got != num+len(list)-1 || !whole {
				t.Error(n, num, got)
			}
		}
		for _, num := range []int{last + 1, last + 2, most + 1, most + 2, 1 << 33, -1, -2, -44, -45, -46, -1 << 32, math.MaxInt, math.MaxInt - 1, math.MaxInt - 44, math.MinInt, math.MinInt + 1} {
			refused(t, 1, num, n)
		}
		if Need(n) > 1 {
			refused(t, 1, most, n)
		}
	}
}

// P4.2: the marks and record bytes of sectors with each number of record bytes.
func TestSectorParts(t *testing.T) {
	for count := 0; count <= 46; count++ {
		for _, c := range []struct{ gen, num uint32 }{{0, 0}, {0, 5}, {5, 0}, {1, 2}, {0x01020304, 0x05060708}, {most, most}, {1 << 31, 1 << 24}} {
			data := message(count)
			b := plainSector(c.gen, c.num, count, data)
			gen, num, whole := Mark(b)
			if gen != int(c.gen) || num != int(c.num) || !whole || !Whole(b) || !bytes.Equal(Data(b), data) {
				t.Error(count, c, gen, num, whole, Data(b))
			}
		}
		// record bytes may be zero too
		if b := plainSector(3, 4, count, nil); !Whole(b) || !bytes.Equal(Data(b), make([]byte, count)) {
			t.Error("zeros", count, Data(b))
		}
	}
	if gen, num, whole := Mark(api.Block{}); gen != 0 || num != 0 || !whole || !Whole(api.Block{}) || len(Data(api.Block{})) != 0 {
		t.Error("a sector that was never written")
	}
}

// broken asks that a sector is not whole.
func broken(t *testing.T, b api.Block, about ...any) {
	t.Helper()
	if gen, num, whole := Mark(b); gen != 0 || num != 0 || whole || Whole(b) || len(Data(b)) != 0 {
		t.Error(append(about, gen, num, whole, Whole(b), len(Data(b)))...)
	}
}

// P4.2: marks that differ in any bit.
func TestUnequalMarks(t *testing.T) {
	for _, count := range []int{0, 1, 45, 46} {
		for place := range 8 {
			for bit := range 8 {
				for _, at := range []int{place, 56 + place} {
					b := plainSector(0x01020304, 0x05060708, count, message(count))
					b[at] ^= 1 << bit
					broken(t, b, count, at, bit)
				}
			}
		}
	}
	swapped := plainSector(1, 2, 0, nil)
	copy(swapped[56:], []byte{0, 0, 0, 2, 0, 0, 0, 1})
	broken(t, swapped, "swapped")
}

// P4.2: more record bytes than a sector has room for.
func TestManyRecordBytes(t *testing.T) {
	for count := 47; count <= 65535; count++ {
		broken(t, plainSector(3, 4, count, nil), count)
		broken(t, plainSector(3, 4, count, message(46)), count)
	}
}

// P4.2: an unused byte that is not zero, at each place.
func TestUnusedBytes(t *testing.T) {
	for count := 0; count <= 46; count++ {
		for at := count; at < 46; at++ {
			for _, value := range []byte{1, 128, 255} {
				b := plainSector(3, 4, count, message(count))
				b[10+at] = value
				broken(t, b, count, at, value)
			}
		}
	}
}

// P4.2: the greatest generation at either end of any of the sectors, whole or not.
func TestHighest(t *testing.T) {
	if Highest() != 0 || Highest(nil...) != 0 || Highest([]api.Block{}...) != 0 || Highest(api.Block{}) != 0 || Highest(api.Block{}, api.Block{}) != 0 {
		t.Error("none")
	}
	for _, gen := range []uint32{1, 255, 256, 0x01020304, 1 << 31, most} {
		whole := plainSector(gen, 7, 0, nil)
		var first, last api.Block
		copy(first[:4], whole[:4])
		copy(last[56:60], whole[56:60])
		for i, b := range []api.Block{whole, first, last} {
			low := plainSector(gen-1, most, 46, message(46))
			if Highest(b) != int(gen) || Highest(b, low) != int(gen) || Highest(low, b) != int(gen) || Highest(low, b, low, api.Block{}) != int(gen) {
				t.Error(gen, i, Highest(b), Highest(low, b))
			}
		}
	}
}

// P4.2: what stands elsewhere in a sector is no generation.
func TestHighestElsewhere(t *testing.T) {
	for at := range 64 {
		var b api.Block
		b[at] = 1
		want := 0
		if at < 4 {
			want = 1 << (8 * (3 - at))
		} else if at >= 56 && at < 60 {
			want = 1 << (8 * (59 - at))
		}
		if got := Highest(b); got != want {
			t.Error(at, got)
		}
	}
}

// P4.2: Highest of as many sectors as a disk has, the greatest at each place.
func TestHighestMany(t *testing.T) {
	list := make([]api.Block, api.MaxDisk)
	for i := range list {
		list[i] = plainSector(uint32(i%100+1), uint32(i), 0, nil)
	}
	if got := Highest(list...); got != 100 {
		t.Error(got)
	}
	for _, at := range []int{0, 1, 2047, 2048, 4094, 4095} {
		was := list[at]
		list[at][57] = 9
		if got := Highest(list...); got != 9<<16|at%100+1 {
			t.Error(at, got)
		}
		list[at] = was
	}
}

// P4.3, P4.4: Unpack inverts Pack, for every length and at the edges of generations and numbers.
func TestUnpackInvertsPack(t *testing.T) {
	for n := 0; n <= 2000; n++ {
		rec := message(n)
		list := pack(t, 5, 9, rec)
		if got, count, ok := Unpack(list, 5, 9); !ok || count != Need(n) || !bytes.Equal(got, rec) {
			t.Error(n, len(got), count, ok)
		}
	}
	for _, n := range sizes() {
		for _, gen := range []int{1, 256, 1 << 31, most} {
			for _, num := range []int{0, 1, 255, 1 << 31, most - Need(n) + 1} {
				rec := bytes.Repeat([]byte{byte(n)}, n)
				if got, count, ok := Unpack(pack(t, gen, num, rec), gen, num); !ok || count != Need(n) || !bytes.Equal(got, rec) {
					t.Error(n, gen, num, len(got), count, ok)
				}
			}
		}
	}
}

// P4.3: a list that is empty or too short has no record; what stands behind a record does not matter.
func TestUnpackLengths(t *testing.T) {
	none(t, nil, 5, 9)
	none(t, []api.Block{}, 5, 9)
	for _, n := range sizes() {
		rec := message(n)
		list := pack(t, 5, 9, rec)
		for cut := range list {
			none(t, list[:cut], 5, 9, n)
			none(t, list[:cut:cut], 5, 9, n)
		}
		for _, tail := range [][]api.Block{{{}}, {{1}, {2}}, pack(t, 5, 9+len(list), rec), list, make([]api.Block, 100)} {
			long := append(list[:len(list):len(list)], tail...)
			if got, count, ok := Unpack(long, 5, 9); !ok || count != len(list) || !bytes.Equal(got, rec) {
				t.Error(n, len(tail), len(got), count, ok)
			}
		}
	}
}

// P4.3: records one after the other, each read where it begins.
func TestUnpackInTurn(t *testing.T) {
	var list []api.Block
	for _, n := range sizes() {
		list = append(list, pack(t, 6, 1+len(list), message(n))...)
	}
	at := 0
	for _, n := range sizes() {
		rec, count, ok := Unpack(list[at:], 6, 1+at)
		if !ok || count != Need(n) || !bytes.Equal(rec, message(n)) {
			t.Fatal(n, at, count, ok)
		}
		for i := 1; i < count; i++ {
			none(t, list[at+i:], 6, 1+at+i, n)
		}
		at += count
	}
}

// P4.3: another generation or number than the record has, and those that there are not.
func TestUnpackOther(t *testing.T) {
	for _, n := range []int{0, 12, 13, 100, 2000} {
		list := pack(t, 5, 9, message(n))
		for _, gen := range []int{0, 1, 4, 6, 9, -5, 5 + 1<<32, 5 - 1<<32, most, most + 1, math.MaxInt, math.MinInt} {
			none(t, list, gen, 9, n)
		}
		for _, num := range []int{0, 5, 8, 10, -9, 9 + 1<<32, 9 - 1<<32, most, most + 1, math.MaxInt, math.MinInt} {
			none(t, list, 5, num, n)
		}
		none(t, list, 9, 5, n)
	}
}

// P4.3: a sector of another generation, or in another place, within a record.
func TestUnpackStray(t *testing.T) {
	rec := message(200)
	other := pack(t, 4, 9, rec)
	for i := range other {
		list := pack(t, 5, 9, rec)
		list[i] = other[i]
		none(t, list, 5, 9, i)
		for j := range i {
			list = pack(t, 5, 9, rec)
			list[i], list[j] = list[j], list[i]
			none(t, list, 5, 9, i, j)
		}
		list = pack(t, 5, 9, rec)
		list[i] = api.Block{}
		none(t, list, 5, 9, i)
	}
	// all sectors have the number of the first one
	list := pack(t, 5, 9, rec)
	for i, b := range list {
		list[i] = plainSector(5, 9, len(Data(b)), Data(b))
	}
	none(t, list, 5, 9)
}

// P4.3: there is no generation 0, even if all else is right.
func TestUnpackGenerationZero(t *testing.T) {
	for _, n := range []int{0, 13, 2000} {
		none(t, plainPack(0, 0, message(n)), 0, 0, n)
		none(t, plainPack(0, 7, message(n)), 0, 7, n)
		// the same bytes in a mark as those of a generation that there is not
		none(t, plainPack(0, 0, message(n)), 1<<32, 0, n)
		none(t, plainPack(most, 0, message(n)), -1, 0, n)
	}
	none(t, make([]api.Block, 50), 0, 0)
}

// P4.3: numbers do not begin anew at 0 within a record, nor lie outside of what there is.
func TestUnpackNumbersPass(t *testing.T) {
	for _, n := range []int{13, 100, 2000} {
		for back := range Need(n) - 1 {
			list := plainPack(5, most-uint32(back), message(n))
			none(t, list, 5, most-back, n)
			none(t, list, 5, -1-back, n)
		}
	}
	none(t, plainPack(5, 0, nil), 5, 1<<32)
	none(t, plainPack(5, most, nil), 5, -1)
}

// P4.3: any bit of any sector of a record.
func TestUnpackBits(t *testing.T) {
	for _, n := range []int{0, 1, 12, 13, 58, 100} {
		list := pack(t, 5, 9, message(n))
		for i := range list {
			for bit := range 512 {
				list[i][bit/8] ^= 1 << (bit % 8)
				none(t, list, 5, 9, n, i, bit)
				list[i][bit/8] ^= 1 << (bit % 8)
			}
		}
		if _, _, ok := Unpack(list, 5, 9); !ok {
			t.Error(n)
		}
	}
}

// P4.3: sectors that are whole, with a digest that does not match.
func TestUnpackDigest(t *testing.T) {
	for _, n := range []int{0, 1, 12, 13, 58, 100} {
		for at := range n + 34 {
			all := plainBytes(n, message(n))
			all[at] ^= 64
			list := plainCut(5, 9, all, 46)
			for _, b := range list {
				if !Whole(b) {
					t.Fatal(n, at)
				}
			}
			none(t, list, 5, 9, n, at)
		}
	}
	// the digest of the record alone, without its length
	rec := message(7)
	d := plainBytes(0, nil)
	none(t, plainCut(5, 9, append(append([]byte{0, 7}, rec...), d[2:]...), 46), 5, 9)
}

// P4.3: a length that no record has, and one that its bytes have not, with a digest that matches.
func TestUnpackLengthOfRecord(t *testing.T) {
	for _, n := range []int{2001, 2002, 2036, 2037, 4000, 65535} {
		none(t, plainCut(5, 9, plainBytes(n, message(n)), 46), 5, 9, n)
	}
	for _, n := range []int{0, 1, 12, 13, 100} {
		for length := range 300 {
			list := append(plainCut(5, 9, plainBytes(length, message(n)), 46), make([]api.Block, 50)...)
			if ok := sameAnswer(t, list, 5, 9, n, length); ok != (n == length) {
				t.Error(n, length, ok)
			}
		}
		for _, length := range []int{2000, 2001, 65535} {
			none(t, append(plainCut(5, 9, plainBytes(length, message(n)), 46), make([]api.Block, 50)...), 5, 9, n, length)
		}
	}
}

// P4.3: a record is stored with 46 bytes in each sector but the last one; bytes that are cut otherwise are none.
func TestUnpackCut(t *testing.T) {
	for _, n := range []int{0, 5, 12, 13, 58, 59, 100, 300} {
		for each := 1; each < 46; each++ {
			list := plainCut(5, 9, plainBytes(n, message(n)), each)
			if n+34 <= each {
				if rec, count, ok := Unpack(list, 5, 9); !ok || count != 1 || !bytes.Equal(rec, message(n)) {
					t.Error(n, each, ok)
				}
				continue
			}
			none(t, list, 5, 9, n, each)
		}
		// one record byte more, or one less, than there is in the last sector
		list := pack(t, 5, 9, message(n))
		last := len(list) - 1
		for _, change := range []int{-1, 1} {
			bad := append([]api.Block(nil), list...)
			bad[last][9] = byte(int(bad[last][9]) + change)
			none(t, bad, 5, 9, n, change)
		}
	}
}

// P4.3: sectors that are not whole, though the record's bytes are all there.
func TestUnpackNotWhole(t *testing.T) {
	for _, n := range []int{0, 11, 13, 100, 2000} {
		list := pack(t, 5, 9, message(n))
		last := len(list) - 1
		for at := 10 + len(Data(list[last])); at < 56; at++ {
			bad := append([]api.Block(nil), list...)
			bad[last][at] = 1
			none(t, bad, 5, 9, n, at)
		}
		for i := range list {
			for at := 56; at < 64; at++ {
				bad := append([]api.Block(nil), list...)
				bad[i][at]++
				none(t, bad, 5, 9, n, i, at)
			}
			bad := append([]api.Block(nil), list...)
			bad[i][8]++
			none(t, bad, 5, 9, n, i)
		}
	}
}

package seal

import (
	"bytes"
	"math/rand"
	"testing"

	"imprimatur/api"
	"imprimatur/disk"
)

// torn: what layer 3 makes of a sector that is overwritten when it crashes with this pick.
func torn(t *testing.T, before, after api.Block, pick byte) api.Block {
	t.Helper()
	d, e := disk.New(1)
	if e != api.OK || d.Write(0, before) != api.OK {
		t.Fatal(e)
	}
	d.Flush()
	if e := d.Write(0, after); e != api.OK {
		t.Fatal(e)
	}
	d.Crash([]byte{pick})
	b, e := d.Read(0)
	if e != api.OK {
		t.Fatal(e)
	}
	return b
}

// holdsTorn asks, for each way of tearing and losing the write, that the sector is the one that was to be written or is none of its generation.
func holdsTorn(t *testing.T, before, after api.Block, about ...any) {
	t.Helper()
	g, _, _ := Mark(after)
	for pick := range 256 {
		b := torn(t, before, after, byte(pick))
		gen, _, whole := Mark(b)
		if whole != plainWhole(b) {
			t.Fatal(append(about, pick, whole)...)
		}
		if whole && gen == g && b != after {
			t.Error(append(about, pick, "is whole, and none of the two")...)
		}
		if pick/64 == 1 && (b != after || gen != g || !whole) {
			t.Error(append(about, pick, "performed")...)
		}
	}
}

// P4.4: a torn write over sectors of other generations, those that share bytes with the new one among them.
func TestTornWrite(t *testing.T) {
	gens := []uint32{1, 2, 0x0101, 0x01000001, 0x01020304, 0x01020305, 0x02020304, 0x01020404, most, 1 << 31}
	for _, g := range gens {
		for _, old := range append(gens, 0) {
			if old == g {
				continue
			}
			for _, num := range []uint32{0, 9, 0x0a000009} {
				for _, n := range []int{0, 12} {
					after := plainPack(g, 9, message(n))[0]
					holdsTorn(t, plainPack(old, num, message(n))[0], after, g, old, num, n)
					holdsTorn(t, plainSector(old, num, 3, []byte{1, 2, 3}), after, g, old, num, n)
				}
			}
		}
	}
}

// P4.4: a torn write over a sector that is not whole: its marks differ, and neither has the new generation.
func TestTornOverTorn(t *testing.T) {
	r := rand.New(rand.NewSource(7))
	for range 300 {
		g := uint32(1 + r.Intn(70000))
		after := plainPack(g, uint32(r.Intn(3)), message(r.Intn(13)))[0]
		before := after
		for range 1 + r.Intn(20) {
			before[r.Intn(64)] = byte(r.Intn(3))
		}
		// one byte of a generation is enough to make it another one
		before[r.Intn(4)] ^= byte(1 + r.Intn(255))
		before[56+r.Intn(4)] ^= byte(1 + r.Intn(255))
		if bytes.Equal(before[:4], after[:4]) || bytes.Equal(before[56:60], after[56:60]) {
			continue
		}
		holdsTorn(t, before, after, g)
	}
}

// P4.4: the marks alone show a tear, although all between them is the same.
func TestTornMarksShow(t *testing.T) {
	before, after := plainPack(1, 1, message(5))[0], plainPack(2, 1, message(5))[0]
	// The two generations differ in the bytes 3 and 59 alone: so many bytes reach one of them, not both.
	for k := 5; k < 60; k++ {
		for _, kind := range []byte{128, 192} {
			b := torn(t, before, after, kind+byte(k))
			if Whole(b) || Highest(b) != 2 {
				t.Error(kind, k, Highest(b))
			}
		}
	}
}

// P4.3, P4.4: of a record whose sectors are torn, any of them in any way, Unpack answers the record or none.
func TestTornRecord(t *testing.T) {
	rec := message(100)
	list := pack(t, 8, 3, rec)
	old := pack(t, 7, 3, message(101)[1:])
	for i := range list {
		for pick := range 256 {
			hit := append([]api.Block(nil), list...)
			hit[i] = torn(t, old[i], list[i], byte(pick))
			got, n, ok := Unpack(hit, 8, 3)
			if ok != (hit[i] == list[i]) || ok && (n != len(list) || !bytes.Equal(got, rec)) {
				t.Error(i, pick, n, ok)
			}
		}
	}
}

package area

import (
	"math/rand"
	"testing"

	"imprimatur/api"
	"imprimatur/disk"
)

// lay writes an area's head, which counts so many sectors, and records behind it.
func lay(t *testing.T, d *disk.Disk, first, gen, used int, records ...[]byte) {
	t.Helper()
	put(t, d, first, plainHead(gen, used))
	layRecords(t, d, first, gen, 1, records...)
}

// layRecords writes records of an area from a number on.
func layRecords(t *testing.T, d *disk.Disk, first, gen, num int, records ...[]byte) {
	t.Helper()
	for _, rec := range records {
		list := plainPack(gen, num, rec)
		put(t, d, first+num, list...)
		num += len(list)
	}
}

// none asks that no area is valid, and that the next one is begun as the first.
func none(t *testing.T, d *disk.Disk, about ...any) {
	t.Helper()
	if a, e := sameOpen(t, d, about...); a != nil || e != api.ErrNone {
		t.Error(append(about, "Open answered", e)...)
	}
	if a, e := Begin(d.Twin()); e != api.OK || a.First() != 0 {
		t.Error(append(about, "Begin answered", e)...)
	}
}

// valid asks for the current area and its records, and that the next one is begun as the other.
func valid(t *testing.T, d *disk.Disk, first, gen int, records ...[]byte) {
	t.Helper()
	o := open(t, d)
	if o.First() != first || o.Gen() != gen {
		t.Error("first and generation", o.First(), o.Gen(), "not", first, gen)
	}
	is(t, o, texts(records))
	if a := begin(t, d.Twin()); a.First() != d.Size()/2-first {
		t.Error("Begin took", a.First())
	}
}

// both does a thing for the two areas of disks of an even and of an odd size.
func both(t *testing.T, test func(t *testing.T, d *disk.Disk, first int)) {
	t.Helper()
	for _, size := range []int{20, 21} {
		for _, first := range []int{0, 10} {
			test(t, newDisk(t, size), first)
		}
	}
}

// P5.1: one valid area, with no records, with those it was begun with, and with some added.
func TestOneValid(t *testing.T) {
	a, b, c := []byte("a"), message(60, 1), message(13, 2) // 1, 3 and 2 sectors
	both(t, func(t *testing.T, d *disk.Disk, first int) {
		lay(t, d, first, 9, 0)
		valid(t, d, first, 9)
		tells(t, open(t, d), first, 9, 9, true)
		for _, used := range []int{0, 1, 4, 6} {
			lay(t, d, first, 9, used, a, b, c)
			valid(t, d, first, 9, a, b, c)
			tells(t, open(t, d), first, 9, 3, true)
		}
	})
}

// P5.1: a head whose number of sectors no record ends at.
func TestHeadCounts(t *testing.T) {
	a, b, c := []byte("a"), message(60, 1), message(13, 2)
	both(t, func(t *testing.T, d *disk.Disk, first int) {
		for _, used := range []int{2, 3, 5, 7, 8, 9, 10, 11, 20, 256, 257, 260, 1 << 16, 1<<16 + 4, 1 << 24, 1<<24 + 1, 1 << 31, most - 1, most} {
			lay(t, d, first, 9, used, a, b, c)
			none(t, d, used)
		}
		d = newDisk(t, d.Size())
		for _, used := range []int{1, 2, 9, 10, most} {
			lay(t, d, first, 9, used)
			none(t, d, used)
		}
	})
}

// P5.1: a head is a record of 4 bytes, of some generation and with the number 0, in one sector.
func TestHeads(t *testing.T) {
	both(t, func(t *testing.T, d *disk.Disk, first int) {
		for n := range 60 {
			put(t, d, first, plainPack(3, 0, make([]byte, n))...)
			if n == 4 {
				valid(t, d, first, 3)
			} else {
				none(t, d, n)
			}
		}
		for _, num := range []int{1, 2, 256, 1 << 24, most} {
			put(t, d, first, plainPack(3, num, make([]byte, 4))...)
			none(t, d, "number", num)
		}
		put(t, d, first, plainPack(0, 0, make([]byte, 4))...)
		none(t, d, "generation 0")
		for _, gen := range []int{1, 2, 255, 256, 1 << 24, 1 << 31, most - 1} {
			put(t, d, first, plainHead(gen, 0))
			valid(t, d, first, gen)
		}
		put(t, d, first, plainHead(most, 0))
		tells(t, open(t, d), first, most, 9, true)
	})
}

// P5.1: no bit of a head may be another one.
func TestSpoiltHead(t *testing.T) {
	both(t, func(t *testing.T, d *disk.Disk, first int) {
		for bit := range 512 {
			b := plainHead(0x01020304, 0)
			b[bit/8] ^= 1 << (bit % 8)
			put(t, d, first, b)
			none(t, d, bit)
		}
	})
}

// P5.1: with both marks of another generation a head is another area's: none of its records counts.
func TestHeadOfOtherGeneration(t *testing.T) {
	both(t, func(t *testing.T, d *disk.Disk, first int) {
		lay(t, d, first, 8, 0)
		layRecords(t, d, first, 9, 1, []byte("a"), []byte("b"))
		valid(t, d, first, 8)
		lay(t, d, first, 8, 1)
		layRecords(t, d, first, 9, 1, []byte("a"), []byte("b"))
		none(t, d)
	})
}

// P5.1: records that stop in the middle, by each of the sectors, or are spoilt there: those ahead of them count.
func TestBrokenRecords(t *testing.T) {
	records := [][]byte{[]byte("a"), message(60, 1), message(13, 2)}
	ends := []int{0, 1, 4, 6}
	spoils := []func(b api.Block) api.Block{
		func(b api.Block) api.Block { return api.Block{} },
		func(b api.Block) api.Block { b[20] ^= 1; return b },
		func(b api.Block) api.Block { b[63] ^= 1; return b },
		func(b api.Block) api.Block { b[3] ^= 1; b[59] ^= 1; return b },
		func(b api.Block) api.Block { b[7] ^= 16; b[63] ^= 16; return b },
		func(b api.Block) api.Block { b[9]--; return b },
	}
	both(t, func(t *testing.T, d *disk.Disk, first int) {
		for num := 1; num <= 6; num++ {
			for i, spoil := range spoils {
				for used := range 7 {
					lay(t, d, first, 9, used, records...)
					b, _ := d.Read(first + num)
					put(t, d, first+num, spoil(b))
					kept := 0
					for kept < 3 && ends[kept+1] < num {
						kept++
					}
					want := false
					for _, end := range ends[:kept+1] {
						want = want || end == used
					}
					if want {
						valid(t, d, first, 9, records[:kept]...)
					} else {
						none(t, d, num, i, used)
					}
				}
			}
		}
	})
}

// P5.1: records of another generation or with other numbers are none of the area's, although all of them are stored.
func TestOtherRecords(t *testing.T) {
	both(t, func(t *testing.T, d *disk.Disk, first int) {
		lay(t, d, first, 9, 1, []byte("a"))
		put(t, d, first+2, plainPack(8, 2, []byte("older"))...)
		valid(t, d, first, 9, []byte("a"))
		put(t, d, first+2, plainPack(10, 2, []byte("newer"))...)
		valid(t, d, first, 9, []byte("a"))
		for _, num := range []int{0, 1, 3, first + 12, 258} {
			put(t, d, first+2, plainPack(9, num, []byte("b"))...)
			valid(t, d, first, 9, []byte("a"))
		}
		put(t, d, first+2, plainPack(9, 2, []byte("b"))...)
		valid(t, d, first, 9, []byte("a"), []byte("b"))
		// a gap, with the right numbers behind it
		put(t, d, first+3, api.Block{})
		put(t, d, first+4, plainPack(9, 4, []byte("c"))...)
		valid(t, d, first, 9, []byte("a"), []byte("b"))
		put(t, d, first+3, plainPack(9, 3, nil)...)
		valid(t, d, first, 9, []byte("a"), []byte("b"), nil, []byte("c"))
		// numbers from 0 on, as if the head were none
		put(t, d, first+1, plainPack(9, 0, []byte("a"))...)
		none(t, d)
	})
}

// P5.1: what runs over the end of an area is none of its records, even if the sectors fit.
func TestOverTheEnd(t *testing.T) {
	for _, c := range []struct{ size, first int }{{8, 0}, {9, 0}, {9, 4}} {
		d := newDisk(t, c.size)
		lay(t, d, c.first, 9, 2, []byte("a"), []byte("b"))
		layRecords(t, d, c.first, 9, 3, message(13, 1)) // its second sector is not the area's
		valid(t, d, c.first, 9, []byte("a"), []byte("b"))
		tells(t, open(t, d), c.first, 9, 1, true)
		put(t, d, c.first, plainHead(9, 4))
		none(t, d, c)
		put(t, d, c.first, plainHead(9, 0))
		layRecords(t, d, c.first, 9, 3, []byte("c"), []byte("d")) // nor is that of d
		valid(t, d, c.first, 9, []byte("a"), []byte("b"), []byte("c"))
		tells(t, open(t, d), c.first, 9, 0, true)
	}
}

// P5.1: of two valid areas the one with the greater generation is the current one, the second if they are equal.
func TestTwoValid(t *testing.T) {
	gens := []int{1, 2, 3, 255, 256, 257, 1 << 24, 1<<31 - 1, 1 << 31, most - 2, most - 1}
	for _, size := range []int{20, 21} {
		for _, g := range gens {
			for _, h := range gens {
				d := newDisk(t, size)
				lay(t, d, 0, g, 1, []byte("first"))
				lay(t, d, 10, h, 0, []byte("second"), []byte("more"))
				if g > h {
					valid(t, d, 0, g, []byte("first"))
				} else {
					valid(t, d, 10, h, []byte("second"), []byte("more"))
				}
				if a := begin(t, d); a.Gen() != max(g, h)+1 {
					t.Error(g, h, a.Gen())
				}
			}
		}
	}
}

// P5.1: an area that is not valid does not count, whatever its generation.
func TestGreaterButNotValid(t *testing.T) {
	both(t, func(t *testing.T, d *disk.Disk, first int) {
		lay(t, d, first, 5, 1, []byte("a"))
		lay(t, d, 10-first, 6, 2, []byte("b"))
		valid(t, d, first, 5, []byte("a"))
		a := begin(t, d)
		tells(t, a, 10-first, 7, 9, false)
	})
}

// P5.1: two areas on the smallest disks, with no sector between them.
func TestSmallestAreas(t *testing.T) {
	for _, size := range []int{4, 5} {
		d := newDisk(t, size)
		lay(t, d, 0, 1, 1, []byte("a"))
		lay(t, d, 2, 2, 1, []byte("b"))
		valid(t, d, 2, 2, []byte("b"))
		put(t, d, 2, api.Block{})
		valid(t, d, 0, 1, []byte("a"))
		put(t, d, 1, api.Block{})
		none(t, d)
		lay(t, d, 2, 1, 0)
		valid(t, d, 2, 1)
		tells(t, open(t, d), 2, 1, 1, true)
	}
}

// P5.1: heads stand at the beginning of an area and nowhere else.
func TestHeadElsewhere(t *testing.T) {
	for _, size := range []int{20, 21} {
		for n := range size {
			d := newDisk(t, size)
			put(t, d, n, plainHead(4, 0))
			if n == 0 || n == 10 {
				valid(t, d, n, 4)
			} else {
				none(t, d, n)
			}
		}
	}
}

// randomSector: a sector that has much in common with those of areas.
func randomSector(r *rand.Rand, size int) api.Block {
	gen, num := r.Intn(4), r.Intn(size/2)
	switch r.Intn(6) {
	case 0:
		return plainHead(1+r.Intn(3), r.Intn(size/2))
	case 1:
		return plainHead(1+r.Intn(3), 0)
	case 2:
		var b api.Block
		r.Read(b[:])
		return b
	case 3:
		b := plainPack(gen, num, message(r.Intn(13), 0))[0]
		b[r.Intn(64)] = byte(r.Intn(256))
		return b
	}
	return plainPack(gen, num, message(r.Intn(60), 0))[0]
}

// P1, P5.1: whatever a disk holds, Open and Begin answer what the chapter's words do.
func TestAnyDisk(t *testing.T) {
	r := rand.New(rand.NewSource(11))
	count := map[api.Errno]int{}
	for range 4000 {
		size := 4 + r.Intn(12)
		d := newDisk(t, size)
		for n := range size {
			if r.Intn(3) > 0 {
				put(t, d, n, randomSector(r, size))
			}
		}
		for _, first := range []int{0, size / 2} {
			if r.Intn(2) == 0 {
				put(t, d, first, plainHead(1+r.Intn(3), r.Intn(3)))
				put(t, d, first+1, plainPack(1+r.Intn(3), 1, message(r.Intn(13), 1))...)
			}
		}
		_, e := sameOpen(t, d)
		count[e]++
		twin := d.Twin()
		a, e := Begin(d, []byte("a"))
		p, want := plainBegin(twin, []byte("a"))
		same(t, a, e, p, want)
		sameDisk(t, d, twin)
	}
	if count[api.OK] < 500 || count[api.ErrNone] < 500 {
		t.Error("the trial is one-sided:", count)
	}
}

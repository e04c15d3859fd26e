package disk

import (
	"bytes"
	"math"
	"testing"

	"imprimatur/api"
)

// spread: a block whose bytes are all different, and other ones for each start.
func spread(start int) api.Block {
	var b api.Block
	for i := range b {
		b[i] = byte(start*71 + i*3 + 1)
	}
	return b
}

func begin(t *testing.T, size int) *Disk {
	t.Helper()
	d, e := New(size)
	if d == nil || e != api.OK {
		t.Fatal(size, e)
	}
	return d
}

// put writes and asks that it succeeds.
func put(t *testing.T, d *Disk, n int, b api.Block) {
	t.Helper()
	if e := d.Write(n, b); e != api.OK {
		t.Fatal(n, e)
	}
}

// holds asks that a sector is read as this block.
func holds(t *testing.T, d *Disk, n int, want api.Block) {
	t.Helper()
	if got, e := d.Read(n); e != api.OK || got != want {
		t.Errorf("sector %d: %d, %v", n, e, got)
	}
}

// outside: numbers of sectors that a disk of a size does not have.
func outside(size int) []int {
	return []int{-1, -2, -size, size, size + 1, 2 * size, api.MaxDisk, api.MaxDisk + 1, 1 << 31, 1 << 32, -1 << 32, 1<<32 + 1, math.MaxInt, math.MinInt, math.MinInt + 1}
}

// P3.1: the sizes that a disk may have.
func TestNewSizes(t *testing.T) {
	for _, size := range []int{1, 2, 3, 7, 64, 4095, 4096} {
		d := begin(t, size)
		if d.Size() != size || d.Pending() != 0 || len(d.Image()) != size*api.Sector {
			t.Error(size, d.Size(), d.Pending())
		}
		for n := range size {
			holds(t, d, n, api.Block{})
		}
	}
}

// P3.1: all other sizes are refused, without a disk.
func TestNewRefused(t *testing.T) {
	for _, size := range []int{0, -1, -4096, 4097, 4098, 1 << 20, 1 << 32, 1<<32 + 1, 1<<32 + 4096, -1<<32 + 5, math.MaxInt, math.MinInt, math.MinInt + 1} {
		if d, e := New(size); d != nil || e != api.ErrRange {
			t.Error(size, d, e)
		}
	}
}

// P3.1: each sector keeps what was written to it last, at once and without a flush.
func TestWriteRead(t *testing.T) {
	for _, size := range []int{1, 2, 5, 4096} {
		d := begin(t, size)
		for n := range size {
			put(t, d, n, spread(n))
			holds(t, d, n, spread(n))
		}
		put(t, d, size-1, spread(-1))
		for n := range size - 1 {
			holds(t, d, n, spread(n))
		}
		holds(t, d, size-1, spread(-1))
		if d.Size() != size || d.Pending() != size+1 {
			t.Error(size, d.Size(), d.Pending())
		}
	}
}

// P3.1: a sector that does not exist is neither read nor written.
func TestNoSuchSector(t *testing.T) {
	for _, size := range []int{1, 3, 4096} {
		d := begin(t, size)
		put(t, d, 0, spread(1))
		put(t, d, size-1, spread(2))
		was := d.Image()
		for _, n := range outside(size) {
			if n >= 0 && n < size {
				continue
			}
			if b, e := d.Read(n); b != (api.Block{}) || e != api.ErrRange {
				t.Error(size, n, e, b)
			}
			if e := d.Write(n, spread(3)); e != api.ErrRange {
				t.Error(size, n, e)
			}
			if d.Pending() != 2 || !bytes.Equal(d.Image(), was) {
				t.Fatal(size, n, "a refused write did something")
			}
		}
	}
}

// P3.1: pending are the writes since the last flush, also those to one sector and those that change nothing.
func TestPending(t *testing.T) {
	d := begin(t, 2)
	for round := range 3 {
		for i := range 5 {
			if d.Pending() != i {
				t.Error(round, i, d.Pending())
			}
			put(t, d, 1, spread(i/2))
		}
		d.Read(1)
		d.Image()
		d.Twin()
		d.Limit(-1)
		if d.Pending() != 5 {
			t.Error(round, d.Pending())
		}
		d.Flush()
		if d.Pending() != 0 {
			t.Error(round, d.Pending())
		}
		d.Flush()
	}
}

// P3.1: what was flushed is durable: no pick of a crash touches it.
func TestFlushLasts(t *testing.T) {
	for pick := range 256 {
		d := begin(t, 3)
		put(t, d, 0, spread(1))
		put(t, d, 2, spread(2))
		put(t, d, 0, spread(3))
		was := d.Image()
		d.Flush()
		if !bytes.Equal(d.Image(), was) {
			t.Fatal(pick, "a flush changes what is read")
		}
		if n := d.Crash([]byte{byte(pick)}); n != 0 || d.Pending() != 0 {
			t.Error(pick, n)
		}
		holds(t, d, 0, spread(3))
		holds(t, d, 1, api.Block{})
		holds(t, d, 2, spread(2))
	}
}

// P3.2: after a limit of n, n writes succeed, and then none, however often it is tried.
func TestLimitCounts(t *testing.T) {
	for _, n := range []int{0, 1, 2, 3, 10, 300} {
		d := begin(t, 4)
		put(t, d, 3, spread(-1))
		d.Limit(n)
		for i := range n {
			put(t, d, i%3, spread(i))
		}
		was := d.Image()
		for i := range 5 {
			if e := d.Write(i%4, spread(99)); e != api.ErrFull {
				t.Error(n, i, e)
			}
			if d.Pending() != n+1 || !bytes.Equal(d.Image(), was) {
				t.Fatal(n, i, "a refused write did something")
			}
		}
	}
}

// P3.2: a negative limit, and none at all, let all writes succeed.
func TestLimitNone(t *testing.T) {
	for _, limit := range []int{-1, -2, -64, -1 << 32, math.MinInt, math.MinInt + 1, math.MaxInt} {
		d := begin(t, 2)
		d.Limit(limit)
		for i := range 1000 {
			put(t, d, i%2, spread(i))
		}
		if d.Pending() != 1000 {
			t.Error(limit, d.Pending())
		}
	}
	d := begin(t, 1)
	for i := range 1000 {
		put(t, d, 0, spread(i))
	}
}

// P3.2: a write to a sector that does not exist is told as such behind a limit too, and takes nothing from it.
func TestLimitNoSuchSector(t *testing.T) {
	for _, limit := range []int{0, 1, 3} {
		d := begin(t, 2)
		d.Limit(limit)
		for i := range limit {
			for _, n := range outside(2) {
				if e := d.Write(n, spread(1)); e != api.ErrRange {
					t.Error(limit, n, e)
				}
			}
			put(t, d, i%2, spread(i))
		}
		for _, n := range outside(2) {
			if e := d.Write(n, spread(1)); e != api.ErrRange {
				t.Error(limit, n, e)
			}
		}
		if e := d.Write(0, spread(1)); e != api.ErrFull {
			t.Error(limit, e)
		}
	}
}

// P3.2: a full disk is read, flushed and copied as before, and stays full.
func TestLimitStays(t *testing.T) {
	d := begin(t, 2)
	put(t, d, 0, spread(1))
	d.Limit(1)
	d.Flush()
	d.Image()
	d.Twin()
	put(t, d, 1, spread(2))
	for range 3 {
		d.Flush()
		d.Twin().Limit(-1)
		d.Twin().Crash(nil)
		holds(t, d, 0, spread(1))
		holds(t, d, 1, spread(2))
		if e := d.Write(0, spread(3)); e != api.ErrFull {
			t.Error(e)
		}
	}
}

// P3.2: the next limit takes the place of the one before, whatever is left of that.
func TestLimitAnew(t *testing.T) {
	for _, before := range []int{-5, 0, 1, 2, 9} {
		for _, next := range []int{-1, 0, 1, 3} {
			d := begin(t, 1)
			d.Limit(before)
			d.Write(0, spread(0))
			d.Limit(next)
			for i := range 6 {
				want := api.OK
				if next >= 0 && i >= next {
					want = api.ErrFull
				}
				if e := d.Write(0, spread(i)); e != want {
					t.Error(before, next, i, e)
				}
			}
		}
	}
}

// P3.2, P3.3: a crash ends a limit, with something pending and with nothing.
func TestLimitCrash(t *testing.T) {
	for _, limit := range []int{0, 1, 2, 5} {
		for _, flush := range []bool{false, true} {
			for _, picks := range [][]byte{nil, {0}, {64}, {140}, {200, 0}} {
				d := begin(t, 2)
				d.Limit(limit)
				d.Write(0, spread(1))
				d.Write(1, spread(2))
				if flush {
					d.Flush()
				}
				d.Crash(picks)
				for i := range 20 {
					put(t, d, i%2, spread(i))
				}
			}
		}
	}
}

// P3.3: every pick, as the chapter says it, byte by byte.
func TestCrashPicks(t *testing.T) {
	before, after := spread(1), spread(100)
	for p := range 256 {
		d := begin(t, 3)
		put(t, d, 1, before)
		d.Flush()
		put(t, d, 1, after)
		holds(t, d, 1, after)
		n := d.Crash([]byte{byte(p)})
		if want := min(p/64, 1); n != want || d.Pending() != 0 {
			t.Error(p, n, d.Pending())
		}
		got, _ := d.Read(1)
		for i := range got {
			written := p/64 == 1 || p/64 == 2 && i < p%64 || p/64 == 3 && i >= 64-p%64
			if written && got[i] != after[i] || !written && got[i] != before[i] {
				t.Error(p, i, got[i])
			}
		}
		holds(t, d, 0, api.Block{})
		holds(t, d, 2, api.Block{})
	}
}

// P3.3: the pick 140 of the document's example, and a crash without picks.
func TestCrashExamples(t *testing.T) {
	d := begin(t, 1)
	put(t, d, 0, spread(1))
	if n := d.Crash([]byte{140}); n != 1 {
		t.Error(n)
	}
	want := spread(1)
	clear(want[12:])
	holds(t, d, 0, want)
	for _, picks := range [][]byte{nil, {}, make([]byte, 0, 3), []byte{64, 64}[:0]} {
		put(t, d, 0, spread(2))
		if n := d.Crash(picks); n != 0 || d.Pending() != 0 {
			t.Error(n)
		}
		holds(t, d, 0, want)
	}
}

// P3.3: writes take the picks in turn, from the first one again when these are used up; more of them than writes are not asked.
func TestCrashTurns(t *testing.T) {
	for picks := 1; picks < 9; picks++ {
		for writes := range 20 {
			d := begin(t, 20)
			list := make([]byte, picks)
			list[picks-1] = 64
			want := 0
			for i := range writes {
				put(t, d, i, spread(i))
			}
			n := d.Crash(list)
			for i := range writes {
				if i%picks == picks-1 {
					holds(t, d, i, spread(i))
					want++
				} else {
					holds(t, d, i, api.Block{})
				}
			}
			if n != want {
				t.Error(picks, writes, n)
			}
		}
	}
}

// P3.3: the count of picks may be greater than a byte can tell.
func TestCrashManyPicks(t *testing.T) {
	d := begin(t, 1000)
	for i := range 1000 {
		put(t, d, i, spread(i))
	}
	picks := make([]byte, 700)
	picks[299], picks[600] = 64, 64
	if n := d.Crash(picks); n != 3 {
		t.Error(n)
	}
	for i := range 1000 {
		if i == 299 || i == 600 || i == 999 {
			holds(t, d, i, spread(i))
		} else {
			holds(t, d, i, api.Block{})
		}
	}
}

// P3.3: several writes to one sector come one after the other, each over what the one before it left.
func TestCrashOneSector(t *testing.T) {
	a, b, c := spread(1), spread(50), spread(90)
	first := func(n int, over, under api.Block) api.Block {
		copy(under[:n], over[:n])
		return under
	}
	last := func(n int, over, under api.Block) api.Block {
		copy(under[64-n:], over[64-n:])
		return under
	}
	for i, x := range []struct {
		picks []byte
		count int
		want  api.Block
	}{
		{[]byte{64, 0}, 1, b},
		{[]byte{0, 64}, 1, c},
		{[]byte{64, 64}, 2, c},
		{[]byte{0, 0}, 0, a},
		{[]byte{0, 128 + 10}, 1, first(10, c, a)},
		{[]byte{128 + 10, 0}, 1, first(10, b, a)},
		{[]byte{128 + 30, 128 + 10}, 2, first(10, c, first(30, b, a))},
		{[]byte{128 + 10, 128 + 30}, 2, first(30, c, a)},
		{[]byte{192 + 40, 128 + 40}, 2, first(40, c, last(40, b, a))},
		{[]byte{128 + 40, 192 + 40}, 2, last(40, c, first(40, b, a))},
		{[]byte{64, 192 + 63}, 2, last(63, c, b)},
		{[]byte{64, 128 + 63}, 2, first(63, c, b)},
		{[]byte{64, 128}, 2, b},
		{[]byte{64, 192}, 2, b},
		{[]byte{128, 192}, 2, a},
		{[]byte{63, 63}, 0, a},
		{[]byte{127, 63}, 1, b},
	} {
		d := begin(t, 2)
		put(t, d, 1, a)
		d.Flush()
		put(t, d, 1, b)
		put(t, d, 1, c)
		if n := d.Crash(x.picks); n != x.count {
			t.Error(i, n)
		}
		holds(t, d, 1, x.want)
		holds(t, d, 0, api.Block{})
	}
}

// P3.3: a crash with nothing pending changes nothing, on a new disk, behind a flush and behind another crash.
func TestCrashNothing(t *testing.T) {
	for _, picks := range [][]byte{nil, {0}, {64}, {191}, {255, 64}} {
		d := begin(t, 2)
		if n := d.Crash(picks); n != 0 || !bytes.Equal(d.Image(), make([]byte, 128)) {
			t.Error(picks, n)
		}
		put(t, d, 0, spread(1))
		d.Flush()
		was := d.Image()
		if n := d.Crash(picks); n != 0 || !bytes.Equal(d.Image(), was) {
			t.Error(picks, n)
		}
		put(t, d, 1, spread(2))
		d.Crash([]byte{150})
		was = d.Image()
		if n := d.Crash(picks); n != 0 || d.Pending() != 0 || !bytes.Equal(d.Image(), was) {
			t.Error(picks, n)
		}
	}
}

// P3.3: what a crash leaves is the durable content that the next crash starts from.
func TestCrashLasts(t *testing.T) {
	d := begin(t, 1)
	put(t, d, 0, spread(1))
	d.Crash([]byte{64})
	put(t, d, 0, spread(2))
	d.Crash(nil)
	holds(t, d, 0, spread(1))
	put(t, d, 0, spread(3))
	d.Crash([]byte{128 + 20})
	put(t, d, 0, spread(4))
	d.Crash([]byte{0})
	want := spread(1)
	three := spread(3)
	copy(want[:20], three[:20])
	holds(t, d, 0, want)
}

// P3.4: the image is the sectors' bytes in their order, as they are read, pending or not.
func TestImage(t *testing.T) {
	d := begin(t, 3)
	put(t, d, 2, spread(2))
	d.Flush()
	put(t, d, 0, spread(0))
	zero, two := spread(0), spread(2)
	want := append(append(append([]byte{}, zero[:]...), make([]byte, 64)...), two[:]...)
	if !bytes.Equal(d.Image(), want) || d.Pending() != 1 {
		t.Error(d.Image())
	}
	d.Crash(nil)
	clear(want[:64])
	if !bytes.Equal(d.Image(), want) {
		t.Error(d.Image())
	}
}

// P3.4: an image is new memory, with what lies behind its length.
func TestImageApart(t *testing.T) {
	d := begin(t, 2)
	put(t, d, 0, spread(1))
	put(t, d, 1, spread(2))
	d.Flush()
	put(t, d, 1, spread(3))
	want := d.Image()
	for range 2 {
		image := d.Image()
		image = image[:cap(image)]
		for i := range image {
			image[i] ^= 255
		}
		if !bytes.Equal(d.Image(), want) {
			t.Fatal("an image is the disk's memory")
		}
	}
	older := d.Image()
	put(t, d, 0, spread(9))
	d.Flush()
	if !bytes.Equal(older, want) {
		t.Error("an image shows later writes")
	}
	holds(t, d, 0, spread(9))
}

// P3.4: a twin has what is read, all of it durable, nothing pending and no limit.
func TestTwin(t *testing.T) {
	for _, limit := range []int{-1, 0, 2, 7} {
		d := begin(t, 3)
		put(t, d, 0, spread(1))
		d.Flush()
		d.Limit(limit)
		d.Write(0, spread(2))
		d.Write(2, spread(3))
		want, pending := d.Image(), d.Pending()
		x := d.Twin()
		if x.Size() != 3 || x.Pending() != 0 || !bytes.Equal(x.Image(), want) {
			t.Error(limit, x.Size(), x.Pending())
		}
		if n := x.Crash(nil); n != 0 || !bytes.Equal(x.Image(), want) {
			t.Error(limit, n, "not all is durable")
		}
		x = d.Twin()
		for i := range 20 {
			put(t, x, i%3, spread(i))
		}
		x.Crash(nil)
		if !bytes.Equal(x.Image(), want) {
			t.Error(limit, "the durable content is another")
		}
		if d.Pending() != pending || !bytes.Equal(d.Image(), want) {
			t.Error(limit, "the disk is changed")
		}
	}
}

// P3.4: nothing that is done with a twin is seen on its disk.
func TestTwinApart(t *testing.T) {
	d := begin(t, 2)
	put(t, d, 0, spread(1))
	d.Flush()
	put(t, d, 1, spread(2))
	d.Limit(1)
	want := d.Image()
	x := d.Twin()
	put(t, x, 0, spread(7))
	put(t, x, 1, spread(8))
	x.Flush()
	put(t, x, 0, spread(9))
	x.Limit(0)
	if d.Pending() != 1 || !bytes.Equal(d.Image(), want) {
		t.Error(d.Pending())
	}
	put(t, d, 0, spread(3))
	if e := d.Write(0, spread(4)); e != api.ErrFull {
		t.Error(e)
	}
	x.Crash([]byte{64})
	if d.Pending() != 2 || d.Write(0, spread(4)) != api.ErrFull {
		t.Error("the twin's crash reached the disk")
	}
	d.Crash(nil)
	holds(t, d, 0, spread(1))
	holds(t, d, 1, api.Block{})
	holds(t, x, 0, spread(9))
	holds(t, x, 1, spread(8))
}

// P3.4: nothing that is done with a disk is seen on its twin.
func TestDiskApartFromTwin(t *testing.T) {
	d := begin(t, 2)
	put(t, d, 0, spread(1))
	x := d.Twin()
	want := x.Image()
	put(t, x, 1, spread(2))
	put(t, d, 0, spread(3))
	put(t, d, 1, spread(4))
	d.Flush()
	d.Limit(0)
	holds(t, x, 0, spread(1))
	holds(t, x, 1, spread(2))
	put(t, x, 0, spread(5))
	d.Crash(nil)
	if x.Pending() != 2 {
		t.Error(x.Pending())
	}
	if n := x.Crash([]byte{0}); n != 0 || !bytes.Equal(x.Image(), want) {
		t.Error(n)
	}
}

// P3.4: the block that was written and the block that was read are the caller's own.
func TestBlocksApart(t *testing.T) {
	d := begin(t, 1)
	b := spread(1)
	put(t, d, 0, b)
	if b != spread(1) {
		t.Error("changed")
	}
	clear(b[:])
	holds(t, d, 0, spread(1))
	got, _ := d.Read(0)
	clear(got[:])
	holds(t, d, 0, spread(1))
	d.Crash([]byte{64})
	holds(t, d, 0, spread(1))
}

// P3.4: the picks are neither changed nor kept, nor is what stands behind their length looked at.
func TestPicksApart(t *testing.T) {
	memory := []byte{64, 130, 200, 64, 64}
	was := bytes.Clone(memory)
	for n := range len(memory) + 1 {
		d, own := begin(t, 4), begin(t, 4)
		for i := range 9 {
			put(t, d, i%4, spread(i))
			put(t, own, i%4, spread(i))
		}
		if d.Crash(memory[:n]) != own.Crash(bytes.Clone(memory[:n:n])) || !bytes.Equal(d.Image(), own.Image()) {
			t.Error(n, "bytes behind the length count")
		}
		if !bytes.Equal(memory, was) {
			t.Fatal(n, memory)
		}
		want := d.Image()
		clear(memory)
		if !bytes.Equal(d.Image(), want) {
			t.Error(n, "kept")
		}
		copy(memory, was)
	}
}

// P3.1, P3.4: two disks have nothing in common.
func TestDisksApart(t *testing.T) {
	a, b := begin(t, 2), begin(t, 2)
	a.Limit(0)
	put(t, b, 1, spread(1))
	holds(t, a, 1, api.Block{})
	if a.Pending() != 0 || b.Pending() != 1 || a.Write(0, spread(2)) != api.ErrFull {
		t.Error(a.Pending(), b.Pending())
	}
}

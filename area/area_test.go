package area

import (
	"bytes"
	"strings"
	"testing"

	"imprimatur/api"
	"imprimatur/disk"
)

// message: n bytes that differ from place to place and from one seed to another.
func message(n, seed int) []byte {
	b := make([]byte, n)
	for i := range b {
		b[i] = byte(i*131 + i/46*7 + seed*29 + 1)
	}
	return b
}

func newDisk(t *testing.T, size int) *disk.Disk {
	t.Helper()
	d, e := disk.New(size)
	if e != api.OK {
		t.Fatal(size, e)
	}
	return d
}

func begin(t *testing.T, d *disk.Disk, records ...[]byte) *Area {
	t.Helper()
	a, e := Begin(d, records...)
	if e != api.OK || a == nil {
		t.Fatal("Begin answered", e)
	}
	return a
}

func open(t *testing.T, d *disk.Disk) *Area {
	t.Helper()
	a, e := sameOpen(t, d)
	if e != api.OK || a == nil {
		t.Fatal("Open answered", e)
	}
	return a
}

func add(t *testing.T, a *Area, records ...[]byte) {
	t.Helper()
	for _, rec := range records {
		if e := a.Add(rec); e != api.OK {
			t.Fatal("Add answered", e)
		}
	}
}

func texts(records [][]byte) []string {
	var list []string
	for _, rec := range records {
		list = append(list, string(rec))
	}
	return list
}

func equalTexts(a, b []string) bool {
	if len(a) != len(b) {
		return false
	}
	for i := range a {
		if a[i] != b[i] {
			return false
		}
	}
	return true
}

// is asks that an area has these records, in this order.
func is(t *testing.T, a *Area, want []string, about ...any) {
	t.Helper()
	if got := texts(a.Records()); !equalTexts(got, want) {
		t.Fatalf("%v records %q, not %q", about, got, want)
	}
}

// tells asks for all that an area tells beside its records.
func tells(t *testing.T, a *Area, first, gen, free int, stuck bool) {
	t.Helper()
	if a.First() != first || a.Gen() != gen || a.Free() != free || a.Stuck() != stuck {
		t.Error("first, generation, free, stuck:", a.First(), a.Gen(), a.Free(), a.Stuck(), "not", first, gen, free, stuck)
	}
}

// refused asks that Begin refuses with this error, and writes and flushes nothing.
func refused(t *testing.T, d *disk.Disk, want api.Errno, records ...[]byte) {
	t.Helper()
	image, pending := d.Image(), d.Pending()
	if a, e := Begin(d, records...); a != nil || e != want {
		t.Error("Begin answered", e, "not", want)
	}
	if !bytes.Equal(image, d.Image()) || pending != d.Pending() {
		t.Error("Begin wrote or flushed")
	}
}

// put writes sectors that no area wrote.
func put(t *testing.T, d *disk.Disk, n int, list ...api.Block) {
	t.Helper()
	for i, b := range list {
		if e := d.Write(n+i, b); e != api.OK {
			t.Fatal(n+i, e)
		}
	}
	d.Flush()
}

// P5.1, P5.2: the chapter's example.
func TestExample(t *testing.T) {
	a := begin(t, newDisk(t, 8))
	tells(t, a, 0, 1, 3, false)
	is(t, a, nil)
}

// P5.1: a disk of fewer than 4 sectors has no areas.
func TestSmallDisk(t *testing.T) {
	for size := 1; size < 4; size++ {
		d := newDisk(t, size)
		put(t, d, 0, plainHead(3, 0))
		if a, e := Open(d); a != nil || e != api.ErrRange {
			t.Error(size, e)
		}
		d.Write(0, api.Block{9})
		refused(t, d, api.ErrRange)
		refused(t, d, api.ErrRange, nil, []byte("a"))
		refused(t, d, api.ErrRange, make([]byte, 2001))
		d.Limit(0)
		refused(t, d, api.ErrRange)
	}
}

// P5.1: a disk on which no area was begun, of any size.
func TestOpenNone(t *testing.T) {
	for _, size := range []int{4, 5, 6, 7, 8, 4095, 4096} {
		if a, e := sameOpen(t, newDisk(t, size)); a != nil || e != api.ErrNone {
			t.Error(size, e)
		}
	}
}

// P5.1, P5.2: areas of Size/2 sectors, the first at sector 0 and the second at Size/2, by turns.
func TestTurns(t *testing.T) {
	for _, size := range []int{4, 5, 6, 7, 12, 13, 200, 4095, 4096} {
		d, half := newDisk(t, size), size/2
		for gen := 1; gen <= 6; gen++ {
			first := 0
			if gen%2 == 0 {
				first = half
			}
			rec := message(gen, gen)
			a := begin(t, d, rec)
			tells(t, a, first, gen, half-2, false)
			is(t, a, []string{string(rec)})
			if d.Pending() != 0 {
				t.Error(size, gen, "pending", d.Pending())
			}
			o := open(t, d)
			tells(t, o, first, gen, half-2, true)
			is(t, o, []string{string(rec)})
		}
	}
}

// P5.1: what Begin writes, byte by byte: the records from the second sector on, the head, and nothing else.
func TestBeginWrites(t *testing.T) {
	d := newDisk(t, 21)
	put(t, d, 20, api.Block{0, 0, 1}) // a generation of 256, in the sector that belongs to no area
	records := [][]byte{[]byte("a"), message(100, 1), nil, message(12, 2), message(13, 3)}
	a := begin(t, d, records...)
	tells(t, a, 0, 257, 1, false)
	want := newDisk(t, 21)
	put(t, want, 20, api.Block{0, 0, 1})
	put(t, want, 0, plainHead(257, 8))
	num := 1
	for _, rec := range records {
		list := plainPack(257, num, rec)
		put(t, want, num, list...)
		num += len(list)
	}
	sameDisk(t, d, want)
	is(t, open(t, d), texts(records))
}

// P5.1: Begin without records leaves what stands behind the head as it is, and none of that is a record of the area.
func TestBeginEmpty(t *testing.T) {
	d := newDisk(t, 10)
	begin(t, d, []byte("a"), []byte("b"))
	begin(t, d, []byte("c"))
	before, _ := d.Read(1)
	a := begin(t, d)
	tells(t, a, 0, 3, 4, false)
	is(t, a, nil)
	after, _ := d.Read(1)
	if before != after {
		t.Error("a sector behind the head was written")
	}
	o := open(t, d)
	tells(t, o, 0, 3, 4, true)
	is(t, o, nil)
}

// P5.1: records of 2,000 bytes are none too long; one byte more is, whatever else is wrong.
func TestLongRecords(t *testing.T) {
	d := newDisk(t, 200)
	long := message(2000, 1)
	a := begin(t, d, long, long)
	tells(t, a, 0, 1, 9, false)
	is(t, a, []string{string(long), string(long)})
	is(t, open(t, d), []string{string(long), string(long)})
	b := begin(t, d)
	add(t, b, long)
	tells(t, b, 100, 2, 54, false)
	for _, n := range []int{2001, 2002, 65535, 65536, 65537, 1 << 17} {
		if e := b.Add(make([]byte, n)); e != api.ErrForm || b.Stuck() || b.Free() != 54 {
			t.Error(n, e)
		}
		refused(t, d, api.ErrForm, make([]byte, n))
		refused(t, d, api.ErrForm, nil, long, long, long, make([]byte, n))
		refused(t, newDisk(t, 4), api.ErrForm, nil, make([]byte, n), nil)
	}
	if d.Pending() != 45 {
		t.Error("pending", d.Pending())
	}
	is(t, b, []string{string(long)})
	d.Limit(0)
	refused(t, d, api.ErrForm, make([]byte, 2001))
	high := newDisk(t, 4)
	put(t, high, 3, api.Block{255, 255, 255, 255})
	refused(t, high, api.ErrForm, make([]byte, 2001))
}

// P5.1: records that just fit, with the head, and records that need one sector more.
func TestBeginFits(t *testing.T) {
	for _, c := range []struct {
		size  int
		sizes []int
		free  int // -1: they do not fit
	}{
		{4, nil, 1}, {4, []int{0}, 0}, {4, []int{12}, 0}, {4, []int{13}, -1}, {4, []int{0, 0}, -1},
		{5, []int{12}, 0}, {5, []int{13}, -1}, {6, []int{13}, 0}, {6, []int{58}, 0}, {6, []int{59}, -1}, {7, []int{0, 0}, 0}, {7, []int{0, 13}, -1},
		{92, []int{2000}, 0}, {93, []int{2000}, 0}, {91, []int{2000}, -1}, {90, []int{2000}, -1}, {92, []int{2000, 0}, -1}, {94, []int{0, 2000}, 0},
	} {
		d := newDisk(t, c.size)
		begin(t, d)
		add(t, begin(t, d), nil)
		var records [][]byte
		for i, n := range c.sizes {
			records = append(records, message(n, i))
		}
		if c.free < 0 {
			refused(t, d, api.ErrFull, records...)
			tells(t, open(t, d), c.size/2, 2, c.size/2-2, true)
			continue
		}
		a := begin(t, d, records...)
		tells(t, a, 0, 3, c.free, false)
		is(t, open(t, d), texts(records))
	}
}

// P5.1, P5.2: the greatest disk, filled to its last sector.
func TestGreatDisk(t *testing.T) {
	for _, size := range []int{4095, 4096} {
		d := newDisk(t, size)
		fits := size/2 - 1
		records := make([][]byte, fits)
		for i := range records {
			records[i] = message(i%13, i)
		}
		begin(t, d)
		a := begin(t, d, records...)
		tells(t, a, size/2, 2, 0, false)
		is(t, open(t, d), texts(records))
		if e := a.Add(nil); e != api.ErrFull || a.Stuck() {
			t.Error(e)
		}
		refused(t, d, api.ErrFull, append(records, nil)...)
	}
}

// P5.1: a generation is one more than the highest that stands in a mark of any sector, whole or not.
func TestNewGeneration(t *testing.T) {
	var first, last api.Block
	first[1] = 7
	last[57], last[60] = 7, 99
	whole := plainPack(7<<16, 3, []byte("a"))[0]
	for i, b := range []api.Block{first, last, whole} {
		for n := range 9 {
			d := newDisk(t, 9)
			put(t, d, n, b)
			a := begin(t, d, []byte("r"))
			tells(t, a, 0, 7<<16+1, 2, false)
			is(t, open(t, d), []string{"r"})
			if t.Failed() {
				t.Fatal(i, n)
			}
		}
	}
	// What stands between the marks, and the numbers in them, are no generations.
	var other api.Block
	for i := range other {
		if i >= 4 && i < 56 || i >= 60 {
			other[i] = 255
		}
	}
	d := newDisk(t, 9)
	put(t, d, 5, other)
	tells(t, begin(t, d), 0, 1, 3, false)
}

// P5.1: writes count for the new generation before they are flushed.
func TestNewGenerationPending(t *testing.T) {
	d := newDisk(t, 8)
	if e := d.Write(7, api.Block{0, 0, 0, 40}); e != api.OK {
		t.Fatal(e)
	}
	tells(t, begin(t, d), 0, 41, 3, false)
}

// P5.1: there is a generation 2^32 - 1, and none behind it.
func TestLastGeneration(t *testing.T) {
	var first, last api.Block
	copy(first[:], []byte{255, 255, 255, 255})
	copy(last[56:], []byte{255, 255, 255, 255})
	for _, b := range []api.Block{first, last, plainPack(most, 1, nil)[0]} {
		for n := range 9 {
			d := newDisk(t, 9)
			put(t, d, n, b)
			d.Write(n, b)
			refused(t, d, api.ErrFull)
			refused(t, d, api.ErrFull, []byte("a"))
		}
	}
	d := newDisk(t, 9)
	put(t, d, 4, plainHead(most-1, 1), plainPack(most-1, 1, []byte("a"))[0])
	a := begin(t, d, []byte("b"))
	tells(t, a, 0, most, 2, false)
	add(t, a, []byte("c"))
	is(t, open(t, d), []string{"b", "c"})
	refused(t, d, api.ErrFull)
	add(t, a, []byte("d"))
	o := open(t, d)
	tells(t, o, 0, most, 0, true)
	is(t, o, []string{"b", "c", "d"})
}

// P5.2: records, free sectors and what is written, after each Add.
func TestAdd(t *testing.T) {
	d := newDisk(t, 41)
	begin(t, d)
	a := begin(t, d, []byte("first"))
	want := d.Twin()
	records, used := []string{"first"}, 1
	for i, n := range []int{0, 12, 13, 1, 58, 59, 104, 105, 3} {
		rec := message(n, i)
		pending := d.Pending()
		add(t, a, rec)
		list := plainPack(2, 1+used, rec)
		put(t, want, 20+1+used, list...)
		used += len(list)
		records = append(records, string(rec))
		tells(t, a, 20, 2, 19-used, false)
		is(t, a, records)
		if d.Pending() != pending+len(list) || !bytes.Equal(d.Image(), want.Image()) {
			t.Error(i, n, "pending", d.Pending())
		}
		is(t, open(t, d), records)
	}
	if e := a.Flush(); e != api.OK || d.Pending() != 0 {
		t.Error(e, d.Pending())
	}
	sameDisk(t, d, want)
	is(t, open(t, d), records)
}

// P5.2: a record that needs more sectors than are free is refused, and the area goes on.
func TestAddFits(t *testing.T) {
	d := newDisk(t, 11)
	a := begin(t, d, []byte("a"))
	image := d.Image()
	for _, n := range []int{105, 151, 2000} {
		if e := a.Add(make([]byte, n)); e != api.ErrFull {
			t.Error(n, e)
		}
	}
	tells(t, a, 0, 1, 3, false)
	if !bytes.Equal(image, d.Image()) || d.Pending() != 0 {
		t.Error("a refused record was written")
	}
	add(t, a, message(104, 1))
	tells(t, a, 0, 1, 0, false)
	if e := a.Add(nil); e != api.ErrFull || a.Stuck() || d.Pending() != 3 {
		t.Error(e)
	}
	is(t, a, []string{"a", string(message(104, 1))})
	is(t, open(t, d), []string{"a", string(message(104, 1))})
}

// P5.1, P5.2: nothing is added to an opened area; its Flush flushes.
func TestOpenedStuck(t *testing.T) {
	d := newDisk(t, 40)
	a := begin(t, d, []byte("a"))
	add(t, a, []byte("b"))
	o := open(t, d)
	tells(t, o, 0, 1, 17, true)
	for _, rec := range [][]byte{nil, []byte("c"), message(2000, 1)} {
		if e := o.Add(rec); e != api.ErrFull {
			t.Error(len(rec), e)
		}
	}
	if e := o.Add(make([]byte, 2001)); e != api.ErrForm {
		t.Error(e)
	}
	is(t, o, []string{"a", "b"})
	tells(t, o, 0, 1, 17, true)
	if d.Pending() != 1 {
		t.Error("pending", d.Pending())
	}
	if e := o.Flush(); e != api.OK || d.Pending() != 0 {
		t.Error(e, d.Pending())
	}
	// Another handle of the area is as it was.
	add(t, a, []byte("c"))
	is(t, a, []string{"a", "b", "c"})
}

// P5.2: a disk that refuses any of the writes of an Add makes the area stuck, for good.
func TestAddRefused(t *testing.T) {
	rec := message(150, 1) // four sectors
	for writes := range 4 {
		d := newDisk(t, 41)
		a := begin(t, d, []byte("a"))
		add(t, a, []byte("b"))
		d.Limit(writes)
		if e := a.Add(rec); e != api.ErrFull {
			t.Fatal(writes, e)
		}
		tells(t, a, 0, 1, 17, true)
		is(t, a, []string{"a", "b"})
		if d.Pending() != 1+writes {
			t.Error(writes, "pending", d.Pending())
		}
		d.Limit(-1)
		if e := a.Add(nil); e != api.ErrFull {
			t.Error(writes, e)
		}
		if e := a.Add(make([]byte, 2001)); e != api.ErrForm {
			t.Error(writes, e)
		}
		if d.Pending() != 1+writes {
			t.Error(writes, "pending", d.Pending())
		}
		if e := a.Flush(); e != api.OK || d.Pending() != 0 || !a.Stuck() {
			t.Error(writes, e, d.Pending())
		}
		is(t, a, []string{"a", "b"})
		is(t, open(t, d), []string{"a", "b"})
		b := begin(t, d, a.Records()...)
		tells(t, b, 20, 2, 17, false)
		add(t, b, rec)
		is(t, open(t, d), []string{"a", "b", string(rec)})
	}
}

// P5.2: with as many writes as the record needs it is added, and the next one is refused.
func TestAddJustWithinLimit(t *testing.T) {
	d := newDisk(t, 41)
	a := begin(t, d)
	d.Limit(4)
	add(t, a, message(150, 1))
	tells(t, a, 0, 1, 15, false)
	if e := a.Add(make([]byte, 2001)); e != api.ErrForm || a.Stuck() {
		t.Error(e)
	}
	// A record that does not fit is refused before the disk is asked.
	if e := a.Add(make([]byte, 1000)); e != api.ErrFull || a.Stuck() {
		t.Error(e)
	}
	if e := a.Add(nil); e != api.ErrFull || !a.Stuck() {
		t.Error(e)
	}
	is(t, open(t, d), []string{string(message(150, 1))})
}

// P5.1: a disk that refuses any of the writes of a Begin. What was written before stays so, in order, and the records last before the head is written.
func TestBeginRefused(t *testing.T) {
	records := [][]byte{[]byte("x"), message(100, 1), message(13, 2)} // 1, 3 and 2 sectors
	for writes := range 8 {
		d := newDisk(t, 30)
		a := begin(t, d, []byte("a"))
		add(t, a, []byte("b"))
		d.Limit(writes)
		twin := d.Twin()
		b, e := Begin(d, records...)
		if writes == 7 {
			if e != api.OK || b == nil || d.Pending() != 0 {
				t.Fatal(e, d.Pending())
			}
			is(t, open(t, d), texts(records))
			continue
		}
		if b != nil || e != api.ErrFull {
			t.Fatal(writes, e)
		}
		var list []api.Block
		for _, rec := range records {
			list = append(list, plainPack(2, 1+len(list), rec)...)
		}
		put(t, twin, 16, list[:writes]...)
		pending := 1 + writes
		if writes == 6 {
			pending = 0
		}
		if d.Pending() != pending || !bytes.Equal(d.Image(), twin.Image()) {
			t.Error(writes, "pending", d.Pending())
		}
		d.Limit(-1)
		is(t, open(t, d), []string{"a", "b"})
		add(t, a, []byte("c"))
		is(t, open(t, d), []string{"a", "b", "c"})
		gen := 3
		if writes == 0 {
			gen = 2
		}
		tells(t, begin(t, d, records...), 15, gen, 8, false)
	}
}

// P5.1: without records the first write is the head, behind a flush.
func TestBeginEmptyRefused(t *testing.T) {
	d := newDisk(t, 8)
	a := begin(t, d)
	add(t, a, []byte("a"))
	d.Limit(0)
	if b, e := Begin(d); b != nil || e != api.ErrFull || d.Pending() != 0 {
		t.Error(e, d.Pending())
	}
	is(t, open(t, d), []string{"a"})
	d.Limit(1)
	tells(t, begin(t, d), 4, 2, 3, false)
}

// P5.1: on a disk without a valid area a refused Begin leaves none, and the next one goes to the first area.
func TestFirstBeginRefused(t *testing.T) {
	for writes := range 3 {
		d := newDisk(t, 8)
		d.Limit(writes)
		if b, e := Begin(d, []byte("a"), []byte("b")); b != nil || e != api.ErrFull {
			t.Fatal(writes, e)
		}
		if a, e := sameOpen(t, d); a != nil || e != api.ErrNone {
			t.Fatal(writes, e)
		}
		d.Limit(-1)
		a := begin(t, d, []byte("c"))
		tells(t, a, 0, 1+min(writes, 1), 2, false)
		is(t, open(t, d), []string{"c"})
	}
}

// P5.2: nothing that is asked changes an area or its disk.
func TestAskingChangesNothing(t *testing.T) {
	d := newDisk(t, 40)
	a := begin(t, d, []byte("a"))
	add(t, a, []byte("b"))
	image := d.Image()
	for range 3 {
		tells(t, a, 0, 1, 17, false)
		is(t, a, []string{"a", "b"})
		is(t, open(t, d), []string{"a", "b"})
	}
	if !bytes.Equal(image, d.Image()) || d.Pending() != 1 {
		t.Error("something was written")
	}
}

// P5.2: records of the same bytes, and empty ones, each count.
func TestSameRecords(t *testing.T) {
	d := newDisk(t, 40)
	a := begin(t, d, nil, []byte("a"), []byte{}, []byte("a"))
	add(t, a, []byte("a"), nil, []byte{})
	want := []string{"", "a", "", "a", "a", "", ""}
	is(t, a, want)
	is(t, open(t, d), want)
	if got := strings.Join(texts(open(t, d).Records()), "|"); got != "|a||a|a||" {
		t.Error(got)
	}
}

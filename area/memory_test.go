package area

import (
	"bytes"
	"testing"

	"imprimatur/api"
)

// fill overwrites a slice with all that stands behind its length.
func fill(b []byte, value byte) {
	b = b[:cap(b)]
	for i := range b {
		b[i] = value
	}
}

// spoilRecords overwrites records, the list of them, and all that stands behind their lengths.
func spoilRecords(list [][]byte) {
	list = list[:cap(list)]
	for i := range list {
		fill(list[i], 77)
		list[i] = []byte("none")
	}
}

// sizes: lengths of records, those around the ends of sectors and the longest among them.
func sizes() []int { return []int{0, 1, 11, 12, 13, 57, 58, 59, 104, 105, 1999, 2000} }

// P5.4: arguments stay as they are, with the memory behind their length, whether they are taken or refused.
func TestArgumentsUnchanged(t *testing.T) {
	for _, n := range append(sizes(), 2001, 3000) {
		d := newDisk(t, 300)
		long := message(n+80, 1)
		list := [][]byte{long[:n], []byte("b"), []byte("behind")}
		a, e := Begin(d, list[:2]...)
		if (e == api.OK) != (n <= 2000) {
			t.Fatal(n, e)
		}
		if a == nil {
			a = begin(t, d)
		}
		a.Add(long[:n])
		d.Limit(0)
		a.Add(long[:n])
		Begin(d, list[:2]...)
		if !bytes.Equal(long, message(n+80, 1)) {
			t.Error("a record was changed", n)
		}
		if !bytes.Equal(list[0], long[:n]) || string(list[1]) != "b" || string(list[2]) != "behind" {
			t.Error("the list was changed", n)
		}
	}
}

// P5.4: arguments are not kept: what is done to them later shows neither in the area nor on the disk.
func TestArgumentsNotKept(t *testing.T) {
	for _, n := range sizes() {
		d := newDisk(t, 300)
		list := [][]byte{message(n, 1), message(n, 2)}
		rec := message(n, 3)
		want := []string{string(list[0]), string(list[1]), string(rec)}
		a := begin(t, d, list...)
		spoilRecords(list)
		is(t, a, want[:2])
		add(t, a, rec)
		fill(rec, 77)
		is(t, a, want)
		is(t, open(t, d), want)
	}
}

// P5.4: results are new memory, also behind their length: what is done to one shows in no other.
func TestResultsNew(t *testing.T) {
	for _, n := range sizes() {
		d := newDisk(t, 300)
		a := begin(t, d, message(n, 1))
		add(t, a, message(n, 2))
		want := []string{string(message(n, 1)), string(message(n, 2))}
		for _, x := range []*Area{a, open(t, d)} {
			one, two := x.Records(), x.Records()
			spoilRecords(one)
			if !equalTexts(texts(two), want) {
				t.Error("another result", n)
			}
			is(t, x, want)
			// The lists of one result share nothing, nor does what stands behind their lengths.
			fill(two[0], 77)
			if string(two[1]) != want[1] {
				t.Error("another record", n)
			}
			two = x.Records()
			fill(two[1], 77)
			if string(two[0]) != want[0] {
				t.Error("another record", n)
			}
			three := x.Records()
			_ = append(three[0], message(100, 9)...)
			_ = append(three, []byte("more"))
			if !equalTexts(texts(three), want) {
				t.Error("appended", n)
			}
			is(t, x, want)
		}
		is(t, open(t, d), want)
	}
}

// P5.4: a result stays as it is when records are added and other areas are begun.
func TestResultsStay(t *testing.T) {
	d := newDisk(t, 40)
	a := begin(t, d, []byte("a"))
	got := a.Records()
	add(t, a, []byte("b"))
	o := open(t, d)
	opened := o.Records()
	begin(t, d, []byte("c"))
	begin(t, d, []byte("d"), []byte("e"))
	if !equalTexts(texts(got), []string{"a"}) || !equalTexts(texts(opened), []string{"a", "b"}) {
		t.Errorf("%q %q", got, opened)
	}
}

// P5.4, P1: two areas on two disks have nothing in common, and an answer hangs on its disk alone.
func TestApart(t *testing.T) {
	d := newDisk(t, 40)
	a := begin(t, d, []byte("a"))
	twin := d.Twin()
	b := begin(t, twin, []byte("b"))
	add(t, a, []byte("c"))
	add(t, b, []byte("d"))
	is(t, a, []string{"a", "c"})
	is(t, b, []string{"b", "d"})
	is(t, open(t, d), []string{"a", "c"})
	is(t, open(t, twin), []string{"b", "d"})
	for range 3 {
		x, y := newDisk(t, 40), newDisk(t, 40)
		begin(t, x, []byte("a"))
		begin(t, y, []byte("a"))
		sameDisk(t, x, y)
	}
}

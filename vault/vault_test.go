package vault

import (
	"bytes"
	"testing"

	"imprimatur/api"
	"imprimatur/area"
	"imprimatur/disk"
)

// message: n bytes that differ from place to place and from one seed to another.
func message(n, seed int) []byte {
	b := make([]byte, n)
	for i := range b {
		b[i] = byte(i*131 + i/46*7 + seed*29 + 1)
	}
	return b
}

// key: a key for each number; they differ from each other in their last byte alone, as well as in their first.
func key(n int) api.Digest {
	k := api.Digest{byte(n >> 8)}
	k[31] = byte(n)
	return k
}

// entry is a key and its value.
type entry struct {
	key   api.Digest
	value string
}

func e(n int, value string) entry { return entry{key(n), value} }

func (x entry) record() []byte { return []byte(string(x.key[:]) + x.value) }

func keysOf(list []entry) []api.Digest {
	var keys []api.Digest
	for _, x := range list {
		keys = append(keys, x.key)
	}
	return keys
}

func recordsOf(list []entry) [][]byte {
	var records [][]byte
	for _, x := range list {
		records = append(records, x.record())
	}
	return records
}

func newDisk(t *testing.T, size int) *disk.Disk {
	t.Helper()
	d, e := disk.New(size)
	if e != api.OK {
		t.Fatal(size, e)
	}
	return d
}

func open(t *testing.T, d *disk.Disk) *Vault {
	t.Helper()
	v, e := Open(d)
	if v == nil || e != api.OK {
		t.Fatal("Open answered", e)
	}
	return v
}

// sound: an opened vault that takes entries.
func sound(t *testing.T, d *disk.Disk) *Vault {
	t.Helper()
	v := open(t, d)
	if !v.Sound() {
		t.Fatal("the vault is unsound")
	}
	return v
}

func put(t *testing.T, v *Vault, list ...entry) {
	t.Helper()
	for _, x := range list {
		if e := v.Put(x.key, []byte(x.value)); e != api.OK {
			t.Fatal("Put answered", e)
		}
	}
}

func begin(t *testing.T, d *disk.Disk, records ...[]byte) *area.Area {
	t.Helper()
	a, e := area.Begin(d, records...)
	if e != api.OK {
		t.Fatal("Begin answered", e)
	}
	return a
}

// has asks that a vault has these entries, in this order, and no others.
func has(t *testing.T, v *Vault, want []entry, about ...any) {
	t.Helper()
	keys := v.Keys()
	if len(keys) != len(want) || v.Len() != len(want) {
		t.Fatal(append(about, "entries:", len(keys), v.Len(), "not", len(want))...)
	}
	for i, x := range want {
		value, ok := v.Get(x.key)
		if keys[i] != x.key || !ok || string(value) != x.value {
			t.Fatalf("%v entry %d: %v %v %q, not %v %q", about, i, keys[i], ok, value, x.key, x.value)
		}
	}
}

// lacks asks that keys have no values.
func lacks(t *testing.T, v *Vault, keys ...api.Digest) {
	t.Helper()
	for _, k := range keys {
		if value, ok := v.Get(k); ok || len(value) != 0 {
			t.Error(k, "has a value:", value)
		}
	}
}

// tells asks for what a vault tells beside its entries.
func tells(t *testing.T, v *Vault, sound bool, free int, about ...any) {
	t.Helper()
	if v.Sound() != sound || v.Free() != free {
		t.Error(append(about, "sound, free:", v.Sound(), v.Free(), "not", sound, free)...)
	}
}

// holds asks that the records of the disk's current area are these entries and nothing else.
func holds(t *testing.T, d *disk.Disk, want []entry, about ...any) {
	t.Helper()
	a, e := area.Open(d)
	if e != api.OK {
		t.Fatal(append(about, "no area:", e)...)
	}
	records := a.Records()
	if len(records) != len(want) {
		t.Fatal(append(about, "records:", len(records), "not", len(want))...)
	}
	for i, x := range want {
		if !bytes.Equal(records[i], x.record()) {
			t.Fatal(append(about, "record", i, "is another")...)
		}
	}
}

// still asks that a call leaves the disk as it is, with what is pending.
func still(t *testing.T, d *disk.Disk, call func(), about ...any) {
	t.Helper()
	image, pending := d.Image(), d.Pending()
	call()
	if !bytes.Equal(image, d.Image()) || pending != d.Pending() {
		t.Error(append(about, "the disk was written or flushed")...)
	}
}

// sameDisk asks that two disks hold the same, with as many writes pending.
func sameDisk(t *testing.T, d, want *disk.Disk, about ...any) {
	t.Helper()
	if d.Pending() != want.Pending() || !bytes.Equal(d.Image(), want.Image()) {
		t.Fatal(append(about, "the disks differ; pending", d.Pending(), "not", want.Pending())...)
	}
}

// write writes sectors that no area wrote.
func write(t *testing.T, d *disk.Disk, n int, b api.Block) {
	t.Helper()
	if e := d.Write(n, b); e != api.OK {
		t.Fatal(n, e)
	}
	d.Flush()
}

// P6.1, P6.2, P6.3, P6.4: the chapter's example.
func TestExample(t *testing.T) {
	d := newDisk(t, 20)
	v := sound(t, d)
	put(t, v, e(1, "one"))
	if e := v.Flush(); e != api.OK {
		t.Error(e)
	}
	d.Crash(nil)
	has(t, sound(t, d), []entry{e(1, "one")})
}

// P6.1: a disk of fewer than 4 sectors has no vault, and nothing is written to it.
func TestSmallDisk(t *testing.T) {
	for size := 1; size < 4; size++ {
		d := newDisk(t, size)
		d.Write(0, api.Block{9})
		still(t, d, func() {
			if v, e := Open(d); v != nil || e != api.ErrRange {
				t.Error(size, e)
			}
			d.Limit(0)
			if v, e := Open(d); v != nil || e != api.ErrRange {
				t.Error(size, e)
			}
		})
	}
}

// P6.1, P6.2: the smallest disks have one sector for entries, and an entry needs two.
func TestSmallestDisk(t *testing.T) {
	for _, size := range []int{4, 5} {
		v := sound(t, newDisk(t, size))
		tells(t, v, true, 1)
		if e := v.Put(key(1), nil); e != api.ErrFull {
			t.Error(e)
		}
		tells(t, v, true, 1)
		has(t, v, nil)
		lacks(t, v, key(1))
		if e := v.Keep(); e != api.OK {
			t.Error(e)
		}
		tells(t, v, true, 1)
	}
	for _, size := range []int{6, 7} {
		v := sound(t, newDisk(t, size))
		if e := v.Put(key(1), message(27, 1)); e != api.ErrFull {
			t.Error(e)
		}
		put(t, v, e(1, string(message(26, 1))))
		tells(t, v, true, 0)
	}
}

// P6.1: on a disk without a valid area Open has no entries, and begins an area without records.
func TestOpenNone(t *testing.T) {
	for _, size := range []int{4, 5, 6, 7, 8, 30, 4095, 4096} {
		d, want := newDisk(t, size), newDisk(t, size)
		for _, disk := range []*disk.Disk{d, want} {
			write(t, disk, 1, api.Block{0, 0, 0, 7}) // a sector of generation 7 that belongs to no area
		}
		v := sound(t, d)
		has(t, v, nil)
		lacks(t, v, api.Digest{}, key(1))
		a := begin(t, want)
		if a.Gen() != 8 {
			t.Fatal(a.Gen())
		}
		tells(t, v, true, a.Free())
		sameDisk(t, d, want, size)
	}
}

// P6.1: an area that was begun, but is not valid any more, has no entries.
func TestOpenInvalid(t *testing.T) {
	d := newDisk(t, 20)
	begin(t, d, e(1, "one").record())
	b, _ := d.Read(1)
	b[20]++
	write(t, d, 1, b)
	has(t, sound(t, d), nil)
	holds(t, d, nil)
}

// P6.1: Open has the entries of the current area, not of the other one, and begins the other one with them.
func TestOpenCurrent(t *testing.T) {
	old, now := []entry{e(1, "old"), e(2, "two")}, []entry{e(3, "three"), e(1, "one"), e(4, "")}
	d := newDisk(t, 40)
	begin(t, d, recordsOf(old)...)
	begin(t, d, recordsOf(now)...)
	want := d.Twin()
	v := sound(t, d)
	has(t, v, now)
	lacks(t, v, key(2))
	a := begin(t, want, recordsOf(now)...)
	if a.First() != 0 || a.Gen() != 3 || v.Free() != a.Free() {
		t.Error(a.First(), a.Gen(), v.Free())
	}
	sameDisk(t, d, want)
}

// P6.1: Open has what was added to an area and is still pending.
func TestOpenPending(t *testing.T) {
	d := newDisk(t, 40)
	v := sound(t, d)
	put(t, v, e(1, "one"), e(2, "two"))
	w := sound(t, d)
	has(t, w, []entry{e(1, "one"), e(2, "two")})
	if d.Pending() != 0 {
		t.Error("pending", d.Pending())
	}
	has(t, v, []entry{e(1, "one"), e(2, "two")})
}

// P6.1: records that are no entries, for their length, are none of the vault's, and are not in the area that it begins.
func TestOpenOtherRecords(t *testing.T) {
	for _, n := range []int{0, 1, 4, 30, 31, 1033, 1034, 1064, 2000} {
		d := newDisk(t, 400)
		other := message(n, 1)
		a := begin(t, d, other, e(1, "one").record(), other)
		a.Add(other)
		a.Add(e(2, "two").record())
		a.Add(other)
		v := sound(t, d)
		has(t, v, []entry{e(1, "one"), e(2, "two")}, n)
		lacks(t, v, api.Digest{})
		if n >= 32 {
			lacks(t, v, api.Digest(other))
		}
		holds(t, d, []entry{e(1, "one"), e(2, "two")}, n)
	}
}

// P6.1: the shortest and the longest records that are entries.
func TestOpenEdgeRecords(t *testing.T) {
	for _, n := range []int{32, 33, 78, 1031, 1032} {
		d := newDisk(t, 400)
		rec := message(n, 1)
		begin(t, d, rec)
		want := []entry{{api.Digest(rec), string(rec[32:])}}
		has(t, sound(t, d), want, n)
		holds(t, d, want, n)
	}
}

// P6.1: of several records with the same key the first one counts, whatever the others have.
func TestOpenSameKey(t *testing.T) {
	d := newDisk(t, 400)
	begin(t, d, e(1, "a").record(), e(2, "").record(), e(1, "b").record(), e(3, "c").record(), e(2, "x").record(), e(1, "a").record(), e(3, "").record())
	want := []entry{e(1, "a"), e(2, ""), e(3, "c")}
	has(t, sound(t, d), want)
	holds(t, d, want)
}

// P6.1: a record that is too long hides no entry with the same first bytes, nor does one that is too short.
func TestOpenSameBytes(t *testing.T) {
	d := newDisk(t, 400)
	begin(t, d, e(1, string(message(1001, 1))).record(), e(1, "a").record(), make([]byte, 31), make([]byte, 32))
	want := []entry{e(1, "a"), {api.Digest{}, ""}}
	has(t, sound(t, d), want)
	holds(t, d, want)
}

// P6.1: opened again and again, a vault stays the same.
func TestOpenAgain(t *testing.T) {
	d := newDisk(t, 60)
	want := []entry{e(3, "three"), e(1, string(message(100, 1))), e(2, "")}
	put(t, sound(t, d), want...)
	for range 5 {
		v := sound(t, d)
		has(t, v, want)
		holds(t, d, want)
		tells(t, v, true, 29-2-4-2)
	}
}

// P6.2: what Put answers, and that only what it adds is written.
func TestPut(t *testing.T) {
	d := newDisk(t, 200)
	v := sound(t, d)
	long := string(message(1000, 1))
	var want []entry
	for i, c := range []struct {
		n     int
		value string
		want  api.Errno
		adds  bool
	}{
		{5, "five", api.OK, true}, {1, "one", api.OK, true}, {2, "", api.OK, true}, {3, long, api.OK, true}, {256, "one", api.OK, true}, {0, "zero", api.OK, true},
		{5, "five", api.OK, false}, {2, "", api.OK, false}, {3, long, api.OK, false}, {0, "zero", api.OK, false},
		{5, "fife", api.ErrThere, false}, {5, "fiv", api.ErrThere, false}, {5, "five ", api.ErrThere, false}, {5, "", api.ErrThere, false}, {2, "x", api.ErrThere, false}, {3, long[:999], api.ErrThere, false}, {2, "\x00", api.ErrThere, false},
		{9, long + "x", api.ErrForm, false}, {3, long + "x", api.ErrForm, false}, {9, string(make([]byte, 2000)), api.ErrForm, false}, {9, string(make([]byte, 1<<17)), api.ErrForm, false},
		{9, "nine", api.OK, true},
	} {
		pending, free := d.Pending(), v.Free()
		if e := v.Put(key(c.n), []byte(c.value)); e != c.want {
			t.Error(i, e)
		}
		sectors := 0
		if c.adds {
			want = append(want, e(c.n, c.value))
			sectors = (len(c.value) + 32 + 34 + 45) / 46
		}
		if d.Pending() != pending+sectors {
			t.Error(i, "written", d.Pending()-pending)
		}
		tells(t, v, true, free-sectors, i)
		has(t, v, want, i)
		holds(t, d, want, i)
	}
	lacks(t, v, key(4), key(257), key(512))
}

// P6.2: nil and the empty slice are the same value.
func TestPutNil(t *testing.T) {
	d := newDisk(t, 40)
	v := sound(t, d)
	for _, c := range []struct {
		n     int
		value []byte
	}{{1, nil}, {1, []byte{}}, {2, []byte{}}, {2, nil}} {
		if e := v.Put(key(c.n), c.value); e != api.OK {
			t.Error(e)
		}
	}
	has(t, v, []entry{e(1, ""), e(2, "")})
	holds(t, d, []entry{e(1, ""), e(2, "")})
}

// P6.2: keys that differ in one bit are different keys.
func TestKeysOfOneBit(t *testing.T) {
	d := newDisk(t, 2000)
	v := sound(t, d)
	want := []entry{{api.Digest{}, "none"}}
	for bit := range 256 {
		var k api.Digest
		k[bit/8] = 1 << (bit % 8)
		lacks(t, v, k)
		want = append(want, entry{k, string(message(bit%20, bit))})
	}
	put(t, v, want...)
	has(t, v, want)
	has(t, sound(t, d), want)
}

// P6.2: an entry that just fits is taken, one that needs a sector more is not, and the vault goes on.
func TestPutFits(t *testing.T) {
	for _, c := range []struct{ size, fits int }{{6, 26}, {8, 72}, {10, 118}, {11, 118}, {48, 992}, {50, 1000}, {49, 992}} {
		d := newDisk(t, c.size)
		v := sound(t, d)
		free := v.Free()
		if c.fits < 1000 {
			still(t, d, func() {
				if e := v.Put(key(1), make([]byte, c.fits+1)); e != api.ErrFull {
					t.Error(c.size, e)
				}
				if e := v.Put(key(1), make([]byte, 1000)); e != api.ErrFull {
					t.Error(c.size, e)
				}
			})
			tells(t, v, true, free)
			has(t, v, nil)
		}
		want := []entry{e(1, string(message(c.fits, 1)))}
		put(t, v, want...)
		tells(t, v, true, free-(c.fits+32+34+45)/46)
		has(t, v, want)
		if e := v.Put(key(1), []byte("other")); e != api.ErrThere {
			t.Error(e)
		}
		put(t, v, want...)
		has(t, sound(t, d), want)
	}
}

// P6.2: a vault that is full takes an entry that still fits, on the greatest disk too.
func TestFillGreatDisk(t *testing.T) {
	d := newDisk(t, 4096)
	v := sound(t, d)
	var want []entry
	for i := 0; v.Free() >= 2; i++ {
		want = append(want, e(i, string(message(i%27, i))))
		put(t, v, want[i])
	}
	tells(t, v, true, 1)
	if len(want) != 1023 {
		t.Error(len(want))
	}
	if e := v.Put(key(5000), nil); e != api.ErrFull || !v.Sound() {
		t.Error(e)
	}
	has(t, v, want)
	w := sound(t, d)
	has(t, w, want)
	tells(t, w, true, 1)
	if e := w.Keep(keysOf(want)...); e != api.OK {
		t.Error(e)
	}
	has(t, w, want)
}

// refuses asks that a vault that is unsound answers so, and neither writes nor flushes.
func refuses(t *testing.T, d *disk.Disk, v *Vault, want []entry, about ...any) {
	t.Helper()
	still(t, d, func() {
		t.Helper()
		tells(t, v, false, 0, about...)
		if e := v.Put(key(999), nil); e != api.ErrFull {
			t.Error(append(about, "a new key:", e)...)
		}
		if e := v.Put(key(999), make([]byte, 1001)); e != api.ErrForm {
			t.Error(append(about, "too long:", e)...)
		}
		for _, x := range want {
			if e := v.Put(x.key, []byte(x.value)); e != api.OK {
				t.Error(append(about, "the same value:", e)...)
			}
			if e := v.Put(x.key, []byte(x.value+"x")); e != api.ErrThere {
				t.Error(append(about, "another value:", e)...)
			}
			if e := v.Put(x.key, make([]byte, 1001)); e != api.ErrForm {
				t.Error(append(about, "too long:", e)...)
			}
		}
		if e := v.Flush(); e != api.OK {
			t.Error(append(about, "Flush answered", e)...)
		}
		has(t, v, want, about...)
		lacks(t, v, key(999))
		tells(t, v, false, 0, about...)
	}, about...)
}

// P6.2, P6.3: a disk that refuses any of the writes of a Put makes the vault unsound, until a Keep.
func TestPutRefused(t *testing.T) {
	want := []entry{e(1, "one"), e(2, "two")}
	more := e(3, string(message(100, 1))) // four sectors
	for writes := range 5 {
		d := newDisk(t, 60)
		v := sound(t, d)
		put(t, v, want...)
		d.Limit(writes)
		if writes == 4 {
			put(t, v, more)
			tells(t, v, true, 21)
			continue
		}
		if e := v.Put(more.key, []byte(more.value)); e != api.ErrFull {
			t.Fatal(writes, e)
		}
		lacks(t, v, more.key)
		if d.Pending() != 4+writes {
			t.Error(writes, "pending", d.Pending())
		}
		refuses(t, d, v, want, writes)
		d.Limit(-1)
		refuses(t, d, v, want, writes)
		if e := v.Keep(keysOf(want)...); e != api.OK {
			t.Fatal(writes, e)
		}
		tells(t, v, true, 25, writes)
		has(t, v, want, writes)
		put(t, v, more)
		has(t, sound(t, d), append(want[:2:2], more), writes)
	}
}

// P6.2: a Put that is refused for its length, its key or its size is no reason to be unsound, even where the disk would refuse a write.
func TestPutNotAsked(t *testing.T) {
	d := newDisk(t, 12)
	v := sound(t, d)
	put(t, v, e(1, "one"))
	d.Limit(0)
	for i, c := range []struct {
		n    int
		size int
		want api.Errno
	}{{2, 1001, api.ErrForm}, {1, 1001, api.ErrForm}, {1, 2, api.ErrThere}, {2, 1000, api.ErrFull}, {2, 73, api.ErrFull}} {
		if e := v.Put(key(c.n), make([]byte, c.size)); e != c.want {
			t.Error(i, e)
		}
		tells(t, v, true, 3, i)
	}
	put(t, v, e(1, "one"))
	tells(t, v, true, 3)
	if e := v.Put(key(2), nil); e != api.ErrFull {
		t.Error(e)
	}
	tells(t, v, false, 0)
}

// P6.1: a disk that refuses any of the writes of an Open makes the vault unsound: it has the entries, and the disk the area of before.
func TestOpenRefused(t *testing.T) {
	want := []entry{e(1, "one"), e(2, string(message(100, 1)))} // 2 and 4 sectors
	base := newDisk(t, 60)
	put(t, sound(t, base), want...)
	base.Flush()
	for writes := range 8 {
		d, twin := base.Twin(), base.Twin()
		d.Limit(writes)
		twin.Limit(writes)
		v := open(t, d)
		area.Begin(twin, recordsOf(want)...)
		sameDisk(t, d, twin, writes)
		has(t, v, want, writes)
		if writes == 7 {
			tells(t, v, true, 23)
			continue
		}
		refuses(t, d, v, want, writes)
		d.Limit(-1)
		refuses(t, d, v, want, writes)
		holds(t, d, want, writes)
		has(t, sound(t, d.Twin()), want, writes)
		if e := v.Keep(key(2)); e != api.OK {
			t.Error(writes, e)
		}
		tells(t, v, true, 25, writes)
		has(t, v, want[1:], writes)
		put(t, v, e(1, "another"))
		has(t, sound(t, d), []entry{want[1], e(1, "another")}, writes)
	}
}

// P6.1: the first Open of a disk may be refused too: there are no entries then, and no area.
func TestFirstOpenRefused(t *testing.T) {
	d := newDisk(t, 20)
	d.Limit(0)
	v := open(t, d)
	refuses(t, d, v, nil)
	if _, e := area.Open(d); e != api.ErrNone {
		t.Error(e)
	}
	if e := v.Keep(); e != api.ErrFull {
		t.Error(e)
	}
	refuses(t, d, v, nil)
	d.Limit(1)
	if e := v.Keep(); e != api.OK {
		t.Error(e)
	}
	tells(t, v, true, 9)
	holds(t, d, nil)
}

// P6.1, P6.3: where there is no new generation, the vault is unsound from its Open on, and no Keep makes it sound.
func TestNoGeneration(t *testing.T) {
	for _, place := range []int{0, 56} {
		d := newDisk(t, 21)
		begin(t, d, e(1, "one").record())
		var b api.Block
		copy(b[place:], []byte{255, 255, 255, 255})
		write(t, d, 20, b)
		v := open(t, d)
		want := []entry{e(1, "one")}
		refuses(t, d, v, want)
		still(t, d, func() {
			for _, keys := range [][]api.Digest{nil, {key(1)}, {key(2)}} {
				if e := v.Keep(keys...); e != api.ErrFull {
					t.Error(e)
				}
			}
		})
		refuses(t, d, v, want)
	}
}

// P6.3: Keep with each subset of the keys, in any order, with keys that are not there and keys that come twice.
func TestKeep(t *testing.T) {
	all := []entry{e(5, "five"), e(1, ""), e(256, "256"), e(3, string(message(100, 1)))}
	for subset := range 16 {
		d := newDisk(t, 60)
		v := sound(t, d)
		put(t, v, all...)
		var want []entry
		keys := []api.Digest{key(77)}
		for i, x := range all {
			if subset>>i&1 == 1 {
				want = append(want, x)
				keys = append([]api.Digest{x.key, key(78)}, append(keys, x.key)...)
			} else {
				keys = append(keys, key(100+i))
			}
		}
		twin := d.Twin()
		if e := v.Keep(keys...); e != api.OK {
			t.Fatal(subset, e)
		}
		a := begin(t, twin, recordsOf(want)...)
		sameDisk(t, d, twin, subset)
		tells(t, v, true, a.Free(), subset)
		has(t, v, want, subset)
		holds(t, d, want, subset)
		for i, x := range all {
			if subset>>i&1 == 0 {
				lacks(t, v, x.key)
			}
		}
		lacks(t, v, key(77), key(78))
	}
}

// P6.3: Keep with no keys, with all, and with keys of which none is there.
func TestKeepEdges(t *testing.T) {
	all := []entry{e(2, "two"), e(1, "one"), e(3, "")}
	for i, c := range []struct {
		keys []api.Digest
		want []entry
	}{{nil, nil}, {[]api.Digest{}, nil}, {keysOf(all), all}, {[]api.Digest{key(9), {}}, nil}, {[]api.Digest{key(3), key(3), key(3)}, all[2:]}} {
		d := newDisk(t, 40)
		v := sound(t, d)
		put(t, v, all...)
		if e := v.Keep(c.keys...); e != api.OK || d.Pending() != 0 {
			t.Error(i, e, d.Pending())
		}
		has(t, v, c.want, i)
		holds(t, d, c.want, i)
		tells(t, v, true, 19-2*len(c.want), i)
		has(t, sound(t, d), c.want, i)
	}
	v := sound(t, newDisk(t, 4))
	if e := v.Keep(key(1)); e != api.OK {
		t.Error(e)
	}
	has(t, v, nil)
}

// P6.2, P6.3: a key that Keep removed may come again, with another value, behind the others.
func TestPutAfterKeep(t *testing.T) {
	d := newDisk(t, 60)
	v := sound(t, d)
	put(t, v, e(1, "one"), e(2, "two"), e(3, "three"))
	if e := v.Keep(key(3), key(2)); e != api.OK {
		t.Fatal(e)
	}
	put(t, v, e(1, "other"), e(4, "four"))
	want := []entry{e(2, "two"), e(3, "three"), e(1, "other"), e(4, "four")}
	has(t, v, want)
	holds(t, d, want)
	if e := v.Keep(key(1), key(4)); e != api.OK {
		t.Fatal(e)
	}
	has(t, v, want[2:])
	has(t, sound(t, d), want[2:])
}

// P6.3: a disk that refuses any of the writes of a Keep leaves the vault as it is, and what is put goes on in the same area.
func TestKeepRefused(t *testing.T) {
	all := []entry{e(1, "one"), e(2, "two"), e(3, string(message(100, 1)))} // 2, 2 and 4 sectors
	for writes := range 8 {
		d := newDisk(t, 60)
		v := sound(t, d)
		put(t, v, all...)
		twin := d.Twin()
		d.Limit(writes)
		twin.Limit(writes)
		got := v.Keep(key(3), key(1))
		if writes == 7 {
			if got != api.OK {
				t.Error(got)
			}
			continue
		}
		if got != api.ErrFull {
			t.Fatal(writes, got)
		}
		area.Begin(twin, all[0].record(), all[2].record())
		if !bytes.Equal(d.Image(), twin.Image()) {
			t.Error(writes, "the disks differ")
		}
		tells(t, v, true, 21, writes)
		has(t, v, all, writes)
		if e := v.Put(key(2), nil); e != api.ErrThere {
			t.Error(writes, e)
		}
		d.Limit(-1)
		put(t, v, e(4, "four"))
		want := append(all[:3:3], e(4, "four"))
		has(t, v, want, writes)
		holds(t, d, want, writes)
		v.Flush()
		d.Crash(nil)
		has(t, sound(t, d), want, writes)
	}
}

// P6.3: a Keep that is refused leaves an unsound vault unsound, with its entries; the next one may succeed.
func TestKeepRefusedUnsound(t *testing.T) {
	want := []entry{e(1, "one"), e(2, "two")}
	makers := []func(d *disk.Disk) *Vault{
		func(d *disk.Disk) *Vault { // from its Open on
			put(t, sound(t, d), want...)
			d.Limit(0)
			return open(t, d)
		},
		func(d *disk.Disk) *Vault { // by a Put
			v := sound(t, d)
			put(t, v, want...)
			d.Limit(1)
			v.Put(key(3), nil)
			return v
		},
	}
	for i, unsound := range makers {
		for writes := range 5 {
			d := newDisk(t, 30)
			v := unsound(d)
			d.Limit(writes)
			if e := v.Keep(key(2), key(1)); e != api.ErrFull {
				t.Error(i, writes, e)
			}
			refuses(t, d, v, want, i, writes)
			d.Limit(3)
			if e := v.Keep(key(2)); e != api.OK {
				t.Error(i, writes, e)
			}
			tells(t, v, true, 12, i, writes)
			has(t, v, want[1:], i, writes)
			holds(t, d, want[1:], i, writes)
			d.Limit(-1)
			put(t, v, e(3, "three"))
			v.Flush()
			if d.Pending() != 0 {
				t.Error(i, writes, "pending", d.Pending())
			}
		}
	}
}

// P6.3: Flush makes all that is pending last, and changes nothing else.
func TestFlush(t *testing.T) {
	d := newDisk(t, 40)
	v := sound(t, d)
	put(t, v, e(1, "one"), e(2, "two"))
	if d.Pending() != 4 {
		t.Error("pending", d.Pending())
	}
	image := d.Image()
	for range 2 {
		if e := v.Flush(); e != api.OK || d.Pending() != 0 || !bytes.Equal(image, d.Image()) {
			t.Error(e, d.Pending())
		}
		tells(t, v, true, 15)
		has(t, v, []entry{e(1, "one"), e(2, "two")})
	}
}

// P6.2, P6.3: nothing that is asked changes a vault or its disk.
func TestAskingChangesNothing(t *testing.T) {
	d := newDisk(t, 40)
	v := sound(t, d)
	want := []entry{e(1, "one"), e(2, "two")}
	put(t, v, want...)
	still(t, d, func() {
		for range 3 {
			tells(t, v, true, 15)
			has(t, v, want)
			lacks(t, v, key(3), api.Digest{})
		}
	})
}

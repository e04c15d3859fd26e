package vault

import (
	"math/rand"
	"testing"

	"imprimatur/api"
	"imprimatur/area"
	"imprimatur/disk"
)

// The chapter's words, written once more without a map and without a closure: what the package answers and writes is held against them.

// plain is a vault as the chapter words it: none of its fields is the package's.
type plain struct {
	d       *disk.Disk
	a       *area.Area // what was begun last
	entries []entry
	sound   bool
}

// at: the place of a key; -1 if it has none.
func at(list []entry, k api.Digest) int {
	for i, x := range list {
		if x.key == k {
			return i
		}
	}
	return -1
}

// plainEntries: the entries of an area with these records.
func plainEntries(records [][]byte) []entry {
	var list []entry
	for _, rec := range records {
		if len(rec) < 32 || len(rec) > 1032 {
			continue
		}
		var k api.Digest
		copy(k[:], rec)
		if at(list, k) < 0 {
			list = append(list, entry{k, string(rec[32:])})
		}
	}
	return list
}

func plainOpen(d *disk.Disk) (*plain, api.Errno) {
	p := &plain{d: d}
	switch a, e := area.Open(d); e {
	case api.ErrRange:
		return nil, api.ErrRange
	case api.OK:
		p.entries = plainEntries(a.Records())
	}
	p.begin(p.entries)
	return p, api.OK
}

func (p *plain) begin(list []entry) bool {
	a, e := area.Begin(p.d, recordsOf(list)...)
	if e == api.OK {
		p.a, p.sound = a, true
	}
	return e == api.OK
}

func (p *plain) put(k api.Digest, value []byte) api.Errno {
	i := at(p.entries, k)
	switch {
	case len(value) > 1000:
		return api.ErrForm
	case i >= 0 && p.entries[i].value != string(value):
		return api.ErrThere
	case i >= 0:
		return api.OK
	case !p.sound:
		return api.ErrFull
	}
	x := entry{k, string(value)}
	if p.a.Add(x.record()) == api.ErrFull {
		p.sound = !p.a.Stuck()
		return api.ErrFull
	}
	p.entries = append(p.entries, x)
	return api.OK
}

func (p *plain) keep(keys []api.Digest) api.Errno {
	var list []entry
	for _, x := range p.entries {
		for _, k := range keys {
			if k == x.key {
				list = append(list, x)
				break
			}
		}
	}
	if !p.begin(list) {
		return api.ErrFull
	}
	p.entries = list
	return api.OK
}

func (p *plain) flush() {
	if p.sound {
		p.d.Flush()
	}
}

func (p *plain) free() int {
	if !p.sound {
		return 0
	}
	return p.a.Free()
}

// trial is one disk twice: the package writes on the one, the chapter's words on the other.
type trial struct {
	t       *testing.T
	r       *rand.Rand
	d, twin *disk.Disk
	v       *Vault
	p       *plain
	done    map[string]int // how often what happened
}

// same asks that the vault and the chapter's words answer the same, and that the disks are the same.
func (x *trial) same(what string, got, want api.Errno) {
	x.t.Helper()
	if got != want || (x.v == nil) != (x.p == nil) {
		x.t.Fatal(what, "answered", got, "not", want)
	}
	x.done[what+" "+got.Error()]++
	if x.v == nil {
		return
	}
	if x.v.Sound() != x.p.sound || x.v.Free() != x.p.free() {
		x.t.Fatal(what, "sound, free:", x.v.Sound(), x.v.Free(), "not", x.p.sound, x.p.free())
	}
	has(x.t, x.v, x.p.entries, what)
	if !x.p.sound {
		x.done["unsound"]++
	}
	sameDisk(x.t, x.d, x.twin, what)
}

// randomKey: often one that is there.
func (x *trial) randomKey() api.Digest { return key(x.r.Intn(12)) }

// randomValue: for each key one value comes often; at times there is another, the longest, or one that is too long.
func (x *trial) randomValue(k api.Digest) []byte {
	switch x.r.Intn(30) {
	case 0:
		return message(1000, int(k[31]))
	case 1:
		return message(1001+x.r.Intn(50), 1)
	case 2, 3, 4:
		return message(x.r.Intn(200), 1)
	case 5:
		return nil
	}
	return message(int(k[31])*3, 2)
}

func (x *trial) open() {
	var e, want api.Errno
	x.v, e = Open(x.d)
	x.p, want = plainOpen(x.twin)
	x.same("open", e, want)
}

func (x *trial) put() {
	k := x.randomKey()
	value := x.randomValue(k)
	x.same("put", x.v.Put(k, value), x.p.put(k, value))
}

func (x *trial) keep() {
	var keys []api.Digest
	for range x.r.Intn(14) {
		keys = append(keys, x.randomKey())
	}
	x.same("keep", x.v.Keep(keys...), x.p.keep(keys))
}

func (x *trial) flush() {
	x.p.flush()
	x.same("flush", x.v.Flush(), api.OK)
}

func (x *trial) get() {
	k := x.randomKey()
	value, ok := x.v.Get(k)
	i := at(x.p.entries, k)
	if ok != (i >= 0) || !ok && len(value) > 0 || ok && string(value) != x.p.entries[i].value {
		x.t.Fatal("Get answered", ok, value)
	}
}

func (x *trial) limit() {
	n := x.r.Intn(12) - 4
	x.d.Limit(n)
	x.twin.Limit(n)
}

// crash: nobody holds a vault from before it.
func (x *trial) crash() {
	picks := make([]byte, x.r.Intn(5))
	x.r.Read(picks)
	x.d.Crash(picks)
	x.twin.Crash(picks)
	x.open()
}

// other: an area that no vault began, with records that are no entries among them.
func (x *trial) other() {
	var records [][]byte
	for range x.r.Intn(5) {
		k := x.randomKey()
		rec := append(k[:], x.randomValue(k)...)
		if x.r.Intn(3) == 0 {
			rec = message(x.r.Intn(34), 3)
		}
		records = append(records, rec)
	}
	area.Begin(x.d, records...)
	area.Begin(x.twin, records...)
	x.open()
}

// scratch: bytes that no area wrote.
func (x *trial) scratch() {
	n := x.r.Intn(x.d.Size())
	b, _ := x.d.Read(n)
	b[8+x.r.Intn(48)] ^= 1 << x.r.Intn(8)
	x.d.Write(n, b)
	x.twin.Write(n, b)
	x.open()
}

func (x *trial) step() {
	k := x.r.Intn(60)
	if x.v == nil {
		k = 58
	}
	switch {
	case k < 30:
		x.put()
	case k < 37:
		x.keep()
	case k < 41:
		x.flush()
	case k < 45:
		x.get()
	case k < 49:
		x.limit()
	case k < 53:
		x.crash()
	case k < 55:
		x.other()
	case k < 56:
		x.scratch()
	default:
		x.open()
	}
}

// P6.1, P6.2, P6.3, P6.4, P1: over random orders of calls, with limits, crashes, scratches and other areas, the answers and the disk are those of the chapter's words.
func TestAgainstModel(t *testing.T) {
	r := rand.New(rand.NewSource(6))
	done := map[string]int{}
	for range 500 {
		size := 1 + r.Intn(60)
		if r.Intn(4) == 0 {
			size = 60 + r.Intn(200)
		}
		d, _ := disk.New(size)
		twin, _ := disk.New(size)
		x := &trial{t: t, r: r, d: d, twin: twin, done: done}
		x.open()
		for range 80 {
			x.step()
		}
	}
	for _, what := range []string{"open errno ", "open errno 11", "put errno ", "put errno 10", "put errno 13", "put errno 15", "keep errno ", "keep errno 15", "flush errno ", "unsound"} {
		if done[what] < 100 {
			t.Error("the trial is one-sided:", what, done[what])
		}
	}
}

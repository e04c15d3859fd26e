package area

import (
	"bytes"
	"crypto/sha256"
	"encoding/binary"
	"math/rand"
	"testing"

	"imprimatur/api"
	"imprimatur/disk"
)

// The chapter's words, written once more by other means than the package's: what it answers and writes is held against them.

const most = 1<<32 - 1

// plainPack: the sectors of a record, as layer 4's chapter words them.
func plainPack(gen, num int, rec []byte) []api.Block {
	all := binary.BigEndian.AppendUint16(nil, uint16(len(rec)))
	all = append(all, rec...)
	sum := sha256.Sum256(all)
	all = append(all, sum[:]...)
	var list []api.Block
	for ; len(all) > 0; num++ {
		n := min(46, len(all))
		var b api.Block
		binary.BigEndian.PutUint32(b[0:], uint32(gen))
		binary.BigEndian.PutUint32(b[4:], uint32(num))
		binary.BigEndian.PutUint16(b[8:], uint16(n))
		copy(b[10:], all[:n])
		copy(b[56:], b[:8])
		list = append(list, b)
		all = all[n:]
	}
	return list
}

func plainHead(gen, used int) api.Block {
	return plainPack(gen, 0, binary.BigEndian.AppendUint32(nil, uint32(used)))[0]
}

// plainUnpack: the record at the beginning of some bytes of a disk, found by packing what its length claims, and how many sectors it has; 0 if there is none.
func plainUnpack(image []byte, gen, num int) (rec []byte, sectors int) {
	if gen < 1 || len(image) < 64 {
		return nil, 0
	}
	size := int(binary.BigEndian.Uint16(image[10:]))
	if size > 2000 {
		return nil, 0
	}
	var data []byte
	for at := 0; at+64 <= len(image) && len(data) < 2+size; at += 64 {
		data = append(data, image[at+10:at+56]...)
	}
	if len(data) < 2+size {
		return nil, 0
	}
	rec = data[2 : 2+size]
	list := plainPack(gen, num, rec)
	for i, b := range list {
		if len(image) < 64*(i+1) || !bytes.Equal(b[:], image[64*i:64*i+64]) {
			return nil, 0
		}
	}
	return rec, len(list)
}

// plain is an area as the chapter words it: none of its fields is the package's.
type plain struct {
	d          *disk.Disk
	first, gen int
	used       int // sectors behind the head
	records    []string
	stuck      bool
}

// plainValid: the area that starts at a sector; nil if it is not valid.
func plainValid(d *disk.Disk, first int) *plain {
	half := d.Size() / 2
	image := d.Image()[64*first : 64*(first+half)]
	gen := int(binary.BigEndian.Uint32(image))
	head, _ := plainUnpack(image[:64], gen, 0)
	if len(head) != 4 {
		return nil
	}
	p := &plain{d: d, first: first, gen: gen, stuck: true}
	ends := []int{0}
	for {
		rec, n := plainUnpack(image[64*(1+p.used):], gen, 1+p.used)
		if n == 0 {
			break
		}
		p.records = append(p.records, string(rec))
		p.used += n
		ends = append(ends, p.used)
	}
	for _, end := range ends {
		if end == int(binary.BigEndian.Uint32(head)) {
			return p
		}
	}
	return nil
}

func plainCurrent(d *disk.Disk) *plain {
	a, b := plainValid(d, 0), plainValid(d, d.Size()/2)
	switch {
	case a == nil:
		return b
	case b == nil:
		return a
	case a.gen > b.gen:
		return a
	}
	return b
}

func plainOpen(d *disk.Disk) (*plain, api.Errno) {
	if d.Size() < 4 {
		return nil, api.ErrRange
	}
	if p := plainCurrent(d); p != nil {
		return p, api.OK
	}
	return nil, api.ErrNone
}

// plainHighest: the greatest generation in a mark of a disk.
func plainHighest(d *disk.Disk) int {
	image, highest := d.Image(), uint32(0)
	for at := 0; at < len(image); at += 64 {
		highest = max(highest, binary.BigEndian.Uint32(image[at:]), binary.BigEndian.Uint32(image[at+56:]))
	}
	return int(highest)
}

func plainBegin(d *disk.Disk, records ...[]byte) (*plain, api.Errno) {
	if d.Size() < 4 {
		return nil, api.ErrRange
	}
	for _, rec := range records {
		if len(rec) > 2000 {
			return nil, api.ErrForm
		}
	}
	p := &plain{d: d, gen: plainHighest(d) + 1}
	if now := plainCurrent(d); now != nil && now.first == 0 {
		p.first = d.Size() / 2
	}
	var list []api.Block
	for _, rec := range records {
		list = append(list, plainPack(p.gen, 1+len(list), rec)...)
		p.records = append(p.records, string(rec))
	}
	if p.gen > most || 1+len(list) > d.Size()/2 {
		return nil, api.ErrFull
	}
	p.used = len(list)
	for i, b := range list {
		if e := d.Write(p.first+1+i, b); e != api.OK {
			return nil, e
		}
	}
	d.Flush()
	if e := d.Write(p.first, plainHead(p.gen, p.used)); e != api.OK {
		return nil, e
	}
	d.Flush()
	return p, api.OK
}

func (p *plain) free() int { return p.d.Size()/2 - 1 - p.used }

func (p *plain) add(rec []byte) api.Errno {
	if len(rec) > 2000 {
		return api.ErrForm
	}
	list := plainPack(p.gen, 1+p.used, rec)
	if p.stuck || len(list) > p.free() {
		return api.ErrFull
	}
	for i, b := range list {
		if e := p.d.Write(p.first+1+p.used+i, b); e != api.OK {
			p.stuck = true
			return e
		}
	}
	p.used += len(list)
	p.records = append(p.records, string(rec))
	return api.OK
}

// same asks that an area is the one that the chapter's words make, nil among them.
func same(t *testing.T, a *Area, e api.Errno, p *plain, want api.Errno, about ...any) {
	t.Helper()
	if e != want || (a == nil) != (p == nil) {
		t.Fatal(append(about, "answered", e, a != nil, "not", want)...)
	}
	if a == nil {
		return
	}
	if a.Gen() != p.gen || a.First() != p.first || a.Free() != p.free() || a.Stuck() != p.stuck {
		t.Fatal(append(about, "generation, first, free or stuck", a.Gen(), a.First(), a.Free(), a.Stuck(), "not", p.gen, p.first, p.free(), p.stuck)...)
	}
	is(t, a, p.records, about...)
}

// sameDisk asks that two disks hold the same, with as many writes pending.
func sameDisk(t *testing.T, d, want *disk.Disk, about ...any) {
	t.Helper()
	if d.Pending() != want.Pending() || !bytes.Equal(d.Image(), want.Image()) {
		t.Fatal(append(about, "the disks differ; pending", d.Pending(), "not", want.Pending())...)
	}
}

// sameOpen asks that Open answers what the chapter's words do, and writes nothing.
func sameOpen(t *testing.T, d *disk.Disk, about ...any) (*Area, api.Errno) {
	t.Helper()
	image, pending := d.Image(), d.Pending()
	a, e := Open(d)
	if !bytes.Equal(image, d.Image()) || pending != d.Pending() {
		t.Fatal(append(about, "Open wrote or flushed")...)
	}
	p, want := plainOpen(d)
	same(t, a, e, p, want, about...)
	return a, e
}

// randomRecord: mostly short, so that many fit; at times the longest, or one that is too long.
func randomRecord(r *rand.Rand) []byte {
	n := r.Intn(70)
	switch r.Intn(25) {
	case 0:
		n = 1950 + r.Intn(51)
	case 1:
		n = 2001 + r.Intn(100)
	case 2:
		n = r.Intn(600)
	}
	rec := make([]byte, n)
	r.Read(rec)
	return rec
}

func randomRecords(r *rand.Rand) [][]byte {
	var list [][]byte
	for range r.Intn(5) {
		list = append(list, randomRecord(r))
	}
	return list
}

// trial is one disk twice: the package writes on the one, the chapter's words on the other.
type trial struct {
	t       *testing.T
	r       *rand.Rand
	d, twin *disk.Disk
	a       *Area
	p       *plain
	done    map[string]int // how often what happened
}

func (x *trial) begin() {
	records := randomRecords(x.r)
	a, e := Begin(x.d, records...)
	p, want := plainBegin(x.twin, records...)
	same(x.t, a, e, p, want, "Begin")
	x.done["begin "+e.Error()]++
	if a != nil {
		x.a, x.p = a, p
	}
}

func (x *trial) add() {
	if x.a == nil {
		return
	}
	rec := randomRecord(x.r)
	e, want := x.a.Add(rec), x.p.add(rec)
	same(x.t, x.a, e, x.p, want, "Add")
	x.done["add "+e.Error()]++
}

func (x *trial) open() {
	a, e := Open(x.d)
	p, want := plainOpen(x.twin)
	same(x.t, a, e, p, want, "Open")
	x.done["open "+e.Error()]++
	if x.r.Intn(3) == 0 && a != nil {
		x.a, x.p = a, p
	}
}

func (x *trial) flush() {
	if x.a == nil {
		return
	}
	if e := x.a.Flush(); e != api.OK {
		x.t.Fatal("Flush", e)
	}
	x.twin.Flush()
}

func (x *trial) limit() {
	n := x.r.Intn(8) - 2
	x.d.Limit(n)
	x.twin.Limit(n)
}

// crash: nobody holds an area from before it.
func (x *trial) crash() {
	picks := make([]byte, x.r.Intn(5))
	x.r.Read(picks)
	x.d.Crash(picks)
	x.twin.Crash(picks)
	x.a, x.p = nil, nil
}

// scratch: bytes that no area wrote, so that heads and records break in every way.
func (x *trial) scratch() {
	n := x.r.Intn(x.d.Size())
	b, _ := x.d.Read(n)
	b[x.r.Intn(64)] ^= 1 << x.r.Intn(8)
	x.d.Write(n, b)
	x.twin.Write(n, b)
}

func (x *trial) step() {
	switch k := x.r.Intn(40); {
	case k < 8:
		x.begin()
	case k < 24:
		x.add()
	case k < 30:
		x.open()
	case k < 34:
		x.flush()
	case k < 36:
		x.limit()
	case k < 39:
		x.crash()
	default:
		x.scratch()
	}
	sameDisk(x.t, x.d, x.twin)
}

// P5.1, P5.2, P5.3, P1: over random orders of calls, with limits, crashes and scratches, the answers and the disk are those of the chapter's words.
func TestAgainstModel(t *testing.T) {
	r := rand.New(rand.NewSource(5))
	done := map[string]int{}
	for range 400 {
		size := 1 + r.Intn(40)
		if r.Intn(8) == 0 {
			size = 100 + r.Intn(200)
		}
		d, _ := disk.New(size)
		twin, _ := disk.New(size)
		x := &trial{t: t, r: r, d: d, twin: twin, done: done}
		for range 60 {
			x.step()
		}
	}
	for _, what := range []string{"begin errno ", "begin errno 10", "begin errno 11", "begin errno 15", "add errno ", "add errno 10", "add errno 15", "open errno ", "open errno 11", "open errno 12"} {
		if done[what] < 50 {
			t.Error("the trial is one-sided:", what, done[what])
		}
	}
}

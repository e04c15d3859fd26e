package area

import (
	"math/rand"
	"testing"

	"imprimatur/api"
	"imprimatur/disk"
)

// copyOf: a disk with the same durable content; nothing may be pending.
func copyOf(t *testing.T, d *disk.Disk) *disk.Disk {
	t.Helper()
	if d.Pending() != 0 {
		t.Fatal("pending", d.Pending())
	}
	return d.Twin()
}

// state is a disk ahead of a Begin, and what its current area contains.
type state struct {
	name string
	d    *disk.Disk
	gen  int // 0: no area is valid
	has  []string
}

// states: disks on which only areas have written, of generations that share bytes with the next one among them.
func states(t *testing.T) []state {
	t.Helper()
	list := []state{{"new", newDisk(t, 40), 0, nil}}
	d := newDisk(t, 40)
	begin(t, d, []byte("one"), message(100, 1))
	list = append(list, state{"one area", d, 1, texts([][]byte{[]byte("one"), message(100, 1)})})
	d = copyOf(t, d)
	a := begin(t, d, message(70, 2))
	add(t, a, []byte("two"))
	a.Flush()
	list = append(list, state{"two areas", d, 2, texts([][]byte{message(70, 2), []byte("two")})})
	d = newDisk(t, 41)
	begin(t, d, message(200, 5))
	begin(t, d)
	begin(t, d)
	add(t, begin(t, d), []byte("a"))
	d.Flush()
	list = append(list, state{"old records", d, 4, []string{"a"}})
	for _, gen := range []int{255, 65535, 1<<24 - 1, 0x01020304, most - 1} {
		d = newDisk(t, 40)
		lay(t, d, 0, gen-1, 0, message(300, 3))
		lay(t, d, 20, gen, 1, []byte("a"), []byte("b"))
		list = append(list, state{"generations", d, gen, []string{"a", "b"}})
	}
	return list
}

// stays asks that Open returns what the current area contained ahead of a Begin, and that a Begin on this disk works whatever the crash left.
func stays(t *testing.T, s state, d *disk.Disk, about ...any) {
	t.Helper()
	about = append(about, s.name)
	a, e := sameOpen(t, d, about...)
	if s.gen == 0 {
		if e != api.ErrNone {
			t.Fatal(append(about, "Open answered", e)...)
		}
	} else {
		if e != api.OK || a.Gen() != s.gen {
			t.Fatal(append(about, "Open answered", e)...)
		}
		is(t, a, s.has, about...)
	}
	goesOn(t, d, s.has, about...)
}

// goesOn asks that an area can be begun with the records of the disk, that records can be added, and that all are found again. A disk whose generations are used up refuses.
func goesOn(t *testing.T, d *disk.Disk, has []string, about ...any) {
	t.Helper()
	if plainHighest(d) == most {
		return
	}
	var records [][]byte
	for _, text := range has {
		records = append(records, []byte(text))
	}
	b, e := Begin(d, records...)
	if e != api.OK {
		t.Fatal(append(about, "Begin answered", e)...)
	}
	is(t, open(t, d), has, about...)
	add(t, b, []byte("more"))
	is(t, open(t, d), append(append([]string(nil), has...), "more"), about...)
}

// pickLists: for so many writes, all lost, all performed, and each single one treated in each way while the others are lost or performed.
func pickLists(writes int) [][]byte {
	list := [][]byte{nil}
	for i := range writes {
		for pick := range 256 {
			for _, others := range []byte{0, 64} {
				picks := make([]byte, writes)
				for k := range picks {
					picks[k] = others
				}
				picks[i] = byte(pick)
				list = append(list, picks)
			}
		}
	}
	return list
}

// randomPicks: each kind of treatment for each of so many writes.
func randomPicks(r *rand.Rand, writes int) []byte {
	picks := make([]byte, max(writes, 1))
	r.Read(picks)
	return picks
}

// P5.3: a crash ahead of the first flush of a Begin, behind each of its writes, and between the two flushes, when the head was not written.
func TestCrashAheadOfHead(t *testing.T) {
	records := [][]byte{[]byte("x"), message(100, 7), []byte("y")} // five sectors
	for _, s := range states(t) {
		for writes := range 6 {
			limited := func(picks []byte) {
				d := copyOf(t, s.d)
				d.Limit(writes)
				if a, e := Begin(d, records...); a != nil || e != api.ErrFull {
					t.Fatal(s.name, writes, e)
				}
				want := writes
				if writes == 5 {
					want = 0 // behind the first flush
				}
				if d.Pending() != want {
					t.Fatal(s.name, writes, "pending", d.Pending())
				}
				d.Crash(picks)
				stays(t, s, d, writes, picks)
			}
			if writes == 2 || writes == 5 {
				for i, picks := range pickLists(writes) {
					if i%3 == 0 {
						limited(picks)
					}
				}
			}
			r := rand.New(rand.NewSource(int64(writes)))
			for range 60 {
				limited(randomPicks(r, writes))
			}
		}
	}
}

// P5.3: a crash between the two flushes of a Begin, when the head is written and pending: the area before or the new one, and nothing else. The writes are those of a Begin on a twin, done once more by hand.
func TestCrashOfHead(t *testing.T) {
	for _, records := range [][][]byte{nil, {[]byte("x"), message(100, 7)}, {message(200, 9), nil}} {
		for _, s := range states(t) {
			done := copyOf(t, s.d)
			a := begin(t, done, records...)
			before, after := 0, 0
			for pick := range 256 {
				d := copyOf(t, s.d)
				for i := range d.Size() / 2 {
					b, _ := done.Read(a.First() + i)
					if i > 0 {
						put(t, d, a.First()+i, b)
					}
				}
				head, _ := done.Read(a.First())
				d.Write(a.First(), head)
				d.Crash([]byte{byte(pick)})
				if now, _ := d.Read(a.First()); now != head {
					before++
					stays(t, s, d, "head", pick)
					continue
				}
				after++
				o := open(t, d)
				if o.Gen() != a.Gen() || o.First() != a.First() {
					t.Fatal(s.name, pick, o.Gen())
				}
				is(t, o, texts(records), s.name, pick)
				goesOn(t, d, texts(records), s.name, pick)
			}
			if before < 64 || after < 64 {
				t.Error("the trial is one-sided:", before, after)
			}
		}
	}
}

// P5.3: a crash behind the second flush of a Begin changes nothing.
func TestCrashBehindBegin(t *testing.T) {
	for _, records := range [][][]byte{nil, {[]byte("x"), message(100, 7)}} {
		for _, s := range states(t) {
			for pick := range 256 {
				d := copyOf(t, s.d)
				a := begin(t, d, records...)
				if d.Crash([]byte{byte(pick)}) != 0 {
					t.Fatal(s.name, "something was pending")
				}
				o := open(t, d)
				if o.Gen() != a.Gen() {
					t.Fatal(s.name, pick, o.Gen())
				}
				is(t, o, texts(records), s.name, pick)
			}
		}
	}
}

// keepsPrefix asks that Open returns the records up to some number, and those of them that must be there; it tells how many there are.
func keepsPrefix(t *testing.T, d *disk.Disk, gen int, all []string, must int, about ...any) int {
	t.Helper()
	o := open(t, d)
	n := len(o.Records())
	if o.Gen() != gen || n < must || n > len(all) {
		t.Fatal(append(about, "generation, records:", o.Gen(), n, "at least", must)...)
	}
	is(t, o, all[:n], about...)
	return n
}

// P5.3: of records added since the last Flush a crash leaves a prefix: those ahead of the first that lacks a sector.
func TestCrashOfAdds(t *testing.T) {
	kept := []string{"x", string(message(60, 8)), "a"}
	added := [][]byte{[]byte("b"), message(60, 1), nil, message(13, 2)} // 1, 3, 1 and 2 sectors
	sectors := []int{1, 3, 1, 2}
	all := append(append([]string(nil), kept...), texts(added)...)
	r := rand.New(rand.NewSource(3))
	lists := pickLists(7)
	for range 3000 {
		lists = append(lists, randomPicks(r, 7))
	}
	states := states(t)
	seen := map[int]int{}
	for i, picks := range lists {
		s := states[i%len(states)]
		d := copyOf(t, s.d)
		a := begin(t, d, []byte("x"), message(60, 8))
		add(t, a, []byte("a"))
		a.Flush()
		add(t, a, added...)
		written := d.Image()
		d.Crash(picks)
		n := keepsPrefix(t, d, a.Gen(), all, 3, s.name, picks)
		// A record is there if all its sectors are, and all ahead of it.
		want, at := 3, 64*(a.First()+6)
		for _, count := range sectors {
			if string(d.Image()[at:at+64*count]) != string(written[at:at+64*count]) {
				break
			}
			at += 64 * count
			want++
		}
		if n != want {
			t.Fatal(s.name, picks, "records:", n, "not", want)
		}
		seen[n]++
		goesOn(t, d, all[:n], s.name, picks)
	}
	for n := 3; n <= 7; n++ {
		if seen[n] < 50 {
			t.Error("the trial is one-sided:", seen)
		}
	}
}

// P5.3: sectors that a crash left behind an area's records are none of the next area's, in the same place.
func TestLeftBehind(t *testing.T) {
	d := newDisk(t, 20)
	a := begin(t, d)
	add(t, a, []byte("a"), []byte("b"), []byte("c"))
	d.Crash([]byte{0, 64, 64})
	is(t, open(t, d), nil)
	begin(t, d)
	c := begin(t, d)
	tells(t, c, 0, 3, 9, false)
	is(t, open(t, d), nil)
	add(t, c, []byte("A"))
	is(t, open(t, d), []string{"A"})
}

// P5.3: an Add that the disk refused, and a crash of what was written of it.
func TestCrashOfRefusedAdd(t *testing.T) {
	for writes := range 4 {
		for _, picks := range pickLists(1 + writes) {
			d := newDisk(t, 24)
			a := begin(t, d, []byte("a"))
			add(t, a, []byte("b"))
			d.Limit(writes)
			if e := a.Add(message(150, 1)); e != api.ErrFull {
				t.Fatal(e)
			}
			d.Crash(picks)
			keepsPrefix(t, d, 1, []string{"a", "b"}, 1, writes, picks)
		}
	}
}

// life is a random life of a disk on which only areas write: what must be found again after a crash is told from the calls alone.
type life struct {
	t      *testing.T
	r      *rand.Rand
	d      *disk.Disk
	a      *Area
	has    []string // the records of the area that was begun last
	lasts  int      // how many of them must be there
	begins int
}

func (x *life) begin(records ...string) {
	var list [][]byte
	for _, text := range records {
		list = append(list, []byte(text))
	}
	pending := x.d.Pending()
	a, e := Begin(x.d, list...)
	if x.d.Pending() == 0 && pending > 0 {
		x.lasts = len(x.has) // a Begin that came to its first flush made all last
	}
	if e == api.OK {
		x.a, x.has, x.lasts = a, records, len(records)
		x.begins++
	}
}

func (x *life) add() {
	rec := make([]byte, x.r.Intn(150))
	x.r.Read(rec)
	if x.a != nil && x.a.Add(rec) == api.OK {
		x.has = append(x.has[:len(x.has):len(x.has)], string(rec))
	}
}

func (x *life) flush() {
	if x.a != nil {
		x.a.Flush()
		x.lasts = len(x.has)
	}
}

func (x *life) crash() {
	x.d.Crash(randomPicks(x.r, x.d.Pending()))
	if x.begins == 0 {
		if _, e := sameOpen(x.t, x.d); e != api.ErrNone {
			x.t.Fatal("Open answered", e)
		}
		return
	}
	n := keepsPrefix(x.t, x.d, x.a.Gen(), x.has, x.lasts)
	x.has, x.lasts = x.has[:n], n
	x.a = open(x.t, x.d)
}

// P5.3: lives of disks, with limits and crashes.
func TestLives(t *testing.T) {
	r := rand.New(rand.NewSource(17))
	begins := 0
	for range 300 {
		x := &life{t: t, r: r, d: newDisk(t, 30+r.Intn(30))}
		for range 80 {
			switch k := r.Intn(20); {
			case k < 3:
				x.begin(x.has[r.Intn(len(x.has)+1):]...)
			case k < 12:
				x.add()
			case k < 15:
				x.flush()
			case k < 17:
				x.crash()
			case k < 18:
				x.d.Limit(r.Intn(6))
			default:
				x.d.Limit(-1)
			}
		}
		begins += x.begins
	}
	if begins < 1000 {
		t.Error("the trial is one-sided:", begins)
	}
}

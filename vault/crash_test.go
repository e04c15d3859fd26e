package vault

import (
	"bytes"
	"math/rand"
	"testing"

	"imprimatur/api"
	"imprimatur/area"
	"imprimatur/disk"
)

// pickLists: for so many writes, all lost, all performed, and each single one treated in each way while the others are lost or performed.
func pickLists(writes int) [][]byte {
	list := [][]byte{nil, {64}}
	for i := range writes {
		for pick := range 256 {
			for _, others := range []byte{0, 64} {
				picks := bytes.Repeat([]byte{others}, writes)
				picks[i] = byte(pick)
				list = append(list, picks)
			}
		}
	}
	return list
}

// randomPicks: each kind of treatment for each of so many writes.
func randomPicks(r *rand.Rand, writes int) []byte {
	picks := make([]byte, max(writes, 1))
	r.Read(picks)
	return picks
}

// manyPicks: a share of pickLists, and random ones.
func manyPicks(seed, writes int) [][]byte {
	var list [][]byte
	for i, picks := range pickLists(writes) {
		if i < 2 || i%23 == seed%23 {
			list = append(list, picks)
		}
	}
	r := rand.New(rand.NewSource(int64(seed)))
	for range 50 {
		list = append(list, randomPicks(r, writes))
	}
	return list
}

// keepsPrefix asks that Open returns the entries up to some number, and those of them that must be there, and that the vault goes on; it tells how many there are.
func keepsPrefix(t *testing.T, d *disk.Disk, all []entry, must int, about ...any) int {
	t.Helper()
	v := sound(t, d)
	n := v.Len()
	if n < must || n > len(all) {
		t.Fatal(append(about, "entries:", n, "at least", must)...)
	}
	has(t, v, all[:n], about...)
	holds(t, d, all[:n], about...)
	return n
}

// goesOn asks that a disk takes an entry more, which lasts.
func goesOn(t *testing.T, d *disk.Disk, list []entry, about ...any) {
	t.Helper()
	v := sound(t, d)
	put(t, v, e(900, "more"))
	v.Flush()
	d.Crash([]byte{0})
	has(t, sound(t, d), append(list[:len(list):len(list)], e(900, "more")), about...)
}

// states: disks on which only vaults have written, and nothing is pending.
func states(t *testing.T) []*disk.Disk {
	t.Helper()
	list := []*disk.Disk{newDisk(t, 80)}
	d := newDisk(t, 80)
	put(t, sound(t, d), e(100, "old"), e(101, string(message(400, 5))))
	d.Crash([]byte{64})
	list = append(list, d)
	d = d.Twin()
	v := sound(t, d)
	v.Keep()
	put(t, v, e(102, "left"), e(103, string(message(60, 9))))
	d.Crash([]byte{0, 64, 64, 150})
	return append(list, d)
}

// atFirst: a vault that has these entries and no others, flushed, on a twin of a disk.
func atFirst(t *testing.T, base *disk.Disk, list ...entry) (*disk.Disk, *Vault) {
	t.Helper()
	d := base.Twin()
	v := sound(t, d)
	if e := v.Keep(); e != api.OK {
		t.Fatal(e)
	}
	put(t, v, list...)
	if e := v.Flush(); e != api.OK || d.Pending() != 0 {
		t.Fatal(e, d.Pending())
	}
	return d, v
}

// P6.4: of the entries that were put since the last Flush a crash leaves a prefix: those ahead of the first that lacks a sector.
func TestCrashOfPuts(t *testing.T) {
	flushed := []entry{e(1, "one"), e(2, string(message(60, 1)))}                            // 2 and 3 sectors
	later := []entry{e(3, ""), e(0, string(message(60, 2))), e(5, "five"), e(4, "\x00\x00")} // 2, 3, 2 and 2 sectors
	sectors := []int{2, 3, 2, 2}
	all := append(flushed[:2:2], later...)
	states := states(t)
	seen := map[int]int{}
	lists := pickLists(9)
	r := rand.New(rand.NewSource(3))
	for range 2000 {
		picks := randomPicks(r, 9)
		for i := range picks {
			if r.Intn(2) == 0 {
				picks[i] = 64 // so that longer prefixes come too
			}
		}
		lists = append(lists, picks)
	}
	for i, picks := range lists {
		d, v := atFirst(t, states[i%len(states)], flushed...)
		put(t, v, later...)
		if d.Pending() != 9 {
			t.Fatal("pending", d.Pending())
		}
		a, _ := area.Open(d)
		at := 64 * (a.First() + 1 + 5)
		written := d.Image()
		d.Crash(picks)
		left := d.Image()
		want := 2
		for _, count := range sectors {
			if !bytes.Equal(left[at:at+64*count], written[at:at+64*count]) {
				break
			}
			at += 64 * count
			want++
		}
		n := keepsPrefix(t, d, all, 2, i, picks)
		if n != want {
			t.Fatal(i, picks, "entries:", n, "not", want)
		}
		seen[n]++
		goesOn(t, d, all[:n], i, picks)
	}
	for n := 2; n <= 6; n++ {
		if seen[n] < 50 {
			t.Error("the trial is one-sided:", seen)
		}
	}
}

// P6.4: a crash behind a Flush, an Open or a Keep that left the vault sound takes nothing away, whatever was pending ahead of it.
func TestCrashBehind(t *testing.T) {
	all := []entry{e(1, "one"), e(2, string(message(60, 1))), e(3, "")}
	calls := []struct {
		name string
		call func(d *disk.Disk, v *Vault) api.Errno
		want []entry
	}{
		{"flush", func(d *disk.Disk, v *Vault) api.Errno { return v.Flush() }, all},
		{"open", func(d *disk.Disk, v *Vault) api.Errno { _, e := Open(d); return e }, all},
		{"keep all", func(d *disk.Disk, v *Vault) api.Errno { return v.Keep(keysOf(all)...) }, all},
		{"keep some", func(d *disk.Disk, v *Vault) api.Errno { return v.Keep(key(3), key(2)) }, all[1:]},
		{"keep none", func(d *disk.Disk, v *Vault) api.Errno { return v.Keep(key(7)) }, nil},
	}
	for i, base := range states(t) {
		for _, c := range calls {
			for pick := range 256 {
				d, v := atFirst(t, base)
				put(t, v, all...)
				if e := c.call(d, v); e != api.OK {
					t.Fatal(c.name, e)
				}
				if n := d.Crash([]byte{byte(pick)}); n != 0 {
					t.Fatal(c.name, "something was pending")
				}
				has(t, sound(t, d), c.want, i, c.name, pick)
			}
		}
	}
}

// P6.4: a crash of what an Open wrote that the disk refused at one of its writes: the entries are those of the current area of before.
func TestCrashOfRefusedOpen(t *testing.T) {
	all := []entry{e(1, "one"), e(2, string(message(60, 1)))} // five sectors
	for i, base := range states(t) {
		for writes := range 6 {
			for _, picks := range manyPicks(writes, writes) {
				d, _ := atFirst(t, base, all...)
				d.Limit(writes)
				if v := open(t, d); v.Sound() {
					t.Fatal("the vault is sound")
				}
				want := writes
				if writes == 5 {
					want = 0 // behind the first flush
				}
				if d.Pending() != want {
					t.Fatal(i, writes, "pending", d.Pending())
				}
				d.Crash(picks)
				has(t, sound(t, d), all, i, writes, picks)
				goesOn(t, d, all, i, writes, picks)
			}
		}
	}
}

// P6.4: on a disk without entries the first write of an Open is the head; refused, it leaves no entries.
func TestCrashOfRefusedFirstOpen(t *testing.T) {
	for pick := range 256 {
		d := newDisk(t, 20)
		d.Limit(0)
		open(t, d)
		d.Crash([]byte{byte(pick)})
		has(t, sound(t, d), nil)
	}
}

// P6.4: a refused Open and a crash while entries are pending: a prefix, with all that was flushed.
func TestCrashOfRefusedOpenPending(t *testing.T) {
	all := []entry{e(1, "one"), e(2, string(message(60, 1))), e(3, "three")} // 2, 3 and 2 sectors
	for i, base := range states(t) {
		for writes := range 8 {
			for _, picks := range manyPicks(writes, writes+5) {
				d, v := atFirst(t, base, all[0])
				put(t, v, all[1:]...)
				d.Limit(writes)
				w := open(t, d)
				has(t, w, all, i, writes)
				must := 1
				if writes == 7 {
					must = 3 // behind the first flush all of it lasts
				}
				if w.Sound() || must == 3 && d.Pending() != 0 {
					t.Fatal(i, writes, "pending", d.Pending())
				}
				if e := w.Flush(); e != api.OK || must == 1 && d.Pending() != writes+5 {
					t.Fatal(i, writes, e, d.Pending())
				}
				d.Crash(picks)
				n := keepsPrefix(t, d, all, must, i, writes, picks)
				goesOn(t, d, all[:n], i, writes, picks)
			}
		}
	}
}

// P6.4: a crash behind a Keep that the disk refused at one of its writes: a prefix of the entries of before, none of them removed but from the end.
func TestCrashOfRefusedKeep(t *testing.T) {
	all := []entry{e(1, "one"), e(2, "two"), e(3, string(message(60, 1))), e(4, "four")} // 2, 2, 3 and 2 sectors
	for i, base := range states(t) {
		for writes := range 6 {
			for _, picks := range manyPicks(writes, writes+5) {
				d, v := atFirst(t, base, all[:2]...)
				put(t, v, all[2:]...)
				d.Limit(writes)
				if e := v.Keep(key(3), key(2)); e != api.ErrFull || !v.Sound() {
					t.Fatal(i, writes, e)
				}
				must := 2
				if writes == 5 {
					must = 4
				}
				d.Crash(picks)
				n := keepsPrefix(t, d, all, must, i, writes, picks)
				goesOn(t, d, all[:n], i, writes, picks)
			}
		}
	}
}

// P6.4: a Keep that was refused, and Puts, a Flush and Puts behind it: the vault goes on as if the Keep had not been.
func TestCrashAfterRefusedKeep(t *testing.T) {
	all := []entry{e(1, "one"), e(2, "two"), e(3, string(message(60, 1))), e(4, "four")}
	for i, base := range states(t) {
		for writes := range 5 {
			for _, picks := range manyPicks(writes, 5) {
				d, v := atFirst(t, base, all[:2]...)
				d.Limit(writes)
				if e := v.Keep(key(1), key(2)); e != api.ErrFull {
					t.Fatal(i, writes, e)
				}
				d.Limit(-1)
				put(t, v, all[2])
				v.Flush()
				put(t, v, all[3])
				d.Crash(picks)
				n := keepsPrefix(t, d, all, 3, i, writes, picks)
				goesOn(t, d, all[:n], i, writes, picks)
			}
		}
	}
}

// P6.4: a crash of what was written of a Put that the disk refused: a prefix of the entries, without that one. The Flush of the unsound vault adds no promise.
func TestCrashOfRefusedPut(t *testing.T) {
	all := []entry{e(1, "one"), e(2, "two")}
	for i, base := range states(t) {
		for writes := range 4 {
			for _, picks := range manyPicks(writes, writes+2) {
				d, v := atFirst(t, base, all[0])
				put(t, v, all[1])
				d.Limit(writes)
				if e := v.Put(key(3), message(100, 1)); e != api.ErrFull || v.Sound() {
					t.Fatal(i, writes, e)
				}
				d.Limit(-1)
				if e := v.Flush(); e != api.OK || d.Pending() != writes+2 {
					t.Fatal(i, writes, e, d.Pending())
				}
				d.Crash(picks)
				n := keepsPrefix(t, d, all, 1, i, writes, picks)
				goesOn(t, d, all[:n], i, writes, picks)
			}
		}
	}
}

// P6.4: a Put that the disk refused, and a Keep that makes the vault sound again: what it kept lasts, and what is put behind it is a prefix.
func TestCrashAfterMendingKeep(t *testing.T) {
	kept := []entry{e(2, "two"), e(3, "three")}
	all := append(kept[:2:2], e(4, string(message(60, 1))), e(1, "ONE"))
	for i, base := range states(t) {
		for _, picks := range manyPicks(i, 5) {
			d, v := atFirst(t, base, e(1, "one"))
			put(t, v, kept...)
			d.Limit(1)
			if e := v.Put(key(4), message(100, 1)); e != api.ErrFull || v.Sound() {
				t.Fatal(i, e)
			}
			d.Limit(-1)
			if e := v.Keep(key(2), key(3), key(4)); e != api.OK {
				t.Fatal(i, e)
			}
			put(t, v, all[2:]...)
			d.Crash(picks)
			n := keepsPrefix(t, d, all, 2, i, picks)
			goesOn(t, d, all[:n], i, picks)
		}
	}
}

// life is a random life of a disk on which only one vault writes at a time: what must be found again after a crash is told from the answers alone.
type life struct {
	t     *testing.T
	r     *rand.Rand
	d     *disk.Disk
	v     *Vault
	has   []entry
	lasts int // how many of them must be there
	done  map[string]int
}

// lasting: a call that was OK and left the vault sound makes all entries last.
func (x *life) lasting(what string, ok bool) {
	if ok && x.v.Sound() {
		x.lasts = len(x.has)
		x.done[what]++
	} else {
		x.done["refused "+what]++
	}
}

func (x *life) open() {
	x.v = open(x.t, x.d)
	has(x.t, x.v, x.has)
	x.lasting("open", true)
}

func (x *life) put() {
	more := entry{key(x.r.Intn(40)), string(message(x.r.Intn(120), x.r.Intn(9)))}
	_, there := x.v.Get(more.key)
	if x.v.Put(more.key, []byte(more.value)) == api.OK && !there {
		x.has = append(x.has[:len(x.has):len(x.has)], more)
	}
	has(x.t, x.v, x.has)
}

func (x *life) flush() { x.lasting("flush", x.v.Flush() == api.OK) }

func (x *life) keep() {
	var keys []api.Digest
	var list []entry
	for _, y := range x.has {
		if x.r.Intn(3) > 0 {
			keys = append(keys, y.key)
			list = append(list, y)
		}
	}
	ok := x.v.Keep(keys...) == api.OK
	if ok {
		x.has = list
	}
	has(x.t, x.v, x.has)
	x.lasting("keep", ok)
}

func (x *life) crash() {
	x.d.Crash(randomPicks(x.r, x.d.Pending()))
	if x.r.Intn(4) == 0 {
		x.d.Limit(x.r.Intn(6))
	}
	x.v = open(x.t, x.d)
	n := x.v.Len()
	if n < x.lasts || n > len(x.has) {
		x.t.Fatal("entries:", n, "of", len(x.has), "at least", x.lasts)
	}
	if n < len(x.has) {
		x.done["less"]++
	}
	x.has = x.has[:n]
	has(x.t, x.v, x.has)
	// After an Open that left the vault unsound, too, what stands in the current area is durable: a crash came first.
	x.lasts = n
	x.done["crash"]++
}

// P6.4: lives of disks, with limits and crashes.
func TestLives(t *testing.T) {
	r := rand.New(rand.NewSource(23))
	done := map[string]int{}
	for range 400 {
		x := &life{t: t, r: r, d: newDisk(t, 4+r.Intn(80)), done: done}
		x.open()
		for range 80 {
			switch k := r.Intn(24); {
			case k < 12:
				x.put()
			case k < 14:
				x.flush()
			case k < 16:
				x.keep()
			case k < 18:
				x.crash()
			case k < 19:
				x.open()
			case k < 21:
				x.d.Limit(r.Intn(9))
			default:
				x.d.Limit(-1)
			}
		}
	}
	for _, what := range []string{"open", "refused open", "flush", "refused flush", "keep", "refused keep", "crash", "less"} {
		if done[what] < 100 {
			t.Error("the trial is one-sided:", what, done[what])
		}
	}
}

package vault

import (
	"bytes"
	"testing"

	"imprimatur/api"
)

// fill overwrites a slice with all that stands behind its length.
func fill(b []byte) {
	b = b[:cap(b)]
	for i := range b {
		b[i] = 77
	}
}

// fillKeys does so with a list of keys.
func fillKeys(list []api.Digest) {
	list = list[:cap(list)]
	for i := range list {
		list[i] = key(77)
	}
}

// sizes: lengths of values, those around the ends of sectors and the longest among them.
func sizes() []int { return []int{0, 1, 25, 26, 27, 72, 73, 999, 1000} }

// P6.5: a value stays as it is, with the memory behind its length, whether it is taken or refused.
func TestValuesUnchanged(t *testing.T) {
	for _, n := range append(sizes(), 1001, 3000) {
		d := newDisk(t, 200)
		v := sound(t, d)
		long := message(n+80, 1)
		v.Put(key(1), long[:n])
		v.Put(key(1), long[:n])
		v.Put(key(1), long[:n/2])
		d.Limit(0)
		v.Put(key(2), long[:n])
		v.Put(key(2), long[:n])
		if !bytes.Equal(long, message(n+80, 1)) {
			t.Error("a value was changed", n)
		}
	}
}

// P6.5: the keys that are given to Keep stay as they are, with the memory behind their length, whether it succeeds or not.
func TestKeysUnchanged(t *testing.T) {
	list := []api.Digest{key(3), key(9), key(1), key(3), key(8), key(7)}
	for _, writes := range []int{-1, 0, 3} {
		for n := range 5 {
			d := newDisk(t, 60)
			v := sound(t, d)
			put(t, v, e(1, "one"), e(2, "two"), e(3, "three"))
			d.Limit(writes)
			v.Keep(list[:n]...)
			for i, k := range []api.Digest{key(3), key(9), key(1), key(3), key(8), key(7)} {
				if list[i] != k {
					t.Fatal("a key was changed", writes, n, i)
				}
			}
		}
	}
}

// P6.5: arguments are not kept: what is done to them later shows neither in the vault nor on the disk.
func TestArgumentsNotKept(t *testing.T) {
	for _, n := range sizes() {
		d := newDisk(t, 300)
		v := sound(t, d)
		want := []entry{e(1, string(message(n, 1))), e(2, string(message(n, 2)))}
		for i, x := range want {
			value := append(make([]byte, 0, n+40), x.value...)
			put(t, v, want[:i]...)
			if e := v.Put(x.key, value); e != api.OK {
				t.Fatal(e)
			}
			fill(value)
			has(t, v, want[:i+1], n)
		}
		keys := append(make([]api.Digest, 0, 9), key(2), key(1))
		if e := v.Keep(keys...); e != api.OK {
			t.Fatal(e)
		}
		fillKeys(keys)
		has(t, v, want, n)
		put(t, v, want...)
		has(t, sound(t, d), want, n)
	}
}

// P6.5: results are new memory, also behind their length: what is done to one shows in no other, nor in the vault.
func TestResultsNew(t *testing.T) {
	for _, n := range sizes() {
		d := newDisk(t, 300)
		v := sound(t, d)
		want := []entry{e(1, string(message(n, 1))), e(2, string(message(n, 2))), e(3, string(message(n, 3)))}
		put(t, v, want...)
		ask := func(v *Vault, want []entry) {
			t.Helper()
			for _, x := range want {
				one, _ := v.Get(x.key)
				two, _ := v.Get(x.key)
				_ = append(one, "more than was there"...)
				fill(one)
				if string(two) != x.value {
					t.Error("another result", n)
				}
			}
			one, two := v.Keys(), v.Keys()
			_ = append(one, key(5))
			fillKeys(one)
			for i, x := range want {
				if two[i] != x.key {
					t.Error("another result", n)
				}
			}
			has(t, v, want, n)
		}
		ask(v, want)
		v.Keep(key(1), key(3))
		ask(v, []entry{want[0], want[2]})
		put(t, v, want[1])
		w := sound(t, d)
		ask(w, []entry{want[0], want[2], want[1]})
		ask(v, []entry{want[0], want[2], want[1]})
		has(t, sound(t, d), []entry{want[0], want[2], want[1]})
	}
}

// P6.5: a result stays as it is when entries are put, removed, and put again with other values.
func TestResultsStay(t *testing.T) {
	d := newDisk(t, 60)
	v := sound(t, d)
	put(t, v, e(1, "one"), e(2, "two"), e(3, "three"))
	keys := v.Keys()
	value, _ := v.Get(key(2))
	v.Keep(key(3))
	put(t, v, e(2, "TWO"), e(1, "ONE"), e(4, "four"))
	later := v.Keys()
	v.Keep()
	put(t, v, e(9, "nine"), e(8, "eight"))
	if len(keys) != 3 || keys[0] != key(1) || keys[1] != key(2) || keys[2] != key(3) || string(value) != "two" {
		t.Error(keys, value)
	}
	if len(later) != 4 || later[0] != key(3) || later[1] != key(2) || later[2] != key(1) || later[3] != key(4) {
		t.Error(later)
	}
}

// P6.5: a refused Keep leaves the list of keys alone, behind its length too.
func TestRefusedKeepLeavesKeys(t *testing.T) {
	d := newDisk(t, 60)
	v := sound(t, d)
	want := []entry{e(1, "one"), e(2, "two"), e(3, "three")}
	put(t, v, want...)
	d.Limit(0)
	for _, keys := range [][]api.Digest{nil, {key(3)}, {key(2), key(3)}} {
		if e := v.Keep(keys...); e != api.ErrFull {
			t.Error(e)
		}
		has(t, v, want)
	}
	d.Limit(-1)
	put(t, v, e(4, "four"))
	has(t, v, append(want, e(4, "four")))
}

// P1, P6.5: two vaults on two disks have nothing in common, and the same calls make the same disk.
func TestApart(t *testing.T) {
	d := newDisk(t, 60)
	put(t, sound(t, d), e(1, "one"), e(2, "two"))
	twin := d.Twin()
	v, w := sound(t, d), sound(t, twin)
	sameDisk(t, d, twin)
	put(t, v, e(3, "three"))
	w.Keep(key(2))
	has(t, v, []entry{e(1, "one"), e(2, "two"), e(3, "three")})
	has(t, w, []entry{e(2, "two")})
	for range 5 {
		x, y := newDisk(t, 400), newDisk(t, 400)
		for _, z := range []*Vault{sound(t, x), sound(t, y)} {
			for i := range 40 {
				put(t, z, e(i*7%40, string(message(i, i))))
			}
			z.Keep(key(30), key(2), key(17), key(8), key(39), key(0))
		}
		sameDisk(t, x, y)
	}
}

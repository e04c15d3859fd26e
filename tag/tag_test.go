package tag

import (
	"bytes"
	"encoding/hex"
	"math/rand"
	"slices"
	"sort"
	"strings"
	"testing"

	"imprimatur/api"
)

// spread: a digest whose bytes are all different.
func spread(first int) api.Digest {
	var d api.Digest
	for i := range d {
		d[i] = byte(first + i*37)
	}
	return d
}

func randomDigest(r *rand.Rand) api.Digest {
	var d api.Digest
	r.Read(d[:])
	return d
}

// filled: a digest of one byte, all along.
func filled(b byte) api.Digest { return api.Digest(bytes.Repeat([]byte{b}, 32)) }

// P2.1: the digits of a digest, written out.
func TestHexKnown(t *testing.T) {
	d := api.Digest{0x01, 0x23, 0x45, 0x67, 0x89, 0xab, 0xcd, 0xef, 31: 0xf0}
	if got := Hex(d); got != "0123456789abcdef"+strings.Repeat("0", 46)+"f0" {
		t.Error(got)
	}
	if got := Short(d); got != "01234567" {
		t.Error(got)
	}
	if got := Hex(api.Digest{}); got != strings.Repeat("0", 64) {
		t.Error(got)
	}
	if got := Hex(filled(255)); got != strings.Repeat("f", 64) {
		t.Error(got)
	}
}

// P2.1: each byte at each place has its two digits, and is read back.
func TestHexBytes(t *testing.T) {
	for first := range 256 {
		d := spread(first)
		want := hex.EncodeToString(d[:])
		if Hex(d) != want || Short(d) != want[:8] {
			t.Error(first, Hex(d), Short(d))
		}
		if got, ok := FromHex(want); !ok || got != d {
			t.Error(first, got, ok)
		}
		for place := range d {
			e := api.Digest{}
			e[place] = byte(first)
			if got, ok := FromHex(Hex(e)); !ok || got != e {
				t.Error(first, place, got, ok)
			}
		}
	}
}

// P2.1: a text of another length has no digest.
func TestFromHexLength(t *testing.T) {
	for n := range 200 {
		for _, digit := range []string{"0", "a", "f"} {
			d, ok := FromHex(strings.Repeat(digit, n))
			if ok != (n == 64) || !ok && d != (api.Digest{}) {
				t.Error(n, digit, d, ok)
			}
		}
	}
}

// P2.1: one byte that is no digit, at any place, and there is no digest.
func TestFromHexDigits(t *testing.T) {
	text := Hex(spread(9))
	for place := range text {
		for c := range 256 {
			b := []byte(text)
			b[place] = byte(c)
			d, ok := FromHex(string(b))
			if want := strings.IndexByte("0123456789abcdef", byte(c)) >= 0; ok != want {
				t.Error(place, c, ok)
			} else if ok && Hex(d) != string(b) || !ok && d != (api.Digest{}) {
				t.Error(place, c, d)
			}
		}
	}
}

// P2.1: texts that come near to 64 digits.
func TestFromHexWrong(t *testing.T) {
	text := Hex(spread(170))
	for _, s := range []string{
		"", text[1:], text[:63], text + "0", text + text, text + "\n", text + "\x00", " " + text, "0x" + text, "0x" + text[2:],
		strings.ToUpper(text), text[:63] + "F", text[:32] + "-" + text[33:], " " + text[1:], text[:63] + " ", "+" + text[1:],
		strings.Repeat("é", 32), strings.Repeat("é", 64), strings.Repeat("０", 64), strings.Repeat("\xff", 64), strings.Repeat("\x00", 64),
	} {
		if d, ok := FromHex(s); ok || d != (api.Digest{}) {
			t.Errorf("%q: %x", s, d)
		}
	}
}

// P2.1: the first byte in which two digests differ decides, as a number from 0 to 255.
func TestComparePlaces(t *testing.T) {
	for place := range 32 {
		for _, c := range []struct{ low, high byte }{{0, 1}, {127, 128}, {1, 255}, {254, 255}, {0, 255}} {
			a, b := filled(100), filled(100)
			a[place], b[place] = c.low, c.high
			for behind := place + 1; behind < 32; behind++ {
				a[behind], b[behind] = 200, 3
			}
			if Compare(a, b) != -1 || Compare(b, a) != 1 || Compare(a, a) != 0 || Compare(b, b) != 0 {
				t.Error(place, c)
			}
		}
	}
}

// P2.1: the order of digests is the order of their digits.
func TestCompareDigits(t *testing.T) {
	r := rand.New(rand.NewSource(21))
	for range 2000 {
		a, b := randomDigest(r), randomDigest(r)
		copy(b[:r.Intn(33)], a[:])
		if got := Compare(a, b); got != strings.Compare(Hex(a), Hex(b)) {
			t.Error(a, b, got)
		}
	}
}

// P2.2: increasing order, each once, whatever stands in the list and how often.
func TestSortKnown(t *testing.T) {
	a, b, c := api.Digest{31: 1}, api.Digest{0, 1}, api.Digest{128}
	for _, x := range []struct{ list, want []api.Digest }{
		{nil, nil},
		{[]api.Digest{}, nil},
		{[]api.Digest{a}, []api.Digest{a}},
		{[]api.Digest{{}, {}}, []api.Digest{{}}},
		{[]api.Digest{a, b, c}, []api.Digest{a, b, c}},
		{[]api.Digest{c, b, a}, []api.Digest{a, b, c}},
		{[]api.Digest{b, b, b, b}, []api.Digest{b}},
		{[]api.Digest{c, a, c, {}, b, a, c}, []api.Digest{{}, a, b, c}},
		{[]api.Digest{filled(255), {}, filled(255)}, []api.Digest{{}, filled(255)}},
	} {
		if got := Sort(x.list); !slices.Equal(got, x.want) {
			t.Error(x.list, got)
		}
	}
}

// sortByMap: what Sort is to answer, found in another way.
func sortByMap(list []api.Digest) []string {
	seen := map[string]bool{}
	for _, d := range list {
		seen[string(d[:])] = true
	}
	var texts []string
	for text := range seen {
		texts = append(texts, text)
	}
	sort.Strings(texts)
	return texts
}

// drawn: n digests out of a pool of some, so that many stand there several times.
func drawn(r *rand.Rand, n, pool int) []api.Digest {
	all := make([]api.Digest, pool)
	for i := range all {
		all[i] = randomDigest(r)
		copy(all[i][:r.Intn(32)], all[0][:])
	}
	list := make([]api.Digest, n)
	for i := range list {
		list[i] = all[r.Intn(pool)]
	}
	return list
}

// P2.2: long lists and short ones, with many digests several times and with none.
func TestSortRandom(t *testing.T) {
	r := rand.New(rand.NewSource(22))
	for n := range 300 {
		list := drawn(r, n, 1+r.Intn(2*n+1))
		got, want := Sort(list), sortByMap(list)
		if len(got) != len(want) {
			t.Fatal(n, len(got), len(want))
		}
		for i := range got {
			if string(got[i][:]) != want[i] {
				t.Error(n, i)
			}
		}
	}
}

// P2.3: Sort leaves its list as it is, with the memory behind its length, and shares nothing with it.
func TestSortApart(t *testing.T) {
	r := rand.New(rand.NewSource(23))
	for n := range 40 {
		whole := drawn(r, n+5, 1+n/2)
		if n%2 == 0 {
			whole = Sort(drawn(r, 4*n+40, 4*n+40))[:n+5]
		}
		was := slices.Clone(whole)
		list := whole[:n]
		got, again := Sort(list), Sort(list)
		want := slices.Clone(again)
		if !slices.Equal(whole, was) {
			t.Fatal(n, "the list is changed")
		}
		clear(got[:cap(got)])
		if !slices.Equal(whole, was) || !slices.Equal(again, want) || !slices.Equal(Sort(list), want) {
			t.Fatal(n, "the result is not its own memory")
		}
		clear(whole)
		if !slices.Equal(again, want) {
			t.Fatal(n, "the list is kept")
		}
	}
}

// P2.3: a digest that is handed in by value stays as it is, and what comes out is no one else's.
func TestDigestsApart(t *testing.T) {
	d, e := spread(1), spread(2)
	Hex(d)
	Short(d)
	Compare(d, e)
	if d != spread(1) || e != spread(2) {
		t.Error("changed")
	}
	got, _ := FromHex(Hex(d))
	clear(got[:])
	if again, ok := FromHex(Hex(d)); !ok || again != d {
		t.Error("kept")
	}
}

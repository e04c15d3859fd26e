package code

import (
	"math/rand"
	"slices"
	"testing"

	"imprimatur/api"
)

// noLibrary asks that no library is taken.
func noLibrary(t *testing.T, b []byte) {
	t.Helper()
	if list, ok := TakeLibrary(b); ok || len(list) != 0 {
		t.Fatal(b, "got", list, ok)
	}
}

// P10.1, P10.2: libraries of none, of one and of some, written out; every beginning, and bytes behind, which no library has.
func TestLibraryKnown(t *testing.T) {
	some := []api.Decl{}
	someBytes := row(1, 8)
	for _, x := range knownDecls() {
		some, someBytes = append(some, x.d), append(someBytes, x.b...)
	}
	for _, x := range []struct {
		list []api.Decl
		b    []byte
	}{
		{nil, row(0)}, {[]api.Decl{}, row(0)}, {[]api.Decl{axiom("p", 0, prop())}, row(1, 1, 1, 1, 1, "p", 0, 2)}, {some[:1], row(1, 1, knownDecls()[0].b)}, {some, someBytes},
		{[]api.Decl{axiom("p", 0, prop()), axiom("p", 0, prop())}, row(1, 2, 1, 1, 1, "p", 0, 2, 1, 1, 1, "p", 0, 2)},
	} {
		got, ok := Library(x.list)
		answers(t, x.list, got, ok, x.b, true)
		if list, ok := TakeLibrary(x.b); !ok || !sameLibrary(list, x.list) {
			t.Error(x.list, "got", list, ok)
		}
		for cut := range x.b {
			noLibrary(t, x.b[:cut])
		}
		for _, behind := range [][]byte{{0}, {2}, {1, 1}, x.b} {
			noLibrary(t, slices.Concat(x.b, behind))
		}
	}
}

// P10.1, P10.2: each number of declarations up to above 64, and numbers that tell another one than there are.
func TestLibrarySize(t *testing.T) {
	one := axiom("p", 0, prop())
	for count := range 300 {
		list := slices.Repeat([]api.Decl{one}, count)
		libraryIs(t, list)
		if took := takeLibraryIs(t, plainLibrary(list)); took != (count <= 64) {
			t.Error(count)
		}
		if got, ok := Library(list); ok != (count <= 64) || !ok && len(got) > 0 {
			t.Error(count)
		}
		for have := max(count-2, 0); have < count+3; have++ {
			b := plainNum(count)
			for range have {
				b = append(b, plainDecl(one)...)
			}
			if took := takeLibraryIs(t, b); took != (count == have && count <= 64) {
				t.Error(count, have)
			}
		}
	}
	noLibrary(t, row(2, 0, 1, plainDecl(one)))
	noLibrary(t, row(1, 0))
	noLibrary(t, plainNum(most))
	noLibrary(t, row(6, 255, 255, 255, 255, 255, 255))
	noLibrary(t, row(8, 255, 255, 255, 255, 255, 255, 255, 255, plainDecl(one)))
	for _, count := range []int{65, 1 << 16, 1 << 20} {
		got, ok := Library(make([]api.Decl, count))
		answers(t, count, got, ok, nil, false)
	}
}

// P10.1, P10.2: one declaration in each place that is not well formed.
func TestLibraryRefused(t *testing.T) {
	bad := []api.Decl{{}, axiom("fun", 0, prop()), axiom("a", 5, prop()), axiom("a", 0, v(0)), def("a", 0, prop(), api.Term{}), family("a", 0, prop(), 17), {Kind: 5, Name: "a", Type: prop()}, {Kind: api.DAxiom, Name: "a", Type: prop(), Value: prop()}}
	for size := 1; size < 9; size++ {
		for at := range size {
			for _, d := range bad {
				list := slices.Clone(sampleDecls()[:size])
				list[at] = d
				got, ok := Library(list)
				answers(t, list, got, ok, nil, false)
				if b := plainLibrary(list); d.Kind != api.DAxiom || d.Value.Kind == 0 {
					noLibrary(t, b)
				}
			}
		}
	}
	for count := range 66 {
		list := slices.Repeat([]api.Decl{axiom("p", 0, prop())}, count)
		libraryIs(t, append(list, bad[0]))
		libraryIs(t, append([]api.Decl{bad[1]}, list...))
	}
}

// P10.1, P10.2, P10.3: libraries drawn at random, and their bytes with one of them changed.
func TestLibraryDrawn(t *testing.T) {
	r := rand.New(rand.NewSource(103))
	seen := map[string][]api.Decl{}
	took := 0
	for range 400 {
		var list []api.Decl
		for range r.Intn(8) * r.Intn(9) {
			list = append(list, drawnDecl(r, 6))
		}
		libraryIs(t, list)
		b, ok := Library(list)
		if other, twice := seen[string(b)]; !ok || twice && !sameLibrary(other, list) {
			t.Fatal(list, other)
		}
		seen[string(b)] = list
		for range 10 {
			changed := slices.Clone(b)
			changed[r.Intn(len(b))] += byte(1 + r.Intn(3))
			if takeLibraryIs(t, changed) {
				took++
			}
			takeLibraryIs(t, b[:r.Intn(len(b)+1)])
		}
	}
	if took < 300 {
		t.Error("only", took)
	}
}

// P10.1, P10.2: a library of 64 declarations of many nodes each.
func TestLargeLibrary(t *testing.T) {
	var list []api.Decl
	for range 32 {
		list = append(list, opaque("t", 4, wide(3000), wide(2999)), family("n", 0, wide(2998), 3, api.Ctor{Name: "c", Type: wide(3000)}))
	}
	libraryIs(t, list)
	if !takeLibraryIs(t, plainLibrary(list)) {
		t.Error("large")
	}
	libraryIs(t, append(list, axiom("p", 0, prop())))
}

package code

import (
	"fmt"
	"math/rand"
	"slices"
	"testing"

	"imprimatur/api"
	"imprimatur/level"
	"imprimatur/term"
)

// anything: any term at all, most of them of a kind that there is.
func anything(r *rand.Rand, nodes int) api.Term {
	t := api.Term{Kind: r.Intn(12) - 1, N: r.Intn(4) - 1}
	if r.Intn(8) == 0 {
		t.Kind, t.N = int(r.Uint64()), int(r.Uint64())
	}
	if r.Intn(2) == 0 {
		t.Name = []string{"a", "", "fun", "a..b", "\xff", "nat.rec", "0"}[r.Intn(7)]
	}
	for range r.Intn(3) * r.Intn(4) {
		t.Levels = append(t.Levels, anyLevel(r))
	}
	for nodes > 1 && r.Intn(6) > 0 {
		part := 1 + r.Intn(nodes-1)
		t.Args = append(t.Args, anything(r, part))
		nodes -= part
	}
	return t
}

func anyLevel(r *rand.Rand) api.Level {
	l := level.Num(r.Intn(103) - 1)
	if r.Intn(3) == 0 {
		l.Plus[r.Intn(4)] = r.Intn(104) - 2
	}
	return l
}

// mutated: a copy of a term with one field of one node changed.
func mutated(r *rand.Rand, t api.Term) api.Term {
	t = term.Clone(t)
	at := &t
	for len(at.Args) > 0 && r.Intn(4) > 0 {
		at = &at.Args[r.Intn(len(at.Args))]
	}
	switch r.Intn(6) {
	case 0:
		at.Kind = r.Intn(12) - 1
	case 1:
		at.N += []int{1, -1, 40, most, -most, 1 << 62}[r.Intn(6)]
	case 2:
		at.Name += []string{"", "a", ".", "fun"}[r.Intn(4)]
	case 3:
		at.Levels = append(at.Levels, anyLevel(r))
	case 4:
		at.Args = append(at.Args, prop())
	case 5:
		at.Args = at.Args[:max(len(at.Args)-1, 0)]
	}
	return t
}

// some: a term, most often one that has an encoding.
func some(r *rand.Rand, params, vars, nodes int) api.Term {
	switch x := drawn(r, params, vars, 1+r.Intn(nodes)); r.Intn(8) {
	case 0:
		return anything(r, 1+r.Intn(nodes))
	case 1:
		return mutated(r, x)
	default:
		return x
	}
}

// mutatedDecl: a well-formed declaration with one field changed.
func mutatedDecl(r *rand.Rand) api.Decl {
	d := drawnDecl(r, 6)
	switch r.Intn(8) {
	case 0:
		d.Kind = r.Intn(8) - 1
	case 1:
		d.Params = r.Intn(8) - 1
	case 2:
		d.Name += []string{"", "a", ".", "fun"}[r.Intn(4)]
	case 3:
		d.Type = some(r, 4, 1, 6)
	case 4:
		d.Value = some(r, 4, 1, 6)
	case 5:
		d.Fixed += r.Intn(20) - 4
	case 6:
		d.Ctors = append(d.Ctors, api.Ctor{Name: "c", Type: some(r, 4, 0, 6)})
	case 7:
		d.Ctors = slices.Repeat(d.Ctors, 2)
	}
	return d
}

// P1, P10.1, P10.3: any values: each answer is the one that the chapter's words ask for.
func TestAnyValues(t *testing.T) {
	r := rand.New(rand.NewSource(104))
	seen := map[string]string{}
	rights := 0
	for range 30000 {
		x := some(r, 4, []int{0, 1, 9, 300, most}[r.Intn(5)], 20)
		termIs(t, x)
		if b, ok := Term(x); ok {
			text := fmt.Sprint(x)
			if other, twice := seen[string(b)]; twice && other != text {
				t.Fatal(text, other)
			}
			seen[string(b)] = text
			rights++
		}
		d := mutatedDecl(r)
		declIs(t, d)
		if Formed(d) {
			rights++
		}
		var list []api.Decl
		for range r.Intn(4) {
			list = append(list, mutatedDecl(r))
		}
		libraryIs(t, list)
	}
	if rights < 25000 || rights > 55000 {
		t.Error(rights)
	}
	declIs(t, api.Decl{})
	libraryIs(t, nil)
	libraryIs(t, []api.Decl{{}})
}

// changedBytes: bytes with some of them changed, taken away, put in or doubled.
func changedBytes(r *rand.Rand, b []byte) []byte {
	b = slices.Clone(b)
	for range 1 + r.Intn(2) {
		at := r.Intn(len(b) + 1)
		to := min(at+r.Intn(4), len(b))
		switch r.Intn(5) {
		case 0:
			b = slices.Delete(b, at, to)
		case 1:
			b = slices.Insert(b, at, byte(r.Intn(12)))
		case 2:
			b = slices.Insert(b, at, b[at:to]...)
		case 3:
			if at < len(b) {
				b[at] = byte(r.Intn(256))
			}
		case 4:
			if at < len(b) {
				b[at] += byte(r.Intn(3)) - 1
			}
		}
	}
	return b
}

// takeAll asks every Take what the chapter's words say of bytes, and counts those that took something.
func takeAll(t *testing.T, b []byte, took *[4]int) {
	t.Helper()
	for i, ok := range []bool{takeNumIs(t, b), takeTermIs(t, b), takeDeclIs(t, b), takeLibraryIs(t, b)} {
		if ok {
			took[i]++
		}
	}
}

// P1, P10.2, P10.3: bytes changed in encodings: what is still taken is what it is the encoding of.
func TestChangedBytes(t *testing.T) {
	r := rand.New(rand.NewSource(105))
	var took [4]int
	for range 8000 {
		x := plainTerm(drawn(r, 4, []int{0, 300, most - 200}[r.Intn(3)], 1+r.Intn(12)))
		d := plainDecl(drawnDecl(r, 6))
		l := plainLibrary([]api.Decl{drawnDecl(r, 4), drawnDecl(r, 4)}[:r.Intn(3)])
		for _, b := range [][]byte{x, d, l} {
			takeAll(t, b, &took)
			takeAll(t, changedBytes(r, b), &took)
		}
	}
	for i, least := range []int{1000, 10000, 9000, 9000} {
		if took[i] < least {
			t.Error(i, "only", took[i])
		}
	}
}

// P1, P10.2, P10.3: each byte in each place of the encodings of the samples.
func TestEachByte(t *testing.T) {
	var took [4]int
	encodings := [][]byte{plainLibrary(nil), plainLibrary([]api.Decl{knownDecls()[2].d, knownDecls()[6].d})}
	for _, b := range knownTerms() {
		encodings = append(encodings, b)
	}
	for _, b := range encodings {
		for at := range b {
			changed := slices.Concat(b, []byte{2, 2})
			for value := range 256 {
				changed[at] = byte(value)
				takeAll(t, changed, &took)
				takeAll(t, changed[:len(b)], &took)
			}
		}
	}
	if took[1] < 10000 || took[3] < 100 {
		t.Error(took)
	}
}

// P1, P10.2, P10.3: all short rows of bytes that say something, and no value taken of two of them.
func TestShortBytes(t *testing.T) {
	var took [4]int
	say := []byte{0, 1, 2, 4, 5, 6, 'a'}
	seen := map[string]string{}
	for code := range 7 * 7 * 7 * 7 * 7 * 7 {
		b := make([]byte, 6)
		for i := range b {
			b[i] = say[code%7]
			code /= 7
		}
		takeAll(t, b, &took)
		if x, rest, ok := TakeTerm(b); ok {
			text, taken := fmt.Sprint(x), string(b[:len(b)-len(rest)])
			if other, twice := seen[text]; twice && other != taken {
				t.Fatal(x, "is", taken, "and", other)
			}
			seen[text] = taken
		}
	}
	if took[0] < 1000 || took[1] < 1000 || took[2] == 0 || len(seen) < 100 {
		t.Error(took, len(seen))
	}
}

// P1: bytes drawn at random, many and few.
func TestAnyBytes(t *testing.T) {
	r := rand.New(rand.NewSource(106))
	var took [4]int
	for range 100000 {
		b := make([]byte, r.Intn(24))
		for i := range b {
			b[i] = byte(r.Intn(11))
			if r.Intn(8) == 0 {
				b[i] = byte(r.Intn(256))
			}
		}
		takeAll(t, b, &took)
	}
	for range 40 {
		b := make([]byte, r.Intn(1<<16))
		r.Read(b)
		takeAll(t, b, &took)
	}
	takeAll(t, nil, &took)
	if took[0] < 10000 || took[1] < 10000 {
		t.Error(took)
	}
}

package code

import (
	"bytes"
	"math"
	"slices"
	"strings"
	"testing"

	"imprimatur/api"
	"imprimatur/level"
	"imprimatur/term"
)

// noDecl asks that no declaration is taken.
func noDecl(t *testing.T, b []byte) {
	t.Helper()
	if d, rest, ok := TakeDecl(b); ok || !sameDecl(d, api.Decl{}) || len(rest) != 0 {
		t.Fatal(b, "got", d, rest, ok)
	}
}

// knownDecl is a declaration and its bytes, written out.
type knownDecl struct {
	d api.Decl
	b []byte
}

func knownDecls() []knownDecl {
	most32 := strings.Repeat("q", 32)
	u3 := level.Param(3, 1)
	var ctors []api.Ctor
	var ctorBytes []byte
	for _, s := range []string{"a", "b", "c", "d", "e", "f", "g", "h"} {
		ctors = append(ctors, api.Ctor{Name: s, Type: prop()})
		ctorBytes = append(ctorBytes, row(1, 1, s, 2)...)
	}
	return []knownDecl{
		{axiom("p", 0, prop()), row(1, 1, 1, "p", 0, 2)},
		{axiom(most32, 4, typ(u3)), row(1, 1, 32, most32, 4, 3, 1, 0, 0, 0, 2)},
		{def("d", 1, prop(), typ(level.Param(0, 0))), row(2, 1, 1, "d", 1, 2, 3, 0, 1, 0, 0, 0)},
		{def("d", 0, c("x"), prop()), row(2, 1, 1, "d", 0, 4, 1, 1, "x", 0, 2)},
		{opaque("t.u", 2, prop(), node(api.TLam, prop(), v(0))), row(3, 1, 3, "t.u", 2, 2, 6, 2, 1, 0)},
		{family("n", 0, prop(), 0), row(4, 1, 1, "n", 0, 2, 0, 0)},
		{family("n", 3, prop(), 16, api.Ctor{Name: "z", Type: c("n")}), row(4, 1, 1, "n", 3, 2, 16, 1, 1, 1, "z", 4, 1, 1, "n", 0)},
		{family("n", 4, prop(), 2, ctors...), row(4, 1, 1, "n", 4, 2, 2, 8, ctorBytes)},
	}
}

// P10.1, P10.2: each Kind of declaration, written out; every beginning, and bytes behind.
func TestDeclKnown(t *testing.T) {
	for _, x := range knownDecls() {
		got, ok := Decl(x.d)
		answers(t, x.d, got, ok, x.b, true)
		if !Formed(x.d) {
			t.Error(x.d)
		}
		for _, behind := range [][]byte{nil, {0}, {2}, {1, 1}, bytes.Repeat([]byte{255}, 300)} {
			d, rest, ok := TakeDecl(slices.Concat(x.b, behind))
			if !ok || !sameDecl(d, x.d) || !bytes.Equal(rest, behind) {
				t.Error(x.d, "got", d, rest, ok)
			}
		}
		for cut := range x.b {
			noDecl(t, x.b[:cut])
			noDecl(t, slices.Clone(x.b[:cut]))
		}
	}
}

// P10.1: each Kind with each other field as it may be and as it may not; what must be zero and is not.
func TestFormed(t *testing.T) {
	values := []api.Term{{}, prop(), {Levels: []api.Level{}, Args: []api.Term{}}, {N: 1}, {N: -1}, {Name: "a"}, {Levels: make([]api.Level, 1)}, {Args: make([]api.Term, 1)}, {Kind: api.TVar}}
	lists := [][]api.Ctor{nil, {}, {{Name: "c", Type: prop()}}, {{}}, slices.Repeat([]api.Ctor{{Name: "c", Type: prop()}}, 8), slices.Repeat([]api.Ctor{{Name: "c", Type: prop()}}, 9)}
	right := 0
	for _, kind := range []int{math.MinInt, -1, 0, 1, 2, 3, 4, 5, 6, 255, 256, 257, 260, math.MaxInt} {
		for _, params := range []int{math.MinInt, -1, 0, 1, 4, 5, 256, math.MaxInt} {
			for _, value := range values {
				for _, fixed := range []int{math.MinInt, -1, 0, 1, 16, 17, 256, math.MaxInt} {
					for _, ctors := range lists {
						d := api.Decl{Kind: kind, Params: params, Name: "a", Type: prop(), Value: value, Fixed: fixed, Ctors: ctors}
						declIs(t, d)
						if Formed(d) {
							right++
						}
					}
				}
			}
		}
	}
	// Of each Kind with 3 Params: an axiom's Value in 2 ways and its Ctors in 2; a definition's one Value; a family's 3 Fixed and 4 lists.
	if want := 3 * (2*2 + 2*1*2 + 2*3*4); right != want {
		t.Error(right, want)
	}
}

// P10.1: Params, Fixed and the number of Ctors from below the bounds to above them.
func TestDeclBounds(t *testing.T) {
	for n := -3; n < 300; n++ {
		for _, d := range sampleDecls()[:10] {
			d.Params = n
			declIs(t, d)
			d.Params = 4
			d.Fixed = n
			declIs(t, d)
			if got, want := Formed(d), n == 0 || d.Kind == api.DFamily && n > 0 && n <= 16; got != want {
				t.Error(d, got)
			}
			d.Fixed = 0
			d.Ctors = slices.Repeat([]api.Ctor{{Name: "c", Type: prop()}}, max(n, 0))
			declIs(t, d)
			d.Kind = n
			declIs(t, d)
		}
	}
	for _, count := range []int{9, 255, 256, 257, 264, 1 << 16} {
		d := family("n", 0, prop(), 0, slices.Repeat([]api.Ctor{{Name: "c", Type: prop()}}, count)...)
		if declIs(t, d); Formed(d) {
			t.Error(count)
		}
	}
}

// P10.1: names that are names and that are not, of a declaration and of each of its constructors.
func TestDeclNames(t *testing.T) {
	for _, s := range append(names(), noNames()...) {
		for _, d := range sampleDecls()[:10] {
			d.Name = s
			declIs(t, d)
			if Formed(d) != term.Word(s) {
				t.Errorf("%q", s)
			}
			takeDeclIs(t, plainDecl(d))
			d.Name = "a"
			for i := range d.Ctors {
				ctors := slices.Clone(d.Ctors)
				ctors[i].Name = s
				declIs(t, family("a", 4, prop(), 0, ctors...))
				takeDeclIs(t, plainDecl(family("a", 4, prop(), 0, ctors...)))
			}
		}
	}
}

// P10.1: terms that are valid for the Params and no variables, and some that are not, in the Type, in the Value and in each constructor's Type.
func TestDeclTerms(t *testing.T) {
	terms := append(samples()[:40], odd()...)
	for i := range 4 {
		terms = append(terms, typ(level.Param(i, 0)), node(api.TPi, prop(), node(api.TApp, v(0), c("a", level.Num(0), level.Param(i, 3)))))
	}
	for _, deep := range []int{0, 1, 2, 200, 201} {
		for n := deep - 2; n < deep+2; n++ {
			terms = append(terms, under(api.TLam, deep, v(n)), under(api.TLet, deep, v(n)))
		}
	}
	terms = append(terms, wide(2999), wide(3000), wide(3001), v(0), node(api.TLam, v(0), prop()), node(api.TLam, prop(), v(0)), node(api.TLam, prop(), v(1)))
	good := api.Ctor{Name: "c", Type: prop()}
	for _, x := range terms {
		for params := range 5 {
			for _, d := range []api.Decl{
				axiom("a", params, x), def("a", params, x, prop()), def("a", params, prop(), x), opaque("a", params, x, prop()), opaque("a", params, prop(), x), family("a", params, x, 0),
				family("a", params, prop(), 3, api.Ctor{Name: "b", Type: x}), family("a", params, prop(), 3, good, api.Ctor{Name: "b", Type: x}, good),
			} {
				declIs(t, d)
				if Formed(d) != term.Right(x, params, 0) {
					t.Fatal(d)
				}
				takeDeclIs(t, plainDecl(d))
			}
		}
	}
}

// P10.2: each byte in each place of the known declarations: what is still taken is what it is the encoding of.
func TestDeclBytes(t *testing.T) {
	took := 0
	for _, x := range knownDecls() {
		for at := range x.b {
			b := slices.Concat(x.b, []byte{2, 2, 0, 0})
			for value := range 256 {
				b[at] = byte(value)
				if takeDeclIs(t, b) {
					took++
				}
				takeDeclIs(t, b[:len(x.b)])
			}
		}
	}
	if took < 2000 {
		t.Error("only", took)
	}
}

// P10.1, P10.2: the largest declarations: each term as large as it may be, and one node larger.
func TestLargeDecl(t *testing.T) {
	big, over := wide(3000), wide(3001)
	d := family("n", 4, big, 16)
	for range 8 {
		d.Ctors = append(d.Ctors, api.Ctor{Name: "c", Type: big})
	}
	declIs(t, d)
	if !Formed(d) || !takeDeclIs(t, plainDecl(d)) {
		t.Error("large")
	}
	for i := range d.Ctors {
		d.Ctors[i].Type = over
		declIs(t, d)
		noDecl(t, plainDecl(d))
		d.Ctors[i].Type = big
	}
	d.Type = over
	noDecl(t, plainDecl(d))
	for _, x := range []api.Decl{def("d", 0, big, big), opaque("d", 0, big, big), def("d", 0, big, over), opaque("d", 0, over, big)} {
		declIs(t, x)
		takeDeclIs(t, plainDecl(x))
	}
	noDecl(t, row(2, 1, 1, "d", 0, bytes.Repeat([]byte{5}, 1<<20)))
}

// P10.1, P10.2: the samples, with every beginning of their bytes.
func TestDeclSamples(t *testing.T) {
	for _, d := range sampleDecls() {
		if declIs(t, d); !Formed(d) {
			t.Fatal(d)
		}
		b, _ := Decl(d)
		for cut := range b {
			noDecl(t, b[:cut])
		}
	}
}

package show

import (
	"fmt"
	"math"
	"math/rand"
	"slices"
	"strings"
	"testing"

	"imprimatur/api"
	"imprimatur/code"
	"imprimatur/level"
	"imprimatur/term"
)

// noDecl asks that a declaration has no text, and no list in which it is.
func noDecl(t *testing.T, d api.Decl) {
	t.Helper()
	if got, ok := Decl(d); ok || got != "" {
		t.Fatalf("%v got %v %q", d, ok, got)
	}
	if got, ok := Library([]api.Decl{d}); ok || got != "" {
		t.Fatalf("%v got %v %q", d, ok, got)
	}
}

// knownDecl is a declaration and its text, written out.
type knownDecl struct {
	text string
	d    api.Decl
}

func knownDecls() []knownDecl {
	p, n := prop(), c("n")
	long := strings.Repeat("q", 32)
	id := node(api.TPi, p, v(0))
	apply := app(n, v(0))
	eight, eightText := []api.Ctor{}, ""
	for i, s := range strings.Split("a b c d e f g h", " ") {
		eight = append(eight, api.Ctor{Name: s, Type: node(api.TPi, c("x0"), v(0))})
		eightText += []string{" with ", " | "}[min(i, 1)] + s + " : all (x1 : x0), x1"
	}
	return []knownDecl{
		{"axiom p : Prop;", axiom("p", 0, p)},
		{"axiom p @4 : all (x0 : Prop), x0;", axiom("p", 4, id)},
		{"axiom " + long + " @1 : Type u0;", axiom(long, 1, typ(level.Param(0, 0)))},
		{"axiom a.b : fun (x0 : Prop), x0;", axiom("a.b", 0, node(api.TLam, p, v(0)))},
		{"axiom a : n n;", axiom("a", 0, app(n, n))},
		{"def d : Prop := n;", def("d", 0, p, n)},
		{"def d @4 : Type (u3+2) := all (x0 : Prop), x0;", def("d", 4, typ(level.Param(3, 2)), id)},
		{"def d @2 : let x0 : Prop := n in x0 := let x0 : n := n in n x0;", def("d", 2, node(api.TLet, p, n, v(0)), node(api.TLet, n, n, apply))},
		{"theorem t : n := Prop;", opaque("t", 0, n, p)},
		{"theorem t @4 : all (x0 : Prop), x0 := fun (x0 : Prop), n x0;", opaque("t", 4, id, node(api.TLam, p, apply))},
		{"theorem t @3 : n n := n n (n n);", opaque("t", 3, app(n, n), app(n, n, app(n, n)))},
		{"family n of 0 : Prop;", family("n", 0, p, 0)},
		{"family n of 16 : all (x0 : Prop), x0;", family("n", 0, id, 16)},
		{"family n @4 of 0 : Type u3;", family("n", 4, typ(level.Param(3, 0)), 0)},
		{"family n @4 of 16 : Type (1 | u0);", family("n", 4, typ(lev(1, 0)), 16)},
		{"family n of 0 : Prop with z : n;", family("n", 0, p, 0, api.Ctor{Name: "z", Type: n})},
		{"family n @4 of 16 : Prop with n.z : all (x0 : Prop), x0;", family("n", 4, p, 16, api.Ctor{Name: "n.z", Type: id})},
		{"family n @1 of 1 : Type 0 with z : Type u0 | s : n n;", family("n", 1, typ(lev(0)), 1, api.Ctor{Name: "z", Type: typ(level.Param(0, 0))}, api.Ctor{Name: "s", Type: app(n, n)})},
		{"family n of 2 : Prop" + eightText + ";", family("n", 0, p, 2, eight...)},
		{"family n @3 of 10 : Prop" + eightText + ";", family("n", 3, p, 10, eight...)},
	}
}

// P13.1: each Kind of declaration, written out.
func TestDeclKnown(t *testing.T) {
	for _, x := range knownDecls() {
		got, ok := Decl(x.d)
		answers(t, x.d, got, ok, x.text, true)
		got, ok = Library([]api.Decl{x.d})
		answers(t, x.d, got, ok, x.text+"\n", true)
		if !declIs(t, x.d) || !libraryIs(t, []api.Decl{x.d}) {
			t.Error(x.text)
		}
	}
}

// P13.1: the names that occur in one term of a declaration, and its own names, are nothing to the binders of another.
func TestDeclBinders(t *testing.T) {
	taken, free := node(api.TLam, c("x0"), v(0)), node(api.TLam, prop(), v(0))
	for _, x := range []knownDecl{
		{"def x0 : fun (x1 : x0), x1 := fun (x0 : Prop), x0;", def("x0", 0, taken, free)},
		{"def x0 : fun (x0 : Prop), x0 := fun (x1 : x0), x1;", def("x0", 0, free, taken)},
		{"theorem x1 : fun (x1 : x0), x1 := fun (x0 : Prop), x0;", opaque("x1", 0, taken, free)},
		{"family x0 of 0 : fun (x0 : Prop), x0 with x0 : fun (x0 : Prop), x0 | x1 : fun (x1 : x0), x1 | x2 : fun (x0 : Prop), x0;", family("x0", 0, free, 0, api.Ctor{Name: "x0", Type: free}, api.Ctor{Name: "x1", Type: taken}, api.Ctor{Name: "x2", Type: free})},
		{"family n of 0 : fun (x1 : x0), x1 with x0 : fun (x0 : Prop), x0;", family("n", 0, taken, 0, api.Ctor{Name: "x0", Type: free})},
	} {
		got, ok := Decl(x.d)
		answers(t, x.d, got, ok, x.text, true)
		declIs(t, x.d)
	}
}

// P13.1: each Kind with each other field as it may be and as it may not; what must be zero and is not.
func TestFormed(t *testing.T) {
	values := []api.Term{{}, prop(), {Levels: []api.Level{}, Args: []api.Term{}}, {N: 1}, {N: -1}, {Name: "a"}, {Levels: make([]api.Level, 1)}, {Args: make([]api.Term, 1)}, {Kind: api.TVar}}
	lists := [][]api.Ctor{nil, {}, {{Name: "c", Type: prop()}}, {{}}, slices.Repeat([]api.Ctor{{Name: "c", Type: prop()}}, 8), slices.Repeat([]api.Ctor{{Name: "c", Type: prop()}}, 9)}
	texts := 0
	for _, kind := range []int{math.MinInt, -1, 0, 1, 2, 3, 4, 5, 6, 256, 257, 260, math.MaxInt} {
		for _, params := range []int{math.MinInt, -1, 0, 1, 4, 5, 256, math.MaxInt} {
			for _, value := range values {
				for _, fixed := range []int{math.MinInt, -1, 0, 1, 16, 17, 256, math.MaxInt} {
					for _, ctors := range lists {
						d := api.Decl{Kind: kind, Params: params, Name: "a", Type: prop(), Value: value, Fixed: fixed, Ctors: ctors}
						if declIs(t, d) {
							texts++
						} else {
							noDecl(t, d)
						}
					}
				}
			}
		}
	}
	// Of each Kind with 3 Params: an axiom's Value in 2 ways and its Ctors in 2; a definition's one Value; a family's 3 Fixed and 4 lists.
	if want := 3 * (2*2 + 2*1*2 + 2*3*4); texts != want {
		t.Error(texts, want)
	}
}

// P13.1: every number of Params, of Fixed and of constructors.
func TestDeclNumbers(t *testing.T) {
	for n := range 20 {
		params := ""
		if n > 0 {
			params = fmt.Sprint(" @", n)
		}
		for _, x := range []knownDecl{
			{"axiom a" + params + " : Prop;", axiom("a", n, prop())},
			{"def a" + params + " : Prop := Prop;", def("a", n, prop(), prop())},
			{"theorem a" + params + " : Prop := Prop;", opaque("a", n, prop(), prop())},
			{"family a" + params + " of 0 : Prop;", family("a", n, prop(), 0)},
		} {
			got, ok := Decl(x.d)
			if n > 4 {
				x.text = ""
			}
			answers(t, x.d, got, ok, x.text, n <= 4)
		}
		got, ok := Decl(family("a", 0, prop(), n))
		want := fmt.Sprint("family a of ", n, " : Prop;")
		if n > 16 {
			want = ""
		}
		answers(t, n, got, ok, want, n <= 16)
		d := family("a", 1, prop(), 2, slices.Repeat([]api.Ctor{{Name: "c", Type: c("x")}}, n)...)
		want = "family a @1 of 2 : Prop" + strings.Replace(strings.Repeat(" | c : x", n), "|", "with", 1) + ";"
		if n > 8 {
			want = ""
		}
		got, ok = Decl(d)
		answers(t, d, got, ok, want, n <= 8)
	}
	for _, count := range []int{9, 256, 257, 264, 1 << 16} {
		noDecl(t, family("n", 0, prop(), 0, slices.Repeat([]api.Ctor{{Name: "c", Type: prop()}}, count)...))
	}
}

// P13.1: names that are none, of a declaration and of each of its constructors.
func TestDeclNames(t *testing.T) {
	good := []string{"a", "Z", "a.b", "a_9", "x0", "x1", "nat.rec", "u4", "prop", strings.Repeat("q", 32), strings.Repeat("q.", 15) + "qq"}
	for _, s := range append(good, noNames()...) {
		for _, d := range sampleDecls()[:10] {
			d.Name = s
			if ok := declIs(t, d); ok != slices.Contains(good, s) {
				t.Errorf("%q", s)
			}
			d.Name = "a"
			for i := range d.Ctors {
				ctors := slices.Clone(d.Ctors)
				ctors[i].Name = s
				if ok := declIs(t, family("a", 4, prop(), 0, ctors...)); ok != slices.Contains(good, s) {
					t.Errorf("%q", s)
				}
			}
		}
	}
}

// P13.1: terms that are valid for the Params and no variables, and some that are not, in the Type, in the Value and in each constructor's Type.
func TestDeclTerms(t *testing.T) {
	terms := append(samples()[:40], odd()...)
	for i := range 4 {
		terms = append(terms, typ(level.Param(i, 0)), node(api.TPi, prop(), app(v(0), c("a", level.Num(0), level.Param(i, 3)))))
	}
	for _, deep := range []int{0, 1, 2, 200, 201} {
		for n := deep - 2; n < deep+2; n++ {
			terms = append(terms, under(api.TLam, deep, v(n)), under(api.TLet, deep, v(n)))
		}
	}
	terms = append(terms, wide(2999), wide(3000), wide(3001))
	good := api.Ctor{Name: "c", Type: prop()}
	for _, x := range terms {
		for params := range 5 {
			for _, d := range []api.Decl{
				axiom("a", params, x), def("a", params, x, prop()), def("a", params, prop(), x), opaque("a", params, x, prop()), opaque("a", params, prop(), x), family("a", params, x, 0),
				family("a", params, prop(), 3, api.Ctor{Name: "b", Type: x}), family("a", params, prop(), 3, good, api.Ctor{Name: "b", Type: x}, good),
			} {
				if ok := declIs(t, d); ok != term.Right(x, params, 0) {
					t.Fatal(d)
				}
			}
		}
	}
}

// P13.1: declarations drawn at random.
func TestDrawnDecls(t *testing.T) {
	r := rand.New(rand.NewSource(136))
	for i := range 3000 {
		if d := drawnDecl(r, 1+i%50); !declIs(t, d) {
			t.Fatal(d)
		}
	}
}

// P13.1: lists of no declaration, of one and of some, written out.
func TestLibraryKnown(t *testing.T) {
	list, want := []api.Decl{}, ""
	for _, none := range [][]api.Decl{nil, {}} {
		got, ok := Library(none)
		answers(t, none, got, ok, "", true)
	}
	for _, x := range knownDecls() {
		list, want = append(list, x.d), want+x.text+"\n"
		got, ok := Library(list)
		answers(t, list, got, ok, want, true)
		libraryIs(t, list)
	}
	// A name may be declared twice.
	got, ok := Library([]api.Decl{axiom("p", 0, prop()), axiom("p", 0, prop())})
	answers(t, "twice", got, ok, "axiom p : Prop;\naxiom p : Prop;\n", true)
}

// P13.1: each number of declarations up to above 64.
func TestLibrarySize(t *testing.T) {
	one := axiom("p", 0, prop())
	for count := range 200 {
		list := slices.Repeat([]api.Decl{one}, count)
		if ok := libraryIs(t, list); ok != (count <= 64) {
			t.Error(count)
		}
		got, ok := Library(list)
		want := strings.Repeat("axiom p : Prop;\n", count)
		if count > 64 {
			want = ""
		}
		answers(t, count, got, ok, want, count <= 64)
	}
	for _, count := range []int{65, 256, 320, 1 << 16, 1 << 20} {
		got, ok := Library(make([]api.Decl, count))
		answers(t, count, got, ok, "", false)
	}
}

// P13.1: one declaration that is not well formed, in each place of lists of each size.
func TestLibraryRefused(t *testing.T) {
	bad := []api.Decl{{}, axiom("fun", 0, prop()), axiom("a", 5, prop()), axiom("a", 0, v(0)), def("a", 0, prop(), api.Term{}), family("a", 0, prop(), 17), {Kind: 5, Name: "a", Type: prop()}, {Kind: api.DAxiom, Name: "a", Type: prop(), Value: prop()}}
	good := sampleDecls()
	for _, size := range []int{1, 2, 3, 8, 40, 64, 65} {
		for at := range size {
			for _, d := range bad {
				list := slices.Repeat(good[:1], size)
				copy(list, good)
				list[at] = d
				got, ok := Library(list)
				answers(t, list, got, ok, "", false)
			}
		}
	}
}

// P13.1, P13.3: libraries drawn at random: equal sources are those of equal lists.
func TestLibraryDrawn(t *testing.T) {
	r := rand.New(rand.NewSource(137))
	seen := map[string][]api.Decl{}
	for range 400 {
		var list []api.Decl
		for range r.Intn(8) * r.Intn(9) {
			list = append(list, drawnDecl(r, 6))
		}
		if !libraryIs(t, list) {
			t.Fatal(list)
		}
		text, _ := Library(list)
		if other, twice := seen[text]; twice && !slices.EqualFunc(list, other, sameDecl) {
			t.Fatal(list, other)
		}
		seen[text] = list
	}
	if list := sampleDecls(); !code.Formed(list[0]) || !libraryIs(t, append(list, list[:14]...)) || libraryIs(t, append(list, list[:15]...)) {
		t.Error("64 or 65 of the samples")
	}
}

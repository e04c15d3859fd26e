package move

import (
	"math/rand"
	"slices"
	"testing"

	"imprimatur/api"
	"imprimatur/level"
	"imprimatur/term"
)

// sameLocals: are two lists of locals one?
func sameLocals(a, b []Local) bool {
	return slices.EqualFunc(a, b, func(x, y Local) bool { return x.Name == y.Name && term.Same(x.Type, y.Type) })
}

// openIs asks for what a term is opened to.
func openIs(t *testing.T, x api.Term, kind int, names []string, body api.Term, types ...api.Term) {
	t.Helper()
	var locals []Local
	for i, name := range names {
		locals = append(locals, Local{name, types[i]})
	}
	l, b, ok := Open(x, kind, names...)
	if !ok || !sameLocals(l, locals) || !term.Same(b, body) {
		t.Fatal(x, kind, names, "locals", l, "body", b, ok)
	}
}

// noOpen asks for zero values.
func noOpen(t *testing.T, x api.Term, kind int, names ...string) {
	t.Helper()
	if l, b, ok := Open(x, kind, names...); ok || len(l) != 0 || !term.Same(b, api.Term{}) {
		t.Fatal(x, kind, names, "locals", l, "body", b, ok)
	}
}

// closeIs asks for what a body is closed to.
func closeIs(t *testing.T, want, body api.Term, kind int, locals ...Local) {
	t.Helper()
	got, ok := Close(body, kind, locals...)
	is(t, []any{body, kind, locals}, got, ok, want)
}

// noClose asks for none.
func noClose(t *testing.T, body api.Term, kind int, locals ...Local) {
	t.Helper()
	got, ok := Close(body, kind, locals...)
	none(t, []any{body, kind, locals}, got, ok)
}

// P9.4: Open with no, one and many names; types speak of earlier locals; what is behind the opened binders stays bound.
func TestOpenKnown(t *testing.T) {
	a, b := c("a"), c("b")
	for _, kind := range localKinds {
		other := api.TLam + api.TPi - kind
		x := node(kind, c("n"), node(kind, node(api.TApp, c("q"), v(0)), node(kind, term.App(c("q"), v(0), v(1), v(2)), term.App(v(0), v(1), v(2), v(3)))))
		openIs(t, x, kind, nil, x)
		openIs(t, x, kind, []string{"a"}, node(kind, node(api.TApp, c("q"), a), node(kind, term.App(c("q"), v(0), a, v(1)), term.App(v(0), v(1), a, v(2)))), c("n"))
		openIs(t, x, kind, []string{"a", "b"}, node(kind, term.App(c("q"), b, a, v(0)), term.App(v(0), b, a, v(1))), c("n"), node(api.TApp, c("q"), a))
		openIs(t, x, kind, []string{"b", "a"}, node(kind, term.App(c("q"), a, b, v(0)), term.App(v(0), a, b, v(1))), c("n"), node(api.TApp, c("q"), b))
		openIs(t, x, kind, []string{"a", "b", "d"}, term.App(c("d"), b, a, v(0)), c("n"), node(api.TApp, c("q"), a), term.App(c("q"), b, a, v(0)))
		noOpen(t, x, kind, "a", "b", "d", "e")
		openIs(t, x, other, nil, x)
		noOpen(t, x, other, "a")
		// The names of a term's own constants are names like others.
		openIs(t, x, kind, []string{"q", "n"}, node(kind, term.App(c("q"), c("n"), c("q"), v(0)), term.App(v(0), c("n"), c("q"), v(1))), c("n"), node(api.TApp, c("q"), c("q")))
		// Binders of other kinds end the ones that are opened.
		for _, kind2 := range []int{other, api.TLet} {
			y := node(kind, v(3), binder(kind2, v(0), node(kind, v(1), term.App(v(0), v(1), v(2)))))
			openIs(t, y, kind, []string{"a"}, binder(kind2, a, node(kind, a, term.App(v(0), v(1), a))), v(3))
			noOpen(t, y, kind, "a", "b")
			noOpen(t, binder(kind2, prop(), y), kind, "a")
		}
		noOpen(t, proj(0, "s", x), kind, "a")
		noOpen(t, node(api.TApp, x, x), kind, "a")
		for _, y := range []api.Term{prop(), v(3), a, node(api.TApp, x, x), proj(0, "s", x), typ(level.Num(2))} {
			openIs(t, y, kind, nil, y)
			noOpen(t, y, kind, "a")
		}
	}
}

// P9.4: names that are no names, two equal names, and kinds that are neither TLam nor TPi.
func TestOpenRefused(t *testing.T) {
	for _, kind := range localKinds {
		x := under(kind, 5, term.App(v(0), v(1)))
		for _, bad := range noNames() {
			noOpen(t, x, kind, bad)
			noOpen(t, x, kind, "a", bad)
			noOpen(t, x, kind, bad, "a")
			noOpen(t, x, kind, "a", "b", bad, "d")
		}
		noOpen(t, x, kind, "a", "a")
		noOpen(t, x, kind, "a", "b", "a")
		noOpen(t, x, kind, "b", "a", "a")
		noOpen(t, x, kind, "a", "b", "d", "e", "a")
		if _, _, ok := Open(x, kind, "a", "A", "aa", "a.a", "a0"); !ok {
			t.Error("refused")
		}
		for _, y := range odd() {
			noOpen(t, y, kind)
			noOpen(t, y, kind, "a")
			noOpen(t, node(kind, y, prop()), kind)
			noOpen(t, node(kind, y, prop()), kind, "a")
			// Inside a binder there is one variable more.
			if z := node(kind, prop(), y); !isValid(z) {
				noOpen(t, z, kind)
				noOpen(t, z, kind, "a")
				noOpen(t, node(kind, z, prop()), kind, "a")
			}
		}
	}
	for _, kind := range otherKinds {
		for _, y := range []api.Term{prop(), v(0), node(api.TApp, prop(), prop()), node(api.TLet, prop(), prop(), v(0)), under(api.TLam, 3, v(0)), under(api.TPi, 3, v(0)), proj(0, "s", prop())} {
			noOpen(t, y, kind)
			noOpen(t, y, kind, "a")
			noOpen(t, y, kind, "a", "b")
		}
	}
}

// someNames: n names, no two equal.
func someNames(n int) []string {
	var names []string
	for i := range n {
		names = append(names, "x"+string([]byte{byte('a' + i/26), byte('a' + i%26)}))
	}
	return names
}

// P9.4: 200 binders, all of them opened, some, and one more than there are; variables at the greatest index.
func TestOpenEdges(t *testing.T) {
	names := someNames(201)
	for _, kind := range localKinds {
		x := node(api.TApp, v(0), v(199))
		want := node(api.TApp, c(names[199]), c(names[0]))
		var types []api.Term
		for i := 199; i >= 0; i-- {
			if i == 0 {
				x = node(kind, prop(), x)
			} else {
				x = node(kind, node(api.TApp, v(0), v(i-1)), x)
			}
		}
		types = append(types, prop())
		for i := 1; i < 200; i++ {
			types = append(types, node(api.TApp, c(names[i-1]), c(names[0])))
		}
		openIs(t, x, kind, names[:200], want, types...)
		noOpen(t, x, kind, names...)
		back, ok := Close(want, kind, localsOf(names[:200], types)...)
		is(t, kind, back, ok, x)
		for _, n := range []int{0, 1, 2, 199} {
			l, body, ok := Open(x, kind, names[:n]...)
			if !ok || len(l) != n {
				t.Fatal(n)
			}
			closeIs(t, x, body, kind, l...)
		}
		// A variable may be the greatest there is, seen from outside.
		far := node(kind, v(most-1), node(kind, v(most), term.App(v(0), v(1), v(2), v(most), v(most+1))))
		openIs(t, far, kind, []string{"a", "b"}, term.App(c("b"), c("a"), v(0), v(most-2), v(most-1)), v(most-1), v(most-1))
		openIs(t, far, kind, []string{"a"}, node(kind, v(most-1), term.App(v(0), c("a"), v(1), v(most-1), v(most))), v(most-1))
		noOpen(t, node(kind, v(most-1), node(kind, v(most+1), prop())), kind, "a")
		noOpen(t, node(kind, v(most-1), node(kind, v(most), v(most+2))), kind, "a", "b")
		big := node(kind, wide(1499), wide(1500))
		l, body, ok := Open(big, kind, "a")
		if !ok || term.Nodes(body) != 1500 || !term.Same(l[0].Type, wide(1499)) || term.Uses(body, 0) != term.Uses(wide(1500), 1) {
			t.Error(ok)
		}
		closeIs(t, big, body, kind, l...)
	}
}

// localsOf: locals of names and types.
func localsOf(names []string, types []api.Term) []Local {
	var locals []Local
	for i, name := range names {
		locals = append(locals, Local{name, types[i]})
	}
	return locals
}

// P9.4: Close of none, one and many locals: each constant is pulled in the body and in the types of the later locals, and in no other.
func TestCloseKnown(t *testing.T) {
	a, b := c("a"), c("b")
	body := term.App(c("f"), a, b, v(0), c("a", level.Num(0)), proj(0, "a", a), v(4))
	leveled := c("a", level.Num(0))
	for _, kind := range localKinds {
		closeIs(t, body, body, kind)
		closeIs(t, node(kind, prop(), term.App(c("f"), v(0), b, v(1), leveled, proj(0, "a", v(0)), v(5))), body, kind, Local{"a", prop()})
		closeIs(t, node(kind, v(0), node(kind, node(api.TApp, v(0), v(3)), term.App(c("f"), v(1), v(0), v(2), leveled, proj(0, "a", v(1)), v(6)))), body, kind, Local{"a", v(0)}, Local{"b", node(api.TApp, a, v(2))})
		closeIs(t, node(kind, v(0), node(kind, node(api.TApp, a, v(3)), term.App(c("f"), v(0), v(1), v(2), leveled, proj(0, "a", v(0)), v(6)))), body, kind, Local{"b", v(0)}, Local{"a", node(api.TApp, a, v(2))})
		// A type speaks of the locals ahead of its own, and not of itself and of the later ones.
		types := term.App(a, b, c("d"))
		closeIs(t, node(kind, term.App(a, b, c("d")), node(kind, term.App(v(0), b, c("d")), node(kind, term.App(v(1), v(0), c("d")), term.App(v(2), v(1), v(0))))), types, kind, Local{"a", types}, Local{"b", types}, Local{"d", types})
		// Under binders within the body and within a type.
		inner := node(api.TLet, a, b, node(api.TLam, a, term.App(v(0), v(1), v(2), a, b)))
		closeIs(t, node(kind, prop(), node(kind, node(api.TLet, v(0), b, node(api.TLam, v(1), term.App(v(0), v(1), v(3), v(2), b))), node(api.TLet, v(1), v(0), node(api.TLam, v(2), term.App(v(0), v(1), v(4), v(3), v(2)))))), inner, kind, Local{"a", prop()}, Local{"b", inner})
		// Names that do not occur still bind.
		closeIs(t, node(kind, v(1), node(kind, v(3), node(api.TApp, v(2), v(5)))), node(api.TApp, v(0), v(3)), kind, Local{"y", v(1)}, Local{"z", v(2)})
	}
}

// P9.4: locals whose names are no names bind and are pulled nowhere; of equal names, the first is pulled, as Pull does it.
func TestCloseNames(t *testing.T) {
	a := c("a")
	for _, kind := range localKinds {
		for _, s := range noNames() {
			closeIs(t, node(kind, prop(), node(api.TApp, a, v(1))), node(api.TApp, a, v(0)), kind, Local{s, prop()})
			closeIs(t, node(kind, prop(), node(kind, a, node(kind, v(0), node(api.TApp, v(1), v(3))))), node(api.TApp, a, v(0)), kind, Local{s, prop()}, Local{"a", a}, Local{s, a})
		}
		closeIs(t, node(kind, a, node(kind, v(0), v(1))), a, kind, Local{"a", a}, Local{"a", a})
		closeIs(t, node(kind, a, node(kind, v(0), node(kind, v(1), node(kind, v(2), node(api.TApp, v(3), v(2)))))), node(api.TApp, a, c("b")), kind, Local{"a", a}, Local{"b", a}, Local{"a", a}, Local{"b", a})
	}
}

// P9.4: kinds that are neither TLam nor TPi, bodies and types that are not valid.
func TestCloseRefused(t *testing.T) {
	for _, kind := range otherKinds {
		noClose(t, c("a"), kind)
		noClose(t, c("a"), kind, Local{"a", prop()})
		noClose(t, c("a"), kind, Local{"a", prop()}, Local{"b", prop()})
	}
	for _, kind := range localKinds {
		for _, x := range odd() {
			noClose(t, x, kind)
			noClose(t, x, kind, Local{"a", prop()})
			noClose(t, c("a"), kind, Local{"a", x})
			noClose(t, c("a"), kind, Local{"a", prop()}, Local{"b", x})
			noClose(t, c("a"), kind, Local{"a", x}, Local{"b", prop()})
		}
		noClose(t, c("a"), kind, Local{})
		noClose(t, c("a"), kind, Local{Name: "a"})
	}
}

// P9.4: results at the edges of what is valid: nested binders, nodes, variables.
func TestCloseEdges(t *testing.T) {
	names := someNames(260)
	types := slices.Repeat([]api.Term{prop()}, 260)
	locals := localsOf(names, types)
	for _, kind := range localKinds {
		for _, inner := range binders {
			for _, n := range []int{0, 1, 100, 199, 200, 201, 202, 260} {
				for _, deep := range []int{0, 1, 99, 100, 101, 199, 200} {
					got, ok := Close(under(inner, deep, c(names[0])), kind, locals[:n]...)
					as(t, []any{kind, inner, n, deep}, got, ok, under(kind, n, under(inner, deep, firstOf(n, deep, names))), n+deep <= 200)
				}
			}
			// In a type, the binders of the earlier locals are around, and its own is not.
			for _, deep := range []int{198, 199, 200} {
				part := under(inner, deep, c("free"))
				got, ok := Close(prop(), kind, locals[0], Local{"b", part}, locals[2])
				as(t, []any{kind, inner, deep}, got, ok, node(kind, prop(), node(kind, part, node(kind, prop(), prop()))), deep <= 199)
			}
		}
		for _, n := range []int{2990, 2991, 2992, 2993, 2994, 2995, 2996, 2997, 2998} {
			got, ok := Close(term.App(c("a"), c("b")), kind, Local{"a", wide(n)}, Local{"b", c("a")})
			as(t, []any{kind, n}, got, ok, node(kind, wide(n), node(kind, v(0), node(api.TApp, v(1), v(0)))), n+6 <= 3000)
			got, ok = Close(c("b"), kind, Local{"a", prop()}, Local{"b", under(api.TLam, 20, wide(n-40))})
			as(t, []any{kind, n}, got, ok, node(kind, prop(), node(kind, shiftedTerm(under(api.TLam, 20, wide(n-40))), v(0))), n+4 <= 3000)
		}
		for _, over := range []int{0, 1, 2} {
			far := v(most - 1 - over)
			// The variables are as far from outside as before.
			closeIs(t, node(kind, far, node(kind, v(far.N+1), node(api.TApp, v(far.N+2), v(1)))), node(api.TApp, far, c("a")), kind, Local{"a", far}, Local{"b", far})
		}
		noClose(t, v(most), kind, Local{"a", prop()})
		noClose(t, c("a"), kind, Local{"a", prop()}, Local{"b", v(most)})
	}
}

// firstOf: what the constant of the first name becomes inside n locals and more binders.
func firstOf(n, deep int, names []string) api.Term {
	if n == 0 {
		return c(names[0])
	}
	return v(n - 1 + deep)
}

// shiftedTerm: a term inside one more binder.
func shiftedTerm(x api.Term) api.Term { return tight(loose(x, 0), 1) }

// P1, P9.4: many more locals than there may be.
func TestCloseMany(t *testing.T) {
	for _, n := range []int{1000, 50000} {
		var locals []Local
		for i := range n {
			locals = append(locals, Local{someNames(1)[0] + string([]byte{byte('a' + i%26)}), c("a")})
		}
		noClose(t, c("a"), api.TPi, locals...)
		noClose(t, api.Term{}, api.TPi, locals...)
		names := slices.Repeat([]string{"a"}, n)
		noOpen(t, under(api.TPi, 3, v(0)), api.TPi, names...)
	}
}

// P9.4: terms drawn at random, against the chapter's words.
func TestLocalsDrawn(t *testing.T) {
	r := rand.New(rand.NewSource(97))
	names := append(slices.Clone(drawnNames), "x", "y", "z", "y.z", "fun", "")
	opens, closes := 0, 0
	for range 20000 {
		kind := append(localKinds, api.TLet)[min(r.Intn(12)/5, 2)]
		x := drawn(r, 4, r.Intn(5), 1+r.Intn(20))
		for range r.Intn(4) {
			x = node(localKinds[min(r.Intn(8), 1)], drawn(r, 4, 3, 1+r.Intn(6)), x)
		}
		var some []string
		for range r.Intn(4) {
			some = append(some, names[r.Intn(len(names))])
		}
		l, b, ok := Open(x, kind, some...)
		wantL, wantB, wantOK := plainOpen(x, kind, some...)
		if ok != wantOK || !sameLocals(l, wantL) || !term.Same(b, wantB) {
			t.Fatal(x, kind, some, l, b, ok)
		}
		if ok && len(some) > 0 {
			opens++
		}
		for range r.Intn(3) {
			l = append(l, Local{names[r.Intn(len(names))], drawn(r, 4, 4, 1+r.Intn(8))})
		}
		r.Shuffle(len(l), func(i, j int) { l[i], l[j] = l[j], l[i] })
		got, ok := Close(x, kind, l...)
		want, wantOK := plainClose(x, kind, l...)
		as(t, []any{x, kind, l}, got, ok, want, wantOK)
		if ok && len(l) > 0 {
			closes++
		}
	}
	if opens < 1500 || closes < 8000 {
		t.Error(opens, closes)
	}
}

// P9.5: opened with names that do not occur, and closed again.
func TestOpenedAndClosed(t *testing.T) {
	r := rand.New(rand.NewSource(98))
	free := []string{"x", "y.z", "a.a", "B", "x1"}
	opened := 0
	list := samples()
	for range 5000 {
		x := drawn(r, 4, r.Intn(5), 1+r.Intn(20))
		for range r.Intn(5) {
			x = node(localKinds[min(r.Intn(8), 1)], drawn(r, 4, 3, 1+r.Intn(6)), x)
		}
		list = append(list, x)
	}
	for _, x := range list {
		for _, kind := range localKinds {
			for n := range len(free) + 1 {
				l, b, ok := Open(x, kind, free[:n]...)
				types, _ := term.Strip(x, kind)
				if ok != (n <= len(types)) {
					t.Fatal(x, kind, n)
				}
				if ok {
					closeIs(t, x, b, kind, l...)
					opened++
				}
			}
		}
	}
	if opened < 10000 {
		t.Error(opened)
	}
}

// P9.5: opened with names that occur, and closed again: what was a constant of that name is bound as well.
func TestOpenedAndClosedOccurring(t *testing.T) {
	for _, kind := range localKinds {
		x := node(kind, c("a"), node(kind, term.App(c("a"), v(0)), term.App(c("a"), c("b"), v(0), v(1), proj(0, "a", v(1)))))
		l, b, ok := Open(x, kind, "a", "b")
		if !ok {
			t.Fatal(x)
		}
		closeIs(t, node(kind, c("a"), node(kind, term.App(v(0), v(0)), term.App(v(1), v(0), v(0), v(1), proj(0, "a", v(1))))), b, kind, l...)
		l, b, ok = Open(x, kind, "b", "d")
		if !ok {
			t.Fatal(x)
		}
		closeIs(t, node(kind, c("a"), node(kind, term.App(c("a"), v(0)), term.App(c("a"), v(1), v(0), v(1), proj(0, "a", v(1))))), b, kind, l...)
		// Constants with levels, and projections, of those names are no such constants.
		y := node(kind, c("a", level.Num(1)), proj(1, "b", v(0)))
		l, b, ok = Open(y, kind, "a")
		if !ok {
			t.Fatal(y)
		}
		closeIs(t, y, b, kind, l...)
		l, b, ok = Open(y, kind, "b")
		if !ok {
			t.Fatal(y)
		}
		closeIs(t, y, b, kind, l...)
	}
}

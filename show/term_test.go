package show

import (
	"fmt"
	"math/rand"
	"strings"
	"testing"

	"imprimatur/api"
	"imprimatur/level"
	"imprimatur/term"
)

// textIs asks for a term's text, written out.
func textIs(t *testing.T, want string, x api.Term) {
	t.Helper()
	got, ok := Term(x)
	answers(t, x, got, ok, want, true)
	termIs(t, x)
}

// shape is a term with a hole: what it is around another term, and around that one's text where so many binders are around the whole. No constant in it has a name that a binder might have.
type shape struct {
	term func(hole api.Term) api.Term
	text func(hole string, deep int) string
	atom bool // the hole is the place of an atom
	head bool // the hole is the head of an application
	more int  // how many binders the hole is inside
	app  bool // the whole is an application
	open bool // the whole, as an atom, stands in brackets
}

// xn: the name of the binder that has so many around it.
func xn(n int) string { return "x" + fmt.Sprint(n) }

func shapes() []shape {
	a, b := c("a"), c("b")
	return []shape{
		{term: func(h api.Term) api.Term { return node(api.TApp, h, a) }, text: func(h string, n int) string { return h + " a" }, atom: true, head: true, app: true, open: true},
		{term: func(h api.Term) api.Term { return node(api.TApp, a, h) }, text: func(h string, n int) string { return "a " + h }, atom: true, app: true, open: true},
		{term: func(h api.Term) api.Term { return node(api.TLam, h, a) }, text: func(h string, n int) string { return "fun (" + xn(n) + " : " + h + "), a" }, open: true},
		{term: func(h api.Term) api.Term { return node(api.TLam, a, h) }, text: func(h string, n int) string { return "fun (" + xn(n) + " : a), " + h }, more: 1, open: true},
		{term: func(h api.Term) api.Term { return node(api.TPi, h, a) }, text: func(h string, n int) string { return "all (" + xn(n) + " : " + h + "), a" }, open: true},
		{term: func(h api.Term) api.Term { return node(api.TPi, a, h) }, text: func(h string, n int) string { return "all (" + xn(n) + " : a), " + h }, more: 1, open: true},
		{term: func(h api.Term) api.Term { return node(api.TLet, h, a, b) }, text: func(h string, n int) string { return "let " + xn(n) + " : " + h + " := a in b" }, open: true},
		{term: func(h api.Term) api.Term { return node(api.TLet, a, h, b) }, text: func(h string, n int) string { return "let " + xn(n) + " : a := " + h + " in b" }, open: true},
		{term: func(h api.Term) api.Term { return node(api.TLet, a, b, h) }, text: func(h string, n int) string { return "let " + xn(n) + " : a := b in " + h }, more: 1, open: true},
		{term: func(h api.Term) api.Term { return proj(7, "s", h) }, text: func(h string, n int) string { return "[7 of s " + h + "]" }, atom: true},
	}
}

// leaf is a term without a hole, and its text where so many binders are around it; "" where it has none.
type leaf struct {
	term api.Term
	text func(deep int) string
}

func leaves() []leaf {
	always := func(x api.Term, text string) leaf { return leaf{x, func(int) string { return text }} }
	list := []leaf{
		always(prop(), "Prop"), always(typ(level.Num(3)), "Type 3"), always(typ(level.Param(2, 0)), "Type u2"), always(typ(level.Param(2, 1)), "Type (u2+1)"), always(typ(lev(3, 0)), "Type (3 | u0)"),
		always(c("c"), "c"), always(c("c", level.Num(0)), "c{0}"), always(c("c", level.Num(0), lev(3, -1, 3), lev(2, 0, 1)), "c{0, u1+3, 2 | u0 | u1+1}"),
	}
	for n := range 4 {
		list = append(list, leaf{v(n), func(deep int) string {
			if n >= deep {
				return ""
			}
			return xn(deep - 1 - n)
		}})
	}
	return list
}

// filled: the text of shapes inside each other, from the outermost one on, around a leaf, where so many binders are around; "" where there is none.
func filled(list []shape, l leaf, deep int) string {
	if len(list) == 0 {
		return l.text(deep)
	}
	outer := list[0]
	text := filled(list[1:], l, deep+outer.more)
	if text == "" {
		return ""
	}
	if len(list) > 1 && outer.atom && list[1].open && !(outer.head && list[1].app) {
		text = "(" + text + ")"
	}
	return outer.text(text, deep)
}

// P13.1: every kind of term inside every other, in each of its places, up to three around a leaf: brackets where an atom needs them and nowhere else, the names of binders by their depth, and no text where nothing binds a variable.
func TestKindsInsideKinds(t *testing.T) {
	texts, none := 0, 0
	check := func(l leaf, list ...shape) {
		x := l.term
		for i := len(list) - 1; i >= 0; i-- {
			x = list[i].term(x)
		}
		want := filled(list, l, 0)
		got, ok := Term(x)
		answers(t, x, got, ok, want, want != "")
		if termIs(t, x) {
			texts++
		} else {
			none++
		}
	}
	for _, l := range leaves() {
		check(l)
		for _, s1 := range shapes() {
			check(l, s1)
			for _, s2 := range shapes() {
				check(l, s1, s2)
				for _, s3 := range shapes() {
					check(l, s1, s2, s3)
				}
			}
		}
	}
	if texts < 9000 || none < 3000 {
		t.Error(texts, none)
	}
}

// P13.1: two terms in each two places of one kind.
func TestPairs(t *testing.T) {
	a := c("a")
	parts := []struct {
		term  api.Term
		plain string // the text, where one binder is around
		atom  string
	}{
		{prop(), "Prop", "Prop"}, {typ(level.Param(0, 1)), "Type (u0+1)", "Type (u0+1)"}, {a, "a", "a"}, {v(0), "x0", "x0"}, {c("c", level.Num(1), level.Num(2)), "c{1, 2}", "c{1, 2}"},
		{app(a, v(0)), "a x0", "(a x0)"}, {node(api.TLam, a, v(0)), "fun (x1 : a), x1", "(fun (x1 : a), x1)"}, {node(api.TPi, a, v(1)), "all (x1 : a), x0", "(all (x1 : a), x0)"},
		{node(api.TLet, a, v(0), v(0)), "let x1 : a := x0 in x1", "(let x1 : a := x0 in x1)"}, {proj(31, "s", v(0)), "[31 of s x0]", "[31 of s x0]"},
	}
	for _, p := range parts {
		textIs(t, "fun (x0 : Prop), [0 of s "+p.atom+"]", node(api.TLam, prop(), proj(0, "s", p.term)))
		for _, q := range parts {
			in := func(x api.Term) api.Term { return node(api.TPi, prop(), x) }
			head := p.atom
			if p.term.Kind == api.TApp {
				head = p.plain
			}
			textIs(t, "all (x0 : Prop), "+head+" "+q.atom, in(node(api.TApp, p.term, q.term)))
			textIs(t, "all (x0 : Prop), a "+p.atom+" "+q.atom, in(app(a, p.term, q.term)))
			textIs(t, "all (x0 : Prop), a ("+head+" "+q.atom+")", in(app(a, app(p.term, q.term))))
			textIs(t, "all (x0 : Prop), "+head+" "+q.atom+" "+p.atom+" "+q.atom, in(app(p.term, q.term, p.term, q.term)))
			textIs(t, "all (x0 : Prop), let x1 : "+p.plain+" := "+q.plain+" in a", in(node(api.TLet, p.term, q.term, a)))
			textIs(t, "all (x0 : Prop), let x1 : "+p.plain+" := "+q.plain+" in a (x1 x0)", in(node(api.TLet, p.term, q.term, app(a, app(v(0), v(1))))))
		}
	}
}

// P13.1: an application's head and all its arguments.
func TestApplications(t *testing.T) {
	a, b, f := c("a"), c("b"), c("f")
	lam := node(api.TLam, a, v(0))
	textIs(t, "f a", app(f, a))
	textIs(t, "f a b", app(f, a, b))
	textIs(t, "f a b", app(app(f, a), b))
	textIs(t, "f (a b)", app(f, app(a, b)))
	textIs(t, "f (a b) (b a) a", app(f, app(a, b), app(b, a), a))
	textIs(t, "f (f (f (f a)))", app(f, app(f, app(f, app(f, a)))))
	textIs(t, "f (f (f a b) b) b", app(f, app(f, app(f, a, b), b), b))
	textIs(t, "(fun (x0 : a), x0) b", app(lam, b))
	textIs(t, "(fun (x0 : a), x0) b (fun (x0 : a), x0) f", app(lam, b, lam, f))
	textIs(t, "(fun (x0 : a), x0) (fun (x0 : a), x0)", app(lam, lam))
	textIs(t, "(all (x0 : a), x0 b) b a", app(node(api.TPi, a, app(v(0), b)), b, a))
	textIs(t, "(let x0 : a := b in x0 x0) b a", app(node(api.TLet, a, b, app(v(0), v(0))), b, a))
	textIs(t, "[0 of s f] b", app(proj(0, "s", f), b))
	textIs(t, "[0 of s (f a)] b a b", app(proj(0, "s", app(f, a)), b, a, b))
	textIs(t, "[0 of s [1 of t [2 of s (fun (x0 : a), x0)]]] [3 of s Prop]", app(proj(0, "s", proj(1, "t", proj(2, "s", lam))), proj(3, "s", prop())))
	textIs(t, "Prop Prop (Prop Prop) Type 0 Type (u0+1) f{0} f", app(prop(), prop(), app(prop(), prop()), typ(level.Num(0)), typ(level.Param(0, 1)), c("f", level.Num(0)), f))
	textIs(t, "f"+strings.Repeat(" a", 1499), app(f, many(a, 1499)...))
	textIs(t, "(fun (x0 : a), x0)"+strings.Repeat(" (a b)", 700), app(lam, many(app(a, b), 700)...))
	textIs(t, strings.Repeat("f (", 1498)+"f a"+strings.Repeat(")", 1498), nested(f, a, 1499))
}

func many(x api.Term, n int) []api.Term {
	list := make([]api.Term, n)
	for i := range list {
		list[i] = x
	}
	return list
}

// nested: f of f of .. of a, so many of them.
func nested(f, a api.Term, n int) api.Term {
	for range n {
		a = node(api.TApp, f, a)
	}
	return a
}

// P13.1: the names of binders inside one another and side by side, used and not.
func TestBinderNames(t *testing.T) {
	p, f := prop(), c("f")
	id := func(kind int) api.Term { return node(kind, p, v(0)) }
	textIs(t, "all (x0 : Prop), all (x1 : x0), x0", node(api.TPi, p, node(api.TPi, v(0), v(1))))
	textIs(t, "fun (x0 : Prop), fun (x1 : Prop), fun (x2 : Prop), f x2 x1 x0", under(api.TLam, 3, app(f, v(0), v(1), v(2))))
	textIs(t, "all (x0 : Prop), all (x1 : Prop), Prop", under(api.TPi, 2, p))
	textIs(t, "fun (x0 : Prop), f (fun (x1 : Prop), x1) (all (x1 : Prop), x1) x0", node(api.TLam, p, app(f, id(api.TLam), id(api.TPi), v(0))))
	textIs(t, "f (fun (x0 : Prop), x0) (all (x0 : Prop), x0)", app(f, id(api.TLam), id(api.TPi)))
	textIs(t, "fun (x0 : all (x0 : Prop), x0), x0", node(api.TLam, id(api.TPi), v(0)))
	textIs(t, "fun (x0 : all (x0 : all (x0 : Prop), x0), x0), all (x1 : all (x1 : x0), x1), x1", node(api.TLam, node(api.TPi, id(api.TPi), v(0)), node(api.TPi, node(api.TPi, v(0), v(0)), v(0))))
	textIs(t, "let x0 : all (x0 : Prop), x0 := fun (x0 : Prop), x0 in fun (x1 : x0), x0", node(api.TLet, id(api.TPi), id(api.TLam), node(api.TLam, v(0), v(1))))
	textIs(t, "let x0 : let x0 : Prop := f in x0 := let x0 : f := Prop in let x1 : x0 := f in x0 in x0", node(api.TLet, node(api.TLet, p, f, v(0)), node(api.TLet, f, p, node(api.TLet, v(0), f, v(1))), v(0)))
	textIs(t, "let x0 : Prop := f in let x1 : x0 := x0 in let x2 : x1 := x0 in f x2 x1 x0", node(api.TLet, p, f, node(api.TLet, v(0), v(0), node(api.TLet, v(0), v(1), app(f, v(0), v(1), v(2))))))
	textIs(t, "[0 of s (fun (x0 : Prop), [1 of s (fun (x1 : x0), x0)])]", proj(0, "s", node(api.TLam, p, proj(1, "s", node(api.TLam, v(0), v(1))))))
}

// P13.1: a binder has no name that occurs in the term: within its body, in its type, ahead of it, behind it, as a projection's family.
func TestNamesThatOccur(t *testing.T) {
	p := prop()
	textIs(t, "fun (x1 : Prop), x0", node(api.TLam, p, c("x0")))
	textIs(t, "fun (x1 : Prop), x1 x0", node(api.TLam, p, app(v(0), c("x0"))))
	textIs(t, "fun (x1 : x0), x1", node(api.TLam, c("x0"), v(0)))
	textIs(t, "x0 (fun (x1 : Prop), x1)", app(c("x0"), node(api.TLam, p, v(0))))
	textIs(t, "(fun (x1 : Prop), x1) x0", app(node(api.TLam, p, v(0)), c("x0")))
	textIs(t, "fun (x0 : Prop), x1", node(api.TLam, p, c("x1")))
	textIs(t, "fun (x0 : Prop), all (x2 : x1), x0 x2", node(api.TLam, p, node(api.TPi, c("x1"), app(v(1), v(0)))))
	textIs(t, "fun (x1 : Prop), all (x3 : x2), x1 x3 x0", node(api.TLam, p, node(api.TPi, c("x2"), app(v(1), v(0), c("x0")))))
	textIs(t, "let x2 : x0 := x1 in let x4 : x2 := x3 in x4", node(api.TLet, c("x0"), c("x1"), node(api.TLet, v(0), c("x3"), v(0))))
	textIs(t, "fun (x1 : Prop), x0{0}", node(api.TLam, p, c("x0", level.Num(0))))
	textIs(t, "fun (x1 : Prop), [0 of x0 x1]", node(api.TLam, p, proj(0, "x0", v(0))))
	textIs(t, "[0 of x0 (fun (x1 : Prop), x1)]", proj(0, "x0", node(api.TLam, p, v(0))))
	textIs(t, "[0 of x1 (fun (x2 : x0), x2)] (all (x2 : Prop), Prop)", app(proj(0, "x1", node(api.TLam, c("x0"), v(0))), node(api.TPi, p, p)))
	for _, name := range []string{"x", "X0", "x00", "x01", "x0_", "x0.x", "x.x0", "xx0", "x0a", "y0", "a.x0"} {
		textIs(t, "fun (x0 : "+name+"), x0", node(api.TLam, c(name), v(0)))
		textIs(t, "fun (x0 : Prop), [0 of "+name+" x0]", node(api.TLam, p, proj(0, name, v(0))))
	}
	ten := under(api.TPi, 12, app(v(11), v(2), v(1), v(0), c("x10")))
	textIs(t, "all (x0 : Prop), all (x1 : Prop), all (x2 : Prop), all (x3 : Prop), all (x4 : Prop), all (x5 : Prop), all (x6 : Prop), all (x7 : Prop), all (x8 : Prop), all (x9 : Prop), all (x11 : Prop), all (x12 : Prop), x0 x9 x11 x12 x10", ten)
	textIs(t, "fun (x2 : x0), fun (x3 : x1), x2", node(api.TLam, c("x0"), node(api.TLam, c("x1"), v(1))))
}

// P13.1: each choice of the names x0 to x11 as constants of a term, in each of some places.
func TestNamesChosen(t *testing.T) {
	places := []func(kind int, name string, x api.Term) api.Term{
		func(kind int, name string, x api.Term) api.Term { return app(c(name), x) },
		func(kind int, name string, x api.Term) api.Term { return app(x, c(name)) },
		func(kind int, name string, x api.Term) api.Term { return binder(kind, c(name), x) },
		func(kind int, name string, x api.Term) api.Term { return binder(kind, proj(1, name, x), v(0)) },
		func(kind int, name string, x api.Term) api.Term { return proj(0, name, x) },
	}
	r := rand.New(rand.NewSource(132))
	for chosen := range 1 << 12 {
		x := under(binders[r.Intn(3)], 3, app(v(0), v(1), v(2)))
		for i := range 12 {
			if chosen>>i&1 == 1 {
				x = places[r.Intn(len(places))](binders[r.Intn(3)], xn(i), x)
			}
		}
		if !termIs(t, x) {
			t.Fatal(x)
		}
	}
	// As many names as a term has room for: the 1,499 constants of an application.
	x := node(api.TLam, prop(), v(0))
	want := "(fun (x1498 : Prop), x1498)"
	for i := range 1498 {
		x, want = node(api.TApp, x, c(xn(i))), want+" "+xn(i)
	}
	textIs(t, want, x)
}

// P13.1: a variable that no binder binds, at the top and inside.
func TestUnbound(t *testing.T) {
	for n := range 6 {
		for deep := range 6 {
			for _, kind := range binders {
				if ok := termIs(t, under(kind, deep, v(n))); ok != (n < deep) {
					t.Error(n, deep, kind)
				}
				if ok := termIs(t, app(c("f"), under(kind, deep, app(c("g"), v(n))))); ok != (n < deep) {
					t.Error(n, deep, kind)
				}
				// The types and the value are outside their binder.
				if ok := termIs(t, under(kind, deep, binder(kind, v(n), prop()))); ok != (n < deep) {
					t.Error(n, deep, kind)
				}
			}
		}
	}
	noTerm(t, node(api.TLet, v(0), prop(), v(0)))
	noTerm(t, node(api.TLet, prop(), v(0), v(0)))
	noTerm(t, node(api.TLet, prop(), prop(), v(1)))
	noTerm(t, app(node(api.TLam, prop(), v(0)), v(0)))
	noTerm(t, proj(0, "s", v(0)))
}

// levelTexts: levels, their text, and that behind Type.
func levelTexts() []struct {
	l            api.Level
	text, behind string
} {
	return []struct {
		l            api.Level
		text, behind string
	}{
		{lev(0), "0", "0"}, {lev(1), "1", "1"}, {lev(10), "10", "10"}, {lev(100), "100", "100"},
		{lev(0, 0), "u0", "u0"}, {lev(0, -1, 0), "u1", "u1"}, {lev(0, -1, -1, 0), "u2", "u2"}, {lev(0, -1, -1, -1, 0), "u3", "u3"},
		{lev(1, 1), "u0+1", "(u0+1)"}, {lev(100, -1, -1, -1, 100), "u3+100", "(u3+100)"}, {lev(10, -1, 10), "u1+10", "(u1+10)"},
		{lev(3, 0), "3 | u0", "(3 | u0)"}, {lev(3, 1), "3 | u0+1", "(3 | u0+1)"}, {lev(1, 0), "1 | u0", "(1 | u0)"}, {lev(0, 0, 0), "u0 | u1", "(u0 | u1)"},
		{lev(0, 0, 0, 0, 0), "u0 | u1 | u2 | u3", "(u0 | u1 | u2 | u3)"}, {lev(7, 7, 0, -1, 3), "u0+7 | u1 | u3+3", "(u0+7 | u1 | u3+3)"}, {lev(100, 99, 98, 97, 96), "100 | u0+99 | u1+98 | u2+97 | u3+96", "(100 | u0+99 | u1+98 | u2+97 | u3+96)"},
	}
}

// P13.1: levels behind Type and in { }, one to four of them.
func TestLevels(t *testing.T) {
	list := levelTexts()
	for i, x := range list {
		textIs(t, "Type "+x.behind, typ(x.l))
		textIs(t, "f Type "+x.behind+" Type "+x.behind, app(c("f"), typ(x.l), typ(x.l)))
		textIs(t, "all (x0 : Type "+x.behind+"), Type "+x.behind, node(api.TPi, typ(x.l), typ(x.l)))
		textIs(t, "[1 of s Type "+x.behind+"]", proj(1, "s", typ(x.l)))
		textIs(t, "a{"+x.text+"}", c("a", x.l))
		y, z := list[(i+5)%len(list)], list[(i+11)%len(list)]
		textIs(t, "a.b{"+x.text+", "+y.text+"}", c("a.b", x.l, y.l))
		textIs(t, "f a{"+x.text+", "+y.text+", "+z.text+"} b", app(c("f"), c("a", x.l, y.l, z.l), c("b")))
		textIs(t, "[1 of s a{"+z.text+", "+y.text+", "+z.text+", "+x.text+"}]", proj(1, "s", c("a", z.l, y.l, z.l, x.l)))
	}
	textIs(t, "a", c("a"))
	textIs(t, "a", c("a", []api.Level{}...))
}

// P13.1: each valid level of small numbers, and of numbers at the edges.
func TestAllLevels(t *testing.T) {
	for _, numbers := range [][]int{{-1, 0, 1, 2}, {-1, 0, 99, 100}} {
		for _, base := range numbers {
			for i := range 256 {
				l := lev(base, numbers[i&3], numbers[i>>2&3], numbers[i>>4&3], numbers[i>>6&3])
				if ok := termIs(t, typ(l)); ok != level.Right(l) {
					t.Fatal(l)
				}
				termIs(t, c("a", l, lev(0), l))
			}
		}
	}
}

// P13.1: terms that are not valid, alone and in each place.
func TestNoTerm(t *testing.T) {
	for i, x := range odd() {
		if term.Right(x, 4, 0) {
			t.Fatal(i, x)
		}
		noTerm(t, x)
		for _, s := range shapes() {
			if y := s.term(x); !(x.Kind == api.TVar && x.N == 0 && s.more == 1) {
				noTerm(t, y)
				noTerm(t, app(c("f"), node(api.TLet, c("a"), y, c("b"))))
			}
		}
	}
}

// P13.1: as many nodes as a term may have, and one more: of TApp, of levels, of binders side by side.
func TestLargeTerms(t *testing.T) {
	for n := 2990; n < 3010; n++ {
		if ok := termIs(t, wide(n)); ok != (n <= 3000) {
			t.Error(n)
		}
	}
	if x := wide(3000); term.Nodes(x) != 3000 {
		t.Error(term.Nodes(x))
	}
	// Nodes of 5 with an application around each but one.
	heavy := c("h", lev(0), lev(1, 0), lev(2, 2), lev(100))
	for n, want := range map[int]bool{499: true, 500: false} {
		x := app(prop(), many(heavy, n)...)
		if term.Nodes(x) < 2995 || termIs(t, x) != want {
			t.Error(n, term.Nodes(x))
		}
	}
	for n, want := range map[int]bool{749: true, 750: false} {
		x := app(prop(), many(node(api.TPi, prop(), v(0)), n)...)
		if term.Nodes(x) < 2997 || termIs(t, x) != want {
			t.Error(n, term.Nodes(x))
		}
	}
}

// P13.1: binders as deep as they may be, and deeper; the last name is then x199, or one further on for each name that occurs.
func TestDeepTerms(t *testing.T) {
	for _, kind := range binders {
		for deep := 195; deep < 206; deep++ {
			if ok := termIs(t, under(kind, deep, app(v(0), v(deep-1)))); ok != (deep <= 200) {
				t.Error(kind, deep)
			}
			if ok := termIs(t, under(kind, deep, app(v(0), c("x7"), c("x199"), c("x200"), c("x201")))); ok != (deep <= 200) {
				t.Error(kind, deep)
			}
		}
		text, _ := Term(under(kind, 200, app(v(0), v(199))))
		if !strings.HasSuffix(text, " x199 x0") {
			t.Error(text)
		}
		text, _ = Term(under(kind, 200, app(v(0), v(199), c("x0"), c("x50"))))
		if !strings.HasSuffix(text, " x201 x1 x0 x50") {
			t.Error(text)
		}
	}
	mixed := prop()
	for i := range 200 {
		mixed = binder(binders[i%3], prop(), app(mixed, v(0)))
	}
	if !termIs(t, mixed) || termIs(t, node(api.TPi, prop(), mixed)) {
		t.Error("mixed")
	}
	// In the types and the values of each other, binders are not nested: each is x0.
	for _, kind := range binders[:2] {
		x := prop()
		for range 1400 {
			x = node(kind, x, v(0))
		}
		if text, _ := Term(x); !termIs(t, x) || strings.Contains(text, "x1") {
			t.Error(kind)
		}
	}
	x := prop()
	for range 900 {
		x = node(api.TLet, prop(), x, v(0))
	}
	if text, _ := Term(x); !termIs(t, x) || strings.Contains(text, "x1") {
		t.Error("values")
	}
}

// P13.1: terms drawn at random, of each size.
func TestDrawnTerms(t *testing.T) {
	r := rand.New(rand.NewSource(133))
	for i := range 6000 {
		if x := drawn(r, 4, 0, 1+r.Intn(1+i%200)); !termIs(t, x) {
			t.Fatal(x)
		}
	}
}

// P13.1: the chapter's example, and DOC.md's.
func TestExamples(t *testing.T) {
	textIs(t, "all (x0 : Prop), all (x1 : x0), x0", term.Bind(api.TPi, v(1), prop(), v(0)))
	textIs(t, "all (x0 : Prop), x0", term.Bind(api.TPi, v(0), prop()))
}

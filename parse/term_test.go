package parse

import (
	"math/rand"
	"reflect"
	"strings"
	"testing"

	"imprimatur/api"
	"imprimatur/lex"
)

// is: a text is this term.
func is(t *testing.T, text string, want Raw) {
	t.Helper()
	r, at, e := Term(text)
	if at != 0 || e != api.OK || !reflect.DeepEqual(r, want) {
		t.Fatalf("%q: at %d, error %d\n%s\n%s", short(text), at, e, shown(r), shown(want))
	}
}

// noTerm: a text is no term, for this reason.
func noTerm(t *testing.T, text string, wantAt int, wantE api.Errno) {
	t.Helper()
	r, at, e := Term(text)
	if at != wantAt || e != wantE || !reflect.DeepEqual(r, Raw{}) {
		t.Errorf("%q: at %d, error %d, not at %d, %d; %s", short(text), at, e, wantAt, wantE, shown(r))
	}
}

// P12.1: the chapter's own example.
func TestExample(t *testing.T) {
	is(t, "all (a : Prop), a", Raw{Kind: api.TPi, Name: "a", Args: []Raw{
		{Kind: api.TProp, At: 9},
		{Kind: api.TConst, At: 16, Name: "a"},
	}})
}

// P12.1: each kind of term, its fields written out.
func TestKinds(t *testing.T) {
	a := func(at int) Raw { return Raw{Kind: api.TConst, At: at, Name: "a"} }
	is(t, "Prop", Raw{Kind: api.TProp})
	is(t, "Type 7", Raw{Kind: api.TType, Levels: []api.Level{lev(7)}})
	is(t, "a", a(0))
	is(t, "a{u0}", Raw{Kind: api.TConst, Name: "a", Levels: []api.Level{lev(0, 0)}})
	is(t, "a a", Raw{Kind: api.TApp, Args: []Raw{a(0), a(2)}})
	is(t, "fun (b : a), a", Raw{Kind: api.TLam, Name: "b", Args: []Raw{a(9), a(13)}})
	is(t, "all (b : a), a", Raw{Kind: api.TPi, Name: "b", Args: []Raw{a(9), a(13)}})
	is(t, "let b : a := a in a", Raw{Kind: api.TLet, Name: "b", Args: []Raw{a(8), a(13), a(18)}})
	is(t, "[31 of b.c a]", Raw{Kind: api.TProj, N: 31, Name: "b.c", Args: []Raw{a(11)}})
	is(t, "[0 of b a]", Raw{Kind: api.TProj, Name: "b", Args: []Raw{a(8)}})
}

// P12.1: an application of several atoms is a TApp of a TApp, at the first token of its first atom; brackets leave no trace but there.
func TestApplications(t *testing.T) {
	c := func(name string, at int) Raw { return Raw{Kind: api.TConst, At: at, Name: name} }
	app := func(at int, f, x Raw) Raw { return Raw{Kind: api.TApp, At: at, Args: []Raw{f, x}} }
	is(t, " f x y z", app(1, app(1, app(1, c("f", 1), c("x", 3)), c("y", 5)), c("z", 7)))
	is(t, "(f)", c("f", 1))
	is(t, " ( (f) ) ", c("f", 4))
	is(t, "(f) x", app(0, c("f", 1), c("x", 4)))
	is(t, "(f x)", app(1, c("f", 1), c("x", 3)))
	is(t, "(f x) y", app(0, app(1, c("f", 1), c("x", 3)), c("y", 6)))
	is(t, "((f) x) y", app(0, app(1, c("f", 2), c("x", 5)), c("y", 8)))
	is(t, "((f x) y)", app(1, app(2, c("f", 2), c("x", 4)), c("y", 7)))
	is(t, "f (x y)", app(0, c("f", 0), app(3, c("x", 3), c("y", 5))))
	is(t, "f(g(x))", app(0, c("f", 0), app(2, c("g", 2), c("x", 4))))
	is(t, "(fun (x : a), f) y", app(0, Raw{Kind: api.TLam, At: 1, Name: "x", Args: []Raw{c("a", 10), c("f", 14)}}, c("y", 17)))
	// What follows a binder belongs to its body.
	is(t, "fun (x : a), f y", Raw{Kind: api.TLam, Name: "x", Args: []Raw{c("a", 9), app(13, c("f", 13), c("y", 15))}})
}

// P12.1: the levels of a name and of Type.
func TestLevels(t *testing.T) {
	for text, want := range map[string][]api.Level{
		"Type 0": {lev(0)}, "Type 100": {lev(100)}, "Type u0": {lev(0, 0)}, "Type u3": {lev(0, -1, -1, -1, 0)},
		"Type (0)": {lev(0)}, "Type (u1)": {lev(0, -1, 0)}, "Type (u1+0)": {lev(0, -1, 0)}, "Type (u2+100)": {lev(100, -1, -1, 100)},
		"Type (u0+3 | u0 | 2)": {lev(3, 3)}, "Type (2 | u0 | u0+3)": {lev(3, 3)}, "Type (5|u0+3|u1|4)": {lev(5, 3, 0)}, "Type(u0|u1|u2|u3)": {lev(0, 0, 0, 0, 0)},
		"a{0}": {lev(0)}, "a {u0+1 | 2 , 3}": {lev(2, 1), lev(3)}, "a{1,2,3}": {lev(1), lev(2), lev(3)}, "a{u3,u2,u1,u0}": {lev(0, -1, -1, -1, 0), lev(0, -1, -1, 0), lev(0, -1, 0), lev(0, 0)},
		"a{100|100|u1+100,0,0,0|u0|0|0}": {lev(100, -1, 100), lev(0), lev(0), lev(0, 0)},
	} {
		r, at, e := Term(text)
		if at != 0 || e != 0 || !reflect.DeepEqual(r.Levels, want) || len(r.Args) != 0 {
			t.Errorf("%q: at %d, error %d, %s", text, at, e, shown(r))
		}
	}
	// Type takes one number or parameter, no more without brackets.
	for text, kinds := range map[string]int{"Type u0 u0x": api.TApp, "Type 0 a": api.TApp, "Type (0) (a)": api.TApp} {
		if r, _, e := Term(text); e != 0 || r.Kind != kinds || r.Args[0].Kind != api.TType || r.Args[1].Kind != api.TConst {
			t.Errorf("%q: %s", text, shown(r))
		}
	}
}

// P12.1: every kind of term in every place of every other one, with and without brackets, and where each stands.
func TestEveryTermInEveryOther(t *testing.T) {
	a, b := leaf(api.TConst, "a", "a"), leaf(api.TConst, "b.c", "b.c")
	parts := append(leaves(), bound(api.TLam, "x", a, b), bound(api.TPi, "x", a, b), bound(api.TLet, "x", a, b, a), applied(a, b), applied(a, b, a), projected(3, "s", a), applied(bracketed(a, ""), b), applied(bracketed(applied(a, b), " "), b), projected(30, "s", bracketed(a, "")))
	for _, part := range parts {
		for _, bare := range []written{part, bracketed(part, ""), bracketed(bracketed(part, " "), "\n")} {
			atom := asAtom(bare)
			for _, w := range []written{
				bare,
				bound(api.TLam, "x", bare, a), bound(api.TLam, "x", a, bare), bound(api.TPi, "y.z", bare, a), bound(api.TPi, "x", a, bare),
				bound(api.TLet, "x", bare, a, b), bound(api.TLet, "x", a, bare, b), bound(api.TLet, "x", a, b, bare), bound(api.TLet, "x", bare, bare, bare),
				applied(atom, a), applied(a, atom), applied(a, atom, b), applied(atom, atom, atom), projected(9, "s", atom),
				bound(api.TLam, "x", bound(api.TPi, "x", bare, bare), applied(a, asAtom(bound(api.TLet, "x", bare, a, bare)))),
			} {
				is(t, w.text, w.raw)
				is(t, "\n -- (\n"+w.text+" --)", moved(w.raw, 7))
				is(t, "("+w.text+")", moved(w.raw, 1))
			}
		}
	}
}

// P12.1: terms of all kinds inside each other are read as they were written.
func TestWrittenTerms(t *testing.T) {
	r := rand.New(rand.NewSource(1))
	for range 8000 {
		w := someTerm(r, r.Intn(7))
		is(t, w.text, w.raw)
		if Nodes(w.raw) != plainNodes(w.raw) {
			t.Fatal(w.text)
		}
		// And what is cut off somewhere, or goes on, is an error or another term.
		text := w.text[:r.Intn(len(w.text)+1)] + []string{"", " ", " x", ")", " in", ";"}[r.Intn(6)]
		reads(t, text)
	}
}

// P12.1: no token fits, or none is there.
func TestNoTerm(t *testing.T) {
	for _, blank := range []string{"", " ", "\n", "  -- a", "--a\n-- b\n "} {
		noTerm(t, blank, len(blank), api.ErrForm)
		for _, start := range []string{"(", "fun", "fun (x : a),", "let x : a := b in", "f (", "[0 of s", "Type", "Type (", "a{", "a{0", "a{0,", "a{0|", "a{u0+", "(a"} {
			noTerm(t, start+blank, len(start+blank), api.ErrForm)
		}
		for _, start := range []string{"a", "(a)", "Prop", "Type 0", "f a{0}"} {
			noTerm(t, blank+start+blank+"\n)", len(blank+start+blank)+1, api.ErrForm)
		}
	}
	for text, at := range map[string]int{
		// Words that are no names, as an atom and as the argument of one.
		"in": 0, "a of": 2, "a with": 2, "a axiom": 2, "a def": 2, "a theorem": 2, "a family": 2, "a u0": 2, "u3": 0, "a fun": 2, "a all": 2, "a let": 2,
		"a.": 0, "a..b": 0, "a.b.": 0, "a.1": 0, "a._": 0, strings.Repeat("n", 33): 0, "f " + strings.Repeat("n", 33): 2,
		// Tokens of other kinds.
		"0": 0, "a 0": 2, "]": 0, "{0}": 0, "a , b": 2, "a ; b": 2, "a | b": 2, "a + b": 2, "a @ 1": 2, "a : b": 2, "a := b": 2, "()": 1, "(a": 2, "a)": 1, "((a)": 4, "(a))": 3, "(a]": 2,
		// Only an atom can be an argument, and only one term stands in brackets.
		"f fun (x : a), b": 2, "(f all (x : a), b)": 3, "f let x : a := b in c": 2, "(a, b)": 2,
		// Levels.
		"Type a": 5, "Type": 4, "Type Prop": 5, "Type u4": 5, "Type ()": 6, "Type (a)": 6, "Type (0": 7, "Type (0,1)": 7, "Type (0 1)": 8, "Type 0 | 1": 7, "Type u0+1": 7, "Type u0 + 1": 8, "Type 0+1": 6,
		"Type (0+1)": 7, "Type (u0+)": 9, "Type (u0+u1)": 9, "Type (u0+1+1)": 10, "Type (+1)": 6, "Type (|0)": 6, "Type (0|)": 8, "Type (0||1)": 8, "Type ((0))": 6, "Type {0}": 5, "Type u0 u1": 8, "Type 0 1": 7,
		"a{}": 2, "a{0": 3, "a{0,}": 4, "a{,0}": 2, "a{0,0,0,0,0}": 9, "a{0,0,0,0,}": 9, "a{0;0}": 3, "a{0)": 3, "a{0}{0}": 4, "a{a}": 2, "(a){0}": 3, "Prop{0}": 4, "a{(0)}": 2, "a{0}{": 4,
		// Binders.
		"fun": 3, "fun x": 4, "fun (": 5, "fun ()": 5, "fun (x": 6, "fun (x a": 7, "fun (x :": 8, "fun (x :)": 8, "fun (x : a": 10, "fun (x := a": 7, "fun (x : a,": 10, "fun (x : a)": 11, "fun (x : a) b": 12, "fun (x : a), ": 13, "fun (x : a),)": 12, "fun (Prop : a), b": 5, "fun (u0 : a), b": 5, "fun (a. : a), b": 5, "fun ((x) : a), b": 5, "fun (x y : a), b": 7, "fun (x{0} : a), b": 6, "fun (0 : a), b": 5, "fun [x : a], b": 4,
		"all (x : a] b": 10, "all (in : a), b": 5, "all (x : a) : b": 12, "all all": 4,
		"let": 3, "let 0": 4, "let in": 4, "let (x : a) := b in c": 4, "let x": 5, "let x := a in b": 6, "let x : := b": 8, "let x : a": 9, "let x : a in": 10, "let x : a : b": 10, "let x : a := in b": 13, "let x : a := b": 14, "let x : a := b c": 16, "let x : a := b := c": 15, "let x : a := b of c": 15, "let x : a := b in": 17, "let x : a := b in in": 18, "let x : let y : a := b in c in d": 28,
		// Projections.
		"[": 1, "[]": 1, "[a of s b]": 1, "[32 of s a]": 1, "[101 of s a]": 1, "[0 s a]": 3, "[0 in s a]": 3, "[0 of": 5, "[0 of 0 a]": 6, "[0 of Type 0]": 6, "[0 of (s) a]": 6, "[0 of s]": 7, "[0 of s a b]": 10, "[0 of s f(a)]": 9, "[0 of s fun (x : a), b]": 8, "[0 of s{0} a]": 7, "[0 of s a": 9, "[0 of s a)": 9, "[0 | 1 of s a]": 3, "[u0 of s a]": 1, "[31 of s a][32 of s a]": 12,
	} {
		noTerm(t, text, at, api.ErrForm)
		reads(t, text)
	}
}

// P12.1: a part of a level with too great a number.
func TestErrLevel(t *testing.T) {
	for text, at := range map[string]int{
		"Type 101": 5, "Type 999999": 5, "Type (101)": 6, "Type (u0+101)": 6, "Type ( u0 + 101 )": 7, "Type (0|101)": 8, "Type (0 | u3 + 101)": 10, "Type (100 | 101 | 102)": 12,
		"a{101}": 2, "a{0,101}": 4, "a{0,0,0,101}": 8, "a{100|101,0}": 6, "a{0 | u0+101 | 5}": 6,
		// It comes ahead of whatever follows the part, also of the text's end.
		"a{101 x": 2, "a{101": 2, "a{u1+101": 2, "a{101+": 2, "Type 101 |": 5, "Type (101": 6, "Type 101 )": 5, "(Type 101": 6, "f a{0,0,0,101,0}": 10, "[0 of s Type 101 b]": 13, "Type (101 fun": 6, "a{u2+101 102": 2, "a{102 | 101": 2,
		"fun (x : Type 101 in": 14, "let x : a := Type 200 := b": 18, "Type 101 102": 5,
	} {
		noTerm(t, text, at, api.ErrLevel)
		reads(t, text)
	}
	// But not ahead of what comes first.
	for text, at := range map[string]int{"Type u0+101": 7, "a{0 101}": 4, "a{u0 101}": 5, "a{u0++101}": 5, "a{u0+u1+101}": 5, "a) Type 101": 1, "a{0,0,0,0,101}": 9, "101": 0, "[101 of s Type 101]": 1, "Type |101": 5, "Type 0+101": 6, "a {100 + 101}": 7} {
		noTerm(t, text, at, api.ErrForm)
		reads(t, text)
	}
	is(t, "Type (100 | u0+100)", Raw{Kind: api.TType, Levels: []api.Level{lev(100, 100)}})
}

// P12.1: an error of layer 11 is told alone, wherever it stands.
func TestErrorsOfTokens(t *testing.T) {
	many := strings.Repeat("b ", 3001)
	for _, text := range []string{"#", "#a", "a #", "a) #", "fun #", "fun (x : #", ") a-", "Type 101 007", "a 1234567", "a -- \t", many + "#", "a\r", "é", ";;;;\x00", "a{#", "a{101 #"} {
		list, at, e := lex.Scan(text)
		if e != api.ErrForm || len(list) > 0 || text[at] == ' ' {
			t.Fatal(text, at, e)
		}
		noTerm(t, text, at, e)
		noSource(t, text, at, e)
	}
	for _, text := range []string{strings.Repeat(" ", 65537), strings.Repeat("a", 65537), strings.Repeat("#", 70000)} {
		noTerm(t, text, 0, api.ErrMany)
		noSource(t, text, 0, api.ErrMany)
	}
	is(t, strings.Repeat(" ", 65535)+"a", Raw{Kind: api.TConst, At: 65535, Name: "a"})
	noTerm(t, strings.Repeat(" ", 65535)+")", 65535, api.ErrForm)
	noTerm(t, strings.Repeat("\n", 65536), 65536, api.ErrForm)
}

// sized: a term of so many nodes, which begins with what it is given (a name, or a term in brackets of so many nodes).
func sized(first string, has, nodes int) string {
	text := first
	for ; has+3 < nodes || has+2 == nodes; has += 2 {
		text += " b"
	}
	if has+3 == nodes {
		text += " b{0}"
		has += 3
	}
	if has != nodes {
		panic("no such size")
	}
	return text
}

// P12.1: terms of as many nodes as a term may have, and of one more.
func TestErrMany(t *testing.T) {
	for _, first := range []string{"a", "(a)", "((a))"} {
		text := sized(first, 1, 3000)
		if r, at, e := Term(text); at != 0 || e != 0 || Nodes(r) != 3000 || plainNodes(r) != 3000 {
			t.Error(at, e, Nodes(r))
		}
		noTerm(t, text+")", len(text), api.ErrForm)
		text = sized(first, 1, 3001)
		for _, behind := range []string{"", " ", ")", " fun", ";", " in", " 0", " u0", "]", " ) Type 101"} {
			noTerm(t, text+behind, 0, api.ErrMany)
			noTerm(t, "\n  "+text+behind, 3, api.ErrMany)
			reads(t, text+behind)
		}
		// Where the term could go on, it has not ended yet.
		for _, behind := range []string{" (", " [", " Type", " b{", " (b c"} {
			noTerm(t, text+behind, len(text+behind), api.ErrForm)
			reads(t, text+behind)
		}
		noTerm(t, text+" Type 101", len(text)+6, api.ErrLevel)
		// A term inside another is no complete one.
		for _, behind := range []string{"", ",", " fun", "]"} {
			noTerm(t, "("+text+behind, len("("+text+strings.TrimSuffix(strings.TrimSuffix(strings.TrimSuffix(behind, ","), "fun"), "]")), api.ErrForm)
			reads(t, "("+text+behind)
		}
		noTerm(t, "f ("+text+") fun", 0, api.ErrMany)
		noTerm(t, " ( ("+text+") )) (", 1, api.ErrMany)
		noTerm(t, "fun (x : "+text+") b", len("fun (x : "+text+") "), api.ErrForm)
		noTerm(t, "fun (x : "+text+"), b )", 0, api.ErrMany)
		noTerm(t, "fun (x : a), "+text+" )", 0, api.ErrMany)
		noTerm(t, "let x : a := "+text+" b := c", len("let x : a := "+text+" b "), api.ErrForm)
	}
}

// P12.1: levels are nodes too.
func TestErrManyOfLevels(t *testing.T) {
	many := func(piece string, count int) string { return strings.Repeat(piece+" ", count) }
	for text, nodes := range map[string]int{
		many("Type 0", 1000): 2999, many("Type 0", 1000) + "Prop": 3001, many("b{0,1|2,3,4}", 500): 2999, many("b{0,1|2,3,4}", 500) + "b": 3001,
		many("[0 of s b]", 1000): 2999, many("[0 of s b]", 1000) + "b": 3001, many("(b c)", 750): 2999, "fun (x : a), " + many("b", 1499): 2999, "fun (x : a), " + many("b", 1500): 3001,
		"let x : a := b in " + many("b", 1499): 3000, "let x : a := b in " + many("b", 1499) + "b": 3002, many("fun (x : a),", 1499) + "b{0}": 3000, many("all (x : a),", 1500) + "b": 3001,
		many("let x : a := b in", 999) + "b{0,0}": 3000, many("let x : a := b in", 1000) + "b": 3001,
	} {
		if nodes > 3000 {
			noTerm(t, text, 0, api.ErrMany)
		} else if r, at, e := Term(text); at != 0 || e != 0 || Nodes(r) != nodes {
			t.Error(short(text), at, e, Nodes(r))
		}
		reads(t, text)
	}
}

// P12.2: the number behind [.
func TestFieldNumbers(t *testing.T) {
	for n, text := range map[int]string{0: "[0 of s a]", 1: "[1 of s a]", 31: "[31 of s a]"} {
		if r, at, e := Term(text); at != 0 || e != 0 || r.N != n || r.Kind != api.TProj {
			t.Error(text, at, e)
		}
	}
	for _, n := range []string{"32", "33", "99", "100", "101", "999999"} {
		for _, behind := range []string{"", " of", " of s a]", "]", " Type 101"} {
			noTerm(t, "["+n+behind, 1, api.ErrForm)
			noTerm(t, "f ( [ "+n+behind, 6, api.ErrForm)
		}
	}
}

// P12.2: how many nodes a raw term has, whatever it is.
func TestNodes(t *testing.T) {
	one := Raw{Kind: api.TProp}
	for want, r := range map[int]Raw{
		1: {}, 2: {Levels: make([]api.Level, 1)}, 6: {Kind: api.TConst, Name: "a", Levels: make([]api.Level, 5)}, 3: {Args: []Raw{one, one}},
		4: {Kind: -1, N: -1, At: -1, Args: []Raw{{Args: []Raw{{Args: []Raw{one}}}}}}, 7: {Kind: 99, Levels: []api.Level{{Base: -1}}, Args: []Raw{one, {Levels: make([]api.Level, 2)}, one}},
		100001: {Args: make([]Raw, 100000)}, 70001: {Levels: make([]api.Level, 70000)},
	} {
		if got := Nodes(r); got != want || plainNodes(r) != want {
			t.Error(want, got)
		}
	}
	for text, want := range map[string]int{"a": 1, "a{0}": 2, "a{0,u0|u1|2}": 3, "Type 0": 2, "Type (0|1|u2)": 2, "a b c": 5, "((a))": 1, "fun (x : a), b": 3, "let x : a := b in c": 4, "[0 of s a]": 2, "Prop": 1} {
		if r, _, e := Term(text); e != 0 || Nodes(r) != want {
			t.Error(text, Nodes(r))
		}
	}
	// As deep as parts may be nested.
	deep := one
	for range 1 << 16 {
		deep = Raw{Args: []Raw{deep}}
	}
	if got := Nodes(deep); got != 1<<16+1 {
		t.Error(got)
	}
}

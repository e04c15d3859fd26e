package show

import (
	"math/rand"
	"slices"
	"strings"
	"testing"

	"imprimatur/api"
	"imprimatur/code"
	"imprimatur/level"
	"imprimatur/lex"
	"imprimatur/parse"
	"imprimatur/term"
)

// resolved: what a raw term stands for inside binders of these names, the innermost one last: a name without levels is the variable of the innermost binder of that name, if there is one.
func resolved(r parse.Raw, around []string) api.Term {
	t := api.Term{Kind: r.Kind, N: r.N, Name: r.Name, Levels: r.Levels}
	if r.Kind == api.TConst && len(r.Levels) == 0 {
		for i, name := range slices.Backward(around) {
			if name == r.Name {
				return v(len(around) - 1 - i)
			}
		}
	}
	for i, arg := range r.Args {
		inner := around
		if slices.Contains(binders, r.Kind) && i == len(r.Args)-1 {
			inner = append(slices.Clone(around), r.Name)
		}
		t.Args = append(t.Args, resolved(arg, inner))
	}
	if slices.Contains(binders, r.Kind) {
		t.Name = ""
	}
	return t
}

func resolvedDecl(raw parse.Decl) api.Decl {
	d := api.Decl{Kind: raw.Kind, Params: raw.Params, Name: raw.Name, Fixed: raw.Fixed, Type: resolved(raw.Type, nil), Value: resolved(raw.Value, nil)}
	for _, ctor := range raw.Ctors {
		d.Ctors = append(d.Ctors, api.Ctor{Name: ctor.Name, Type: resolved(ctor.Type, nil)})
	}
	return d
}

// readsTerm asks that layer 12 reads a text as a term; a text that is too long it cannot read.
func readsTerm(t *testing.T, text string, want api.Term) {
	t.Helper()
	raw, at, e := parse.Term(text)
	if len(text) > api.MaxText {
		if at != 0 || e != api.ErrMany {
			t.Fatal(len(text), at, e)
		}
		return
	}
	if at != 0 || e != api.OK || !term.Same(resolved(raw, nil), want) {
		t.Fatalf("%q %v %v\nread %v\nwant %v", text, at, e, raw, want)
	}
	if parse.Nodes(raw) != term.Nodes(want) {
		t.Fatal(text, parse.Nodes(raw), term.Nodes(want))
	}
}

// sameDecl: are two declarations equal, field by field?
func sameDecl(a, b api.Decl) bool {
	sameCtor := func(x, y api.Ctor) bool { return x.Name == y.Name && term.Same(x.Type, y.Type) }
	return a.Kind == b.Kind && a.Params == b.Params && a.Name == b.Name && a.Fixed == b.Fixed &&
		term.Same(a.Type, b.Type) && term.Same(a.Value, b.Value) && slices.EqualFunc(a.Ctors, b.Ctors, sameCtor)
}

// readsSource asks that layer 12 reads a text as declarations.
func readsSource(t *testing.T, text string, want ...api.Decl) {
	t.Helper()
	raw, at, e := parse.Source(text)
	if len(text) > api.MaxText {
		if at != 0 || e != api.ErrMany {
			t.Fatal(len(text), at, e)
		}
		return
	}
	var list []api.Decl
	for _, d := range raw {
		list = append(list, resolvedDecl(d))
	}
	if at != 0 || e != api.OK || !slices.EqualFunc(list, want, sameDecl) {
		t.Fatalf("%q %v %v\nread %v\nwant %v", text, at, e, list, want)
	}
}

// P13.3: no two terms have the same text: all terms of some few nodes.
func TestTextsDiffer(t *testing.T) {
	texts := map[string]api.Term{}
	for _, x := range small(6, 0) {
		text, ok := Term(x)
		if !ok {
			continue
		}
		if other, twice := texts[text]; twice {
			t.Fatal(text, x, other)
		}
		texts[text] = x
		answers(t, x, text, ok, plainTerm(x), true)
		readsTerm(t, text, x)
	}
	if len(texts) < 20000 {
		t.Error("only", len(texts))
	}
}

// small: all terms of up to so many nodes, from a few leaves, inside so many binders.
func small(nodes, around int) []api.Term {
	var list []api.Term
	for n := 1; n <= nodes; n++ {
		list = append(list, exactly(n, around)...)
	}
	return list
}

// exactly: those of so many nodes, where a level is none.
func exactly(n, around int) []api.Term {
	if n == 1 {
		list := []api.Term{prop(), c("x0"), c("x1"), c("x0", level.Num(0))}
		for i := range around {
			list = append(list, v(i))
		}
		return list
	}
	var list []api.Term
	for _, x := range exactly(n-1, around) {
		list = append(list, proj(0, "x0", x), proj(1, "s", x))
	}
	for first := 1; first < n-1; first++ {
		for _, a := range exactly(first, around) {
			for _, b := range exactly(n-1-first, around) {
				list = append(list, node(api.TApp, a, b))
			}
			for _, b := range exactly(n-1-first, around+1) {
				list = append(list, node(api.TLam, a, b), node(api.TPi, a, b))
			}
			for second := 1; second < n-1-first; second++ {
				for _, b := range exactly(second, around) {
					for _, body := range exactly(n-1-first-second, around+1) {
						list = append(list, node(api.TLet, a, b, body))
					}
				}
			}
		}
	}
	return list
}

// P13.3: terms and declarations drawn at random: equal texts are those of equal ones.
func TestTextsDifferDrawn(t *testing.T) {
	r := rand.New(rand.NewSource(134))
	terms := map[string]api.Term{}
	decls := map[string]api.Decl{}
	for range 20000 {
		x := drawn(r, 4, 0, 1+r.Intn(7))
		text, ok := Term(x)
		if other, twice := terms[text]; !ok || twice && !term.Same(x, other) {
			t.Fatal(text, x, other)
		}
		terms[text] = x
	}
	for range 5000 {
		d := drawnDecl(r, 2)
		text, ok := Decl(d)
		if other, twice := decls[text]; !ok || twice && !sameDecl(d, other) {
			t.Fatal(text, d, other)
		}
		decls[text] = d
	}
	if len(terms) < 5000 || len(decls) < 2000 {
		t.Error("only", len(terms), len(decls))
	}
}

// tokensOf: the texts of a text's tokens.
func tokensOf(t *testing.T, text string) []lex.Token {
	t.Helper()
	list, at, e := lex.Scan(text)
	if at != 0 || e != api.OK {
		t.Fatalf("%q %v %v", text, at, e)
	}
	return list
}

// P13.3: between two tokens stands one space, and none where the chapter says so; there is nothing else between them, ahead of them and behind them.
func TestSpaces(t *testing.T) {
	r := rand.New(rand.NewSource(135))
	texts := []string{}
	for range 2000 {
		text, _ := Term(drawn(r, 4, 0, 1+r.Intn(60)))
		texts = append(texts, text)
		text, _ = Decl(drawnDecl(r, 20))
		texts = append(texts, text)
	}
	gaps := map[string]int{}
	for _, text := range texts {
		list := tokensOf(t, text)
		end := 0
		for i, token := range list {
			gap := text[end:token.At]
			end = token.At + len(token.Text)
			want := " "
			switch {
			case i == 0:
				want = ""
			case strings.Contains("([{@+", list[i-1].Text) || strings.Contains(")]}{,;+", token.Text):
				want = ""
			}
			if gap != want {
				t.Fatalf("%q: %q ahead of %d", text, gap, token.At)
			}
			gaps[gap+token.Text]++
		}
		if end != len(text) || strings.Contains(text, "\n") {
			t.Fatalf("%q", text)
		}
	}
	for _, gap := range []string{" (", "(", ")", " [", "[", "]", "{", "}", ",", " |", " @", " :", " :=", ";", "+", " Prop", "Prop", " in", " with", " of"} {
		if gaps[gap] == 0 {
			t.Errorf("no %q", gap)
		}
	}
}

// lengthened: a term whose text has exactly so many bytes.
func lengthened(t *testing.T, size int) api.Term {
	t.Helper()
	x := c("a")
	long := strings.Repeat("q", 32)
	const piece = len("[10 of ]") + 1 + 32
	left := size - 1
	for ; left >= 2*piece; left -= piece {
		x = proj(10, long, x)
	}
	for left > 0 {
		// What is left is two pieces, each with a name of a length of its own.
		part := left / 2
		if left < piece {
			part = left
		}
		x = proj(1, strings.Repeat("r", part-len("[1 of ]")-1), x)
		left -= part
	}
	if text, ok := Term(x); !ok || len(text) != size {
		t.Fatal(len(text), size)
	}
	return x
}

// P13.1, P13.3: texts of as many bytes as layer 12 reads, and of more: each of them is told.
func TestLongTexts(t *testing.T) {
	for size := api.MaxText - 40; size < api.MaxText+40; size++ {
		x := lengthened(t, size)
		if !termIs(t, x) {
			t.Error(size)
		}
		// "axiom a : " and ";" are 11 bytes.
		d := axiom("a", 0, lengthened(t, size-11))
		if text, ok := Decl(d); !ok || len(text) != size {
			t.Error(size, len(text))
		}
		declIs(t, d)
		if text, ok := Library([]api.Decl{d}); !ok || len(text) != size+1 {
			t.Error(size, len(text))
		}
		libraryIs(t, []api.Decl{d})
	}
	long := lengthened(t, 110000)
	if !termIs(t, long) || !declIs(t, def("d", 0, long, long)) {
		t.Error("long")
	}
	d := family("n", 4, long, 16, slices.Repeat([]api.Ctor{{Name: "c", Type: long}}, 8)...)
	if text, ok := Library(slices.Repeat([]api.Decl{d}, 64)); !ok || len(text) < 64*9*110000 || strings.Count(text, "\n") != 64 {
		t.Error(len(text))
	}
	if !code.Formed(d) || !declIs(t, d) {
		t.Error("large")
	}
}

// P13.3: the samples are read as what they are.
func TestReadSamples(t *testing.T) {
	for _, x := range samples() {
		if !termIs(t, x) {
			t.Fatal(x)
		}
	}
	for _, d := range sampleDecls() {
		if !declIs(t, d) {
			t.Fatal(d)
		}
	}
	if !libraryIs(t, sampleDecls()) {
		t.Error("library")
	}
}

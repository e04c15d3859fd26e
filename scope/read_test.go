package scope

import (
	"math/rand"
	"slices"
	"strconv"
	"strings"
	"testing"

	"imprimatur/api"
	"imprimatur/code"
	"imprimatur/level"
	"imprimatur/parse"
	"imprimatur/show"
	"imprimatur/term"
)

// P14.2: texts that layer 12 refuses: its offset and its error, whatever this layer would refuse, and whatever params are.
func TestRefusedTerms(t *testing.T) {
	large := strings.Repeat("a ", 1501)
	for _, x := range []struct {
		text string
		at   int
		e    api.Errno
	}{
		{"", 0, api.ErrForm}, {" \n", 2, api.ErrForm}, {"(", 1, api.ErrForm}, {"a)", 1, api.ErrForm}, {"#", 0, api.ErrForm}, {"a #", 2, api.ErrForm}, {"fun (fun : a), a", 5, api.ErrForm},
		{"Type 101", 5, api.ErrLevel}, {"a{0, u0+101}", 5, api.ErrLevel}, {large, 0, api.ErrMany}, {" (" + large + ")", 1, api.ErrMany}, {strings.Repeat(" ", 65537), 0, api.ErrMany},
		{"axiom p : Prop;", 0, api.ErrForm}, {"[32 of s a]", 1, api.ErrForm}, {"u0", 0, api.ErrForm},
		// This layer's errors stand ahead.
		{"fun (a : b), a{0} )", 18, api.ErrForm}, {"Type u0 (", 9, api.ErrForm}, {"Type u0 a{101}", 10, api.ErrLevel}, {strings.Repeat("fun (a : b), ", 201), 201*13 - 1, api.ErrForm}, {"Type u0 " + large, 0, api.ErrMany},
	} {
		if x.text != "" && strings.HasSuffix(x.text, ", ") {
			x.at = len(x.text)
		}
		for _, params := range []int{-1, 0, 1, 4, 5, 1 << 40} {
			fails(t, x.text, params, x.at, x.e)
		}
	}
	// Texts that only this layer refuses.
	fails(t, "Prop", 5, 0, api.ErrRange)
	fails(t, "Type u0", 0, 0, api.ErrLevel)
	fails(t, "f (fun (a : b), a{0})", 0, 16, api.ErrForm)
	fails(t, strings.Repeat("fun (a : b), ", 201)+"a", 0, 2600, api.ErrMany)
}

// P14.2: likewise of sources.
func TestRefusedSources(t *testing.T) {
	large := strings.Repeat("a ", 1501)
	full := strings.Repeat("axiom p : Prop;", 64)
	for _, x := range []struct {
		text string
		at   int
		e    api.Errno
	}{
		{"a", 0, api.ErrForm}, {"axiom", 5, api.ErrForm}, {"axiom p : Prop", 14, api.ErrForm}, {"#", 0, api.ErrForm}, {"axiom p : Prop; #", 16, api.ErrForm}, {"axiom p @5 : a;", 9, api.ErrForm}, {"family n of 17 : a;", 12, api.ErrForm},
		{"axiom p : Type 101;", 15, api.ErrLevel}, {"axiom p : " + large + ";", 10, api.ErrMany}, {full + "axiom p : Prop;", len(full), api.ErrMany}, {strings.Repeat(" ", 65537), 0, api.ErrMany}, {"Prop", 0, api.ErrForm},
		// This layer's errors stand ahead.
		{"axiom p : Type u0; a", 19, api.ErrForm}, {"axiom p : Type u0; axiom q : Type 101;", 34, api.ErrLevel}, {"axiom p : Type u0; axiom q : " + large, 29, api.ErrMany}, {"def d : fun (a : b), a{0};", 25, api.ErrForm}, {"axiom p : Type u0;" + full, len("axiom p : Type u0;") + len(full) - 15, api.ErrMany},
	} {
		sourceFails(t, x.text, x.at, x.e)
	}
	sourceFails(t, "axiom p : Type u0;", 10, api.ErrLevel)
	sourceFails(t, "axiom p @1 : Type u0; axiom q : Type u0;", 32, api.ErrLevel)
	sourceFails(t, full[:63*15]+"axiom p : Type u0;", 63*15+10, api.ErrLevel)
}

// shown: the text of a term, which it must have.
func shown(t *testing.T, x api.Term) string {
	t.Helper()
	text, ok := show.Term(x)
	if !ok {
		t.Fatal("no text", x)
	}
	return text
}

// back asks that the text of a term is read as that term, for as many universe parameters as it needs and more.
func back(t *testing.T, x api.Term) {
	t.Helper()
	text := shown(t, x)
	for params := range 5 {
		if !term.Right(x, params, 0) {
			if got, _, e := ReadTerm(text, params); e != api.ErrLevel || !isZero(got) {
				t.Fatal(text, params, e)
			}
			continue
		}
		got, at, e := ReadTerm(text, params)
		answers(t, short(text), params, got, at, e, x, 0, api.OK)
		if shown(t, got) != text {
			t.Fatal(text)
		}
	}
	sourceBack(t, api.Decl{Kind: api.DAxiom, Name: "p", Params: 4, Type: x})
}

// sourceBack asks that the text of a library is read as that library, and that of its declarations too.
func sourceBack(t *testing.T, list ...api.Decl) {
	t.Helper()
	text, ok := show.Library(list)
	got, at, e := Read(text)
	if !ok || at != 0 || e != api.OK || !slices.EqualFunc(got, list, sameDecl) {
		t.Fatalf("%q: %d, %d, %v", short(text), at, e, got)
	}
	want, _ := code.Library(list)
	bytes, ok := code.Library(got)
	if !ok || !slices.Equal(bytes, want) {
		t.Fatal(text)
	}
	if again, ok := show.Library(got); !ok || again != text {
		t.Fatal(text, again)
	}
	for _, d := range list {
		text, ok := show.Decl(d)
		got, at, e := Read(text)
		if !ok || at != 0 || e != api.OK || len(got) != 1 || !sameDecl(got[0], d) {
			t.Fatalf("%q: %d, %d, %v", short(text), at, e, got)
		}
	}
}

// exactly: all terms of so many nodes, where a level is none, from a few leaves, inside so many binders.
func exactly(n, around int) []api.Term {
	if n == 1 {
		list := []api.Term{prop(), c("x0"), c("x1"), c("x0", level.Num(0))}
		for i := range around {
			list = append(list, v(i))
		}
		return list
	}
	var list []api.Term
	for _, x := range exactly(n-1, around) {
		list = append(list, proj(0, "x0", x))
	}
	for first := 1; first < n-1; first++ {
		for _, a := range exactly(first, around) {
			for _, b := range exactly(n-1-first, around) {
				list = append(list, app(a, b))
			}
			for _, b := range exactly(n-1-first, around+1) {
				list = append(list, lam(a, b), pi(a, b))
			}
		}
		for second := 1; second < n-1-first; second++ {
			for _, a := range exactly(first, around) {
				for _, b := range exactly(second, around) {
					for _, body := range exactly(n-1-first-second, around+1) {
						list = append(list, let(a, b, body))
					}
				}
			}
		}
	}
	return list
}

// P14.3: the text of each term of a few nodes is read as that term.
func TestEverySmallTerm(t *testing.T) {
	count := 0
	for n := 1; n < 6; n++ {
		for _, x := range exactly(n, 0) {
			got, at, e := ReadTerm(shown(t, x), 0)
			answers(t, x, 0, got, at, e, x, 0, api.OK)
			count++
		}
	}
	if count < 2500 {
		t.Error(count)
	}
}

// P14.3: the text of terms, declarations and libraries of every kind is read as the same value.
func TestBack(t *testing.T) {
	for _, x := range samples() {
		back(t, x)
	}
	sourceBack(t)
	sourceBack(t, sampleDecls()...)
	sourceBack(t, slices.Repeat(sampleDecls()[:16], 4)...)
	r := rand.New(rand.NewSource(150))
	for i := range 3000 {
		params := r.Intn(5)
		back(t, drawn(r, params, 0, 1+i%60))
	}
	for range 300 {
		var list []api.Decl
		for range r.Intn(12) {
			list = append(list, drawnDecl(r, 1+r.Intn(12)))
		}
		sourceBack(t, list...)
	}
}

// P14.3: each level that a term may have, in a Type and in a constant.
func TestLevelsBack(t *testing.T) {
	plus := []int{-1, 0, 1, 99, 100}
	for i := range 5 * 5 * 5 * 5 {
		most := 0
		l := lev(0)
		for k, rest := 0, i; k < 4; k, rest = k+1, rest/5 {
			l.Plus[k] = plus[rest%5]
			most = max(most, l.Plus[k])
		}
		for _, l.Base = range []int{most, min(most+1, 100), 100} {
			for _, x := range []api.Term{typ(l), c("f", l), c("f", lev(0), l, lev(3)), app(c("a"), typ(l))} {
				got, at, e := ReadTerm(shown(t, x), 4)
				answers(t, x, 4, got, at, e, x, 0, api.OK)
			}
		}
	}
}

// P14.3: terms as large and as deep as they may be.
func TestLargeBack(t *testing.T) {
	wide := func(n int) api.Term {
		x := prop()
		for i := 3; i <= n; i += 2 {
			x = app(x, prop())
		}
		if n%2 == 0 {
			return proj(0, "s", x)
		}
		return x
	}
	for _, n := range []int{1, 2, 2998, 2999, 3000} {
		back(t, wide(n))
	}
	for _, kind := range binders {
		x := app(v(0), v(1), v(100), v(198), v(199), c("a"))
		for range 200 {
			if kind == api.TLet {
				x = let(c("x3"), prop(), x)
			} else {
				x = node(kind, c("x7"), x)
			}
		}
		back(t, x)
		back(t, app(x, x))
	}
	beside := v(0)
	for range 900 {
		beside = lam(beside, v(0))
	}
	back(t, lam(prop(), beside))
	chain := c("a")
	for range 2999 {
		chain = proj(31, "s", chain)
	}
	back(t, chain)
}

// lengthened: a term whose text has exactly so many bytes.
func lengthened(t *testing.T, size int) api.Term {
	t.Helper()
	x := c("a")
	long := strings.Repeat("q", 32)
	const piece = len("[10 of ]") + 1 + 32
	left := size - 1
	for ; left >= 2*piece; left -= piece {
		x = proj(10, long, x)
	}
	for left > 0 {
		// What is left is two pieces, each with a name of a length of its own.
		part := left / 2
		if left < piece {
			part = left
		}
		x = proj(1, strings.Repeat("r", part-len("[1 of ]")-1), x)
		left -= part
	}
	if got := len(shown(t, x)); got != size {
		t.Fatal(got, size)
	}
	return x
}

// P14.3: texts of MaxText bytes are read, those of one more are not.
func TestLongTexts(t *testing.T) {
	for size := api.MaxText - 3; size < api.MaxText+4; size++ {
		x := lengthened(t, size)
		text := shown(t, x)
		// "axiom a : " and ";" are 11 bytes, and a line feed ends a library.
		d := api.Decl{Kind: api.DAxiom, Name: "a", Type: lengthened(t, size-11)}
		source, _ := show.Decl(d)
		if len(source) != size {
			t.Fatal(len(source))
		}
		if size > api.MaxText {
			fails(t, text, 0, 0, api.ErrMany)
			sourceFails(t, source, 0, api.ErrMany)
			continue
		}
		is(t, text, 0, x)
		sourceIs(t, source, d)
		if size < api.MaxText {
			sourceBack(t, d)
		}
	}
}

// P14.3: what is read is valid, whatever its text, and its own text is read as the same again.
func TestReadIsValid(t *testing.T) {
	r := rand.New(rand.NewSource(151))
	terms, libraries := 0, 0
	for i := range 4000 {
		d := drawer{r, r.Intn(5), 100}
		params := r.Intn(5)
		if x, _, e := ReadTerm(d.term(1+i%70), params); e == api.OK {
			terms++
			if !term.Right(x, params, 0) {
				t.Fatal(x)
			}
			back(t, x)
		}
		if list, _, e := Read(d.source(r.Intn(4), 12)); e == api.OK {
			libraries++
			sourceBack(t, list...)
		}
	}
	if terms < 1500 || libraries < 1500 {
		t.Error(terms, libraries)
	}
}

// P14.3: names that binders have are no part of a term: texts that differ in them alone, or in spaces, comments and brackets, are the same term.
func TestSameTerm(t *testing.T) {
	for _, list := range [][]string{
		{"fun (a : Prop), a", "fun (b : Prop), b", "fun(x:Prop),x", "fun -- a\n ( a : (Prop)),\n((a))", "(fun (nat.rec : Prop), nat.rec)"},
		{"all (a : p), all (b : a), a b", "all (b : p), all (a : b), b a", "all (x : p), (all (y : (x)), (x) y)"},
		{"let a : p := q in a", "let p : p := q in p", "let q : p := q in q"},
		{"f a b c", "(f a) b c", "((f) a b) (c)", "((f a) b) c"},
		{"Type(u0|1)", "Type (1 | u0)", "Type (1|u0|0|u0)"},
	} {
		want := raw(t, list[0])
		x, _, _ := Term(want, 1)
		for _, text := range list {
			is(t, text, 1, x)
		}
	}
	x := c("a")
	for i := range 30 {
		x = lam(x, app(v(0), c("x"+strconv.Itoa(i))))
	}
	back(t, x)
}

// P14.2: Read and ReadTerm do what layer 12 and then Library and Term do.
func TestReadIsBoth(t *testing.T) {
	for _, text := range []string{"axiom p : Prop;", "def d @1 : all (a : Type u0), a := b; theorem t : d{0} := fun (x : p), x;", "family n of 1 : p with z : n | s : all (a : n), a;", "axiom p : Type u3;"} {
		list, _, _ := parse.Source(text)
		want, wantAt, wantE := Library(list)
		got, at, e := Read(text)
		if at != wantAt || e != wantE || !slices.EqualFunc(got, want, sameDecl) {
			t.Error(text, at, e)
		}
	}
}

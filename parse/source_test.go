package parse

import (
	"math/rand"
	"reflect"
	"strconv"
	"strings"
	"testing"

	"imprimatur/api"
)

// are: a text has these declarations.
func are(t *testing.T, text string, want ...Decl) {
	t.Helper()
	list, at, e := Source(text)
	if at != 0 || e != api.OK || len(list) != len(want) {
		t.Fatalf("%q: at %d, error %d, %d", short(text), at, e, len(list))
	}
	for i := range want {
		if !reflect.DeepEqual(list[i], want[i]) {
			t.Fatalf("%q, %d:\n%v\n%v", short(text), i, list[i], want[i])
		}
	}
}

// noSource: a text is no source, for this reason.
func noSource(t *testing.T, text string, wantAt int, wantE api.Errno) {
	t.Helper()
	list, at, e := Source(text)
	if at != wantAt || e != wantE || len(list) != 0 {
		t.Errorf("%q: at %d, error %d, not at %d, %d; %d", short(text), at, e, wantAt, wantE, len(list))
	}
}

// P12.1: a source of no declarations.
func TestEmptySource(t *testing.T) {
	for _, text := range []string{"", " ", "\n\n", "-- axiom", "--\n -- ;\n", strings.Repeat(" ", 65536)} {
		are(t, text)
	}
}

// P12.1: each kind of declaration, its fields written out.
func TestDeclarations(t *testing.T) {
	a := func(name string, at int) Raw { return Raw{Kind: api.TConst, At: at, Name: name} }
	are(t, "axiom p : a;", Decl{Kind: api.DAxiom, Name: "p", Type: a("a", 10)})
	are(t, "axiom p @4 : a;", Decl{Kind: api.DAxiom, Params: 4, Name: "p", Type: a("a", 13)})
	are(t, "def p : a := b;", Decl{Kind: api.DDef, Name: "p", Type: a("a", 8), Value: a("b", 13)})
	are(t, "theorem p.q @ 1:a:=b;", Decl{Kind: api.DOpaque, Params: 1, Name: "p.q", Type: a("a", 16), Value: a("b", 19)})
	are(t, "family p of 3 : a;", Decl{Kind: api.DFamily, Fixed: 3, Name: "p", Type: a("a", 16)})
	are(t, "family p @2 of 16 : (a) with c : b | d.e : (Prop);", Decl{Kind: api.DFamily, Params: 2, Fixed: 16, Name: "p", Type: a("a", 21), Ctors: []Ctor{
		{Name: "c", At: 29, Type: a("b", 33)}, {Name: "d.e", At: 37, Type: Raw{Kind: api.TProp, At: 44}},
	}})
	are(t, "\n def p:a:=b ; -- ;\ndef p:a:=b;", Decl{Kind: api.DDef, At: 2, Name: "p", Type: a("a", 8), Value: a("b", 11)}, Decl{Kind: api.DDef, At: 20, Name: "p", Type: a("a", 26), Value: a("b", 29)})
}

// P12.1: sources are read as they were written.
func TestWrittenSources(t *testing.T) {
	r := rand.New(rand.NewSource(2))
	for range 3000 {
		text := ""
		var want []Decl
		for range r.Intn(5) {
			piece, d := someDecl(r, r.Intn(4))
			text += []string{"", " ", "\n", " -- def\n"}[r.Intn(4)]
			want = append(want, movedDecl(d, len(text)))
			text += piece
		}
		are(t, text, want...)
		reads(t, text[:r.Intn(len(text)+1)]+[]string{"", " ", " x", ")", " with", ";"}[r.Intn(6)])
	}
}

// P12.1: no token fits, or none is there.
func TestNoSource(t *testing.T) {
	for text, at := range map[string]int{
		"a": 0, "p : a;": 0, ";": 0, "(": 0, "fun (x : a), b": 0, "axiom p : a;;": 12, "axiom p : a; axiom": 18, "axiom p : a; p : a;": 13, "Axiom p : a;": 0,
		"axiom": 5, "axiom : a;": 6, "axiom Prop : a;": 6, "axiom axiom : a;": 6, "axiom p. : a;": 6, "axiom 0 : a;": 6, "axiom (p) : a;": 6, "axiom p": 7, "axiom p;": 7, "axiom p a;": 8, "axiom p := a;": 8, "axiom p :": 9, "axiom p :;": 9, "axiom p : a": 11, "axiom p : a\n": 12, "axiom p : a)": 11, "axiom p : a,": 11, "axiom p : a := b;": 12, "axiom p : a : b;": 12, "axiom p : a with": 12, "axiom p : a axiom q : a;": 12, "axiom p{0} : a;": 7, "axiom p of 1 : a;": 8,
		"axiom p @ : a;": 10, "axiom p @": 9, "axiom p @u0 : a;": 9, "axiom p @5 : a;": 9, "axiom p @1 @1 : a;": 11, "axiom p @1 a;": 11, "axiom p @1": 10, "axiom @1 p : a;": 6,
		"def": 3, "def of : a := b;": 4, "def p : a;": 9, "def p := a;": 6, "def p : a": 9, "def p : a : b;": 10, "def p : a := ;": 13, "def p : a :=": 12, "def p : a := b": 14, "def p : a := b := c;": 15, "def p : a := b with c : d;": 15, "def p : a = b;": 10, "def p @5 : a := b;": 7, "def p of 0 : a := b;": 6,
		"theorem": 7, "theorem p : a;": 13, "theorem p : a := b c": 20, "theorem p : a := fun b;": 21, "theorem let : a := b;": 8, "theorem p : a := b | c;": 19,
		"family": 6, "family of 1 : a;": 7, "family n : a;": 9, "family n": 8, "family n of": 11, "family n of : a;": 12, "family n of a : a;": 12, "family n of 17 : a;": 12, "family n of 1 a;": 14, "family n of 1 := a;": 14, "family n of 1 :": 15, "family n of 1 : a": 17, "family n of 1 : a := b;": 18, "family n of 1 @1 : a;": 14, "family n @1 : a;": 12, "family n @5 of 1 : a;": 10, "family n of 1 : with": 16,
		"family n of 1 : a with": 22, "family n of 1 : a with;": 22, "family n of 1 : a with c": 24, "family n of 1 : a with c;": 24, "family n of 1 : a with c :": 26, "family n of 1 : a with c : ;": 27, "family n of 1 : a with c : b": 28, "family n of 1 : a with c := b;": 25, "family n of 1 : a with c : b := d;": 29, "family n of 1 : a with | c : b;": 23, "family n of 1 : a with c : b |": 30, "family n of 1 : a with c : b |;": 30, "family n of 1 : a with c : b | | d : b;": 31, "family n of 1 : a with c : b, d : b;": 28, "family n of 1 : a with c : b with d : b;": 29, "family n of 1 : a with 0 : b;": 23, "family n of 1 : a with in : b;": 23, "family n of 1 : a with c @1 : b;": 25, "family n of 1 : a | c : b;": 18, "family n of 1 : a with c. : b;": 23,
	} {
		if text == "def p : a = b;" {
			noSource(t, text, at, api.ErrForm) // a byte that is not allowed
			continue
		}
		noSource(t, text, at, api.ErrForm)
		reads(t, text)
		// What stands ahead of it changes nothing.
		ahead := "axiom p : a; --\n"
		noSource(t, ahead+text, len(ahead)+at, api.ErrForm)
	}
	// No word that begins a declaration is in a term, and none of a term's begins one.
	for _, word := range strings.Fields("Prop Type fun all let in of with u0 u1 u2 u3 x 0 [ ] { } ) , ; | + @ : :=") {
		noSource(t, word, 0, api.ErrForm)
		noSource(t, "axiom p : a; "+word+" p : a;", 13, api.ErrForm)
	}
	noSource(t, "axiom p : Type 200;", 15, api.ErrLevel)
	noSource(t, "axiom p : Type 200", 15, api.ErrLevel)
	noSource(t, "def p : a := b{0|101 ; #", 23, api.ErrForm)
	noSource(t, "def p : a := b{0|101 ;", 17, api.ErrLevel)
	noSource(t, "family n of 1 : a with c : Type (u0+101);", 33, api.ErrLevel)
}

// P12.2: the numbers behind @ and of.
func TestDeclarationNumbers(t *testing.T) {
	for n := range 200 {
		for kind, start := range []string{"axiom p", "def p", "theorem p", "family p"} {
			behind := []string{" : a;", " : a := b;", " : a := b;", " of 1 : a;"}[kind]
			text := start + " @ " + strconv.Itoa(n)
			list, at, e := Source(text + behind)
			switch {
			case n > 4 && (at != len(start)+3 || e != api.ErrForm || len(list) != 0):
				t.Error(text, at, e)
			case n <= 4 && (at != 0 || e != 0 || list[0].Params != n || list[0].Kind != kind+1):
				t.Error(text, at, e)
			case n > 4:
				noSource(t, text, len(start)+3, api.ErrForm)
			}
		}
		text := "family p @4 of " + strconv.Itoa(n)
		list, at, e := Source(text + " : a;")
		switch {
		case n > 16 && (at != 15 || e != api.ErrForm || len(list) != 0):
			t.Error(text, at, e)
		case n <= 16 && (at != 0 || e != 0 || list[0].Fixed != n || list[0].Params != 4):
			t.Error(text, at, e)
		case n > 16:
			noSource(t, text, 15, api.ErrForm)
		}
	}
	noSource(t, "axiom p @999999 : a;", 9, api.ErrForm)
	noSource(t, "family p of 999999 : a;", 12, api.ErrForm)
}

// P12.2: a family of no constructors, of eight, of nine.
func TestConstructors(t *testing.T) {
	start := "family n of 0 : a"
	for count := range 12 {
		text := start
		for i := range count {
			text += []string{" with ", " | "}[min(i, 1)] + "c" + strconv.Itoa(i) + " : b"
		}
		if count > 8 {
			at := strings.Index(text, "c8")
			noSource(t, text+";", at, api.ErrForm)
			noSource(t, text, at, api.ErrForm)
			continue
		}
		list, at, e := Source(text + ";")
		if at != 0 || e != 0 || len(list) != 1 || len(list[0].Ctors) != count {
			t.Fatal(count, at, e)
		}
		for i, c := range list[0].Ctors {
			if c.Name != "c"+strconv.Itoa(i) || c.At != strings.Index(text, c.Name) || shown(c.Type) != "Const@"+strconv.Itoa(c.At+5)+" b" {
				t.Error(count, i, c)
			}
		}
	}
	eight := start + " with" + strings.Repeat(" c : a |", 8)
	for _, behind := range []string{"", " ", ";", " c", " c : a;", " 0", "|", " fun", " c. : a", " axiom"} {
		noSource(t, eight+behind, len(eight+behind)-len(strings.TrimLeft(behind, " ")), api.ErrForm)
		reads(t, eight+behind)
	}
}

// P12.1: each complete term may have 3,000 nodes; the first one with more is told at its end.
func TestErrManyOfSource(t *testing.T) {
	full, over := sized("a", 1, 3000), sized("a", 1, 3001)
	for _, frame := range []string{
		"axiom p : $;", "def p : $ := b;", "def p : a := $;", "theorem p : $ := b;", "theorem p : a := $;", "family n of 1 : $;", "family n of 1 : $ with c : a;", "family n of 1 : a with c : $;", "family n of 1 : a with c : $ | d : a;", "family n of 1 : a with c : a | d : $;", "axiom p : (f $);", "def p : a := fun (x : $), b;",
	} {
		hole := strings.Index(frame, "$")
		whole := hole
		if strings.Contains(frame, "(") {
			whole = strings.LastIndex(frame[:hole], ": ") + 2
			if at := strings.Index(frame, ":= "); at >= 0 {
				whole = at + 3
			}
			noSource(t, strings.Replace(frame, "$", full, 1), whole, api.ErrMany)
			noSource(t, frame[:hole]+over+" of", hole+len(over)+1, api.ErrForm)
		} else {
			list, at, e := Source(strings.Replace(frame, "$", full, 1))
			if at != 0 || e != 0 || len(list) != 1 {
				t.Error(frame, at, e)
			}
			for _, behind := range []string{"", ")", " of", ",", " axiom", ": b", " 0", "|"} {
				noSource(t, frame[:hole]+over+behind, hole, api.ErrMany)
				reads(t, frame[:hole]+over+behind)
			}
			noSource(t, "axiom q : a;\n"+frame[:hole]+"(("+over+")) fun", hole+13, api.ErrMany)
			noSource(t, frame[:hole]+over+" Type 101;", hole+len(over)+6, api.ErrLevel)
		}
		noSource(t, strings.Replace(frame, "$", over, 1), whole, api.ErrMany)
		noSource(t, strings.Replace(frame, "$", over, 1)+")", whole, api.ErrMany)
		reads(t, strings.Replace(frame, "$", over, 1)+"axiom p : a;")
	}
	// Many terms of the greatest size are no more than each of them.
	many := strings.Repeat("axiom p : "+full+";", 10)
	if list, at, e := Source(many); len(list) != 10 || at != 0 || e != 0 {
		t.Error(len(list), at, e)
	}
	noSource(t, many+"def p : "+over+"; x", len(many)+8, api.ErrMany)
	noSource(t, "def p : "+full+" := "+over+" x 0", len("def p : "+full+" := "), api.ErrMany)
}

// P12.1: no declarations, as many as there may be, and one token more.
func TestErrManyDeclarations(t *testing.T) {
	one := "axiom p : a;"
	full := strings.Repeat(one, 64)
	for _, blank := range []string{"", " ", "\n-- x\n"} {
		list, at, e := Source(full + blank)
		if len(list) != 64 || at != 0 || e != 0 || list[63].At != 63*len(one) {
			t.Error(len(list), at, e)
		}
		for _, token := range strings.Fields("axiom def theorem family Prop Type fun all let in of with u0 x x. 0 17 999999 ( ) [ ] { } , ; | + @ : :=") {
			noSource(t, full+blank+token, len(full+blank), api.ErrMany)
			noSource(t, strings.Repeat(one, 63)+blank+token, 63*len(one)+len(blank)+map[string]int{"axiom": 5, "def": 3, "theorem": 7, "family": 6}[token], api.ErrForm)
		}
		noSource(t, full+blank+one, len(full+blank), api.ErrMany)
		noSource(t, full+blank+"#", len(full+blank), api.ErrForm)
	}
	noSource(t, strings.Repeat(one, 200), 64*len(one), api.ErrMany)
	noSource(t, strings.Repeat(one, 63)+"axiom p : Type 101; x", 63*len(one)+15, api.ErrLevel)
	mixed := strings.Repeat("family n of 0 : a with c : a | d : a; def p : a := b;", 32)
	if list, at, e := Source(mixed); len(list) != 64 || at != 0 || e != 0 {
		t.Error(len(list), at, e)
	}
	noSource(t, mixed+"def", len(mixed), api.ErrMany)
}

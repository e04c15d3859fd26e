package scope

import (
	"math"
	"slices"
	"strings"
	"testing"

	"imprimatur/api"
	"imprimatur/code"
	"imprimatur/level"
	"imprimatur/parse"
	"imprimatur/term"
)

// declKinds: the kinds of declarations.
var declKinds = []int{api.DAxiom, api.DDef, api.DOpaque, api.DFamily}

// binders: the kinds that bind a name in the last of their Args.
var binders = []int{api.TLam, api.TPi, api.TLet}

func v(n int) api.Term { return api.Term{Kind: api.TVar, N: n} }

func prop() api.Term { return api.Term{Kind: api.TProp} }

func typ(l api.Level) api.Term { return api.Term{Kind: api.TType, Levels: []api.Level{l}} }

func c(name string, levels ...api.Level) api.Term {
	return api.Term{Kind: api.TConst, Name: name, Levels: levels}
}

func node(kind int, args ...api.Term) api.Term { return api.Term{Kind: kind, Args: args} }

func lam(typ, body api.Term) api.Term { return node(api.TLam, typ, body) }

func pi(typ, body api.Term) api.Term { return node(api.TPi, typ, body) }

func let(typ, value, body api.Term) api.Term { return node(api.TLet, typ, value, body) }

func app(head api.Term, args ...api.Term) api.Term {
	for _, arg := range args {
		head = node(api.TApp, head, arg)
	}
	return head
}

func proj(n int, name string, part api.Term) api.Term {
	return api.Term{Kind: api.TProj, N: n, Name: name, Args: []api.Term{part}}
}

// lev: a level of a number and of what is added to parameters; -1 is none.
func lev(base int, plus ...int) api.Level {
	l := api.Level{Base: base, Plus: [4]int{-1, -1, -1, -1}}
	copy(l.Plus[:], plus)
	return l
}

// badLevels: levels that are not valid.
func badLevels() []api.Level {
	return []api.Level{{Base: -1}, {Base: 101}, level.Num(-1), lev(101), lev(3, 4), lev(3, -1, -2), lev(3, -1, -1, -1, 4), lev(256), lev(1, 255), {Base: math.MinInt}, {Base: math.MaxInt}}
}

// noNames: texts that are no names.
func noNames() []string {
	list := strings.Split("Prop Type fun all let in of with axiom def theorem family u0 u1 u2 u3", " ")
	return append(list, "", ".", "a.", ".a", "a..b", "1", "_a", "a b", "a)", "\x00", "a\xff", "é", "a\n", strings.Repeat("q", 33), strings.Repeat("q", 70000))
}

// The model: the chapter's words written once more, for what layer 12 can return.

// spot is a node with the names of the binders around it, the innermost one last.
type spot struct {
	r      parse.Raw
	around []string
}

// spots: the nodes of a raw term, each ahead of its Args.
func spots(r parse.Raw) []spot {
	var all []spot
	for rest := []spot{{r, nil}}; len(rest) > 0; {
		next := rest[len(rest)-1]
		rest = rest[:len(rest)-1]
		all = append(all, next)
		for i, arg := range slices.Backward(next.r.Args) {
			around := next.around
			if slices.Contains(binders, next.r.Kind) && i == len(next.r.Args)-1 {
				around = slices.Concat(around, []string{next.r.Name})
			}
			rest = append(rest, spot{arg, around})
		}
	}
	return all
}

// plainError: the first error of a raw term, with its offset.
func plainError(r parse.Raw, params int) (int, api.Errno) {
	for _, s := range spots(r) {
		widest := 0
		for _, l := range s.r.Levels {
			for i, plus := range l.Plus {
				if plus >= 0 {
					widest = max(widest, i+1)
				}
			}
		}
		switch {
		case s.r.Kind == api.TConst && slices.Contains(s.around, s.r.Name) && len(s.r.Levels) > 0:
			return s.r.At, api.ErrForm
		case widest > params:
			return s.r.At, api.ErrLevel
		case slices.Contains(binders, s.r.Kind) && len(s.around) >= 200:
			return s.r.At, api.ErrMany
		}
	}
	return 0, api.OK
}

// plainTerm: what a raw term without an error stands for. It is made from the inside to the outside: each name is a constant, until a binder around it binds it.
func plainTerm(r parse.Raw) api.Term {
	t := api.Term{Kind: r.Kind, N: r.N, Name: r.Name, Levels: slices.Clone(r.Levels)}
	for _, arg := range r.Args {
		t.Args = append(t.Args, plainTerm(arg))
	}
	if slices.Contains(binders, r.Kind) {
		t.Name = ""
		last := len(t.Args) - 1
		t.Args[last] = bound(t.Args[last], r.Name, 0)
	}
	return t
}

// bound: a term with a variable in place of a name that nothing binds yet.
func bound(t api.Term, name string, n int) api.Term {
	if t.Kind == api.TConst && t.Name == name {
		return v(n)
	}
	args := slices.Clone(t.Args)
	for i, arg := range args {
		inside := n
		if slices.Contains(binders, t.Kind) && i == len(args)-1 {
			inside++
		}
		args[i] = bound(arg, name, inside)
	}
	t.Args = args
	return t
}

// plain: the term of a raw one, 0 and OK; or the first error.
func plain(r parse.Raw, params int) (api.Term, int, api.Errno) {
	if params < 0 || params > 4 {
		return api.Term{}, 0, api.ErrRange
	}
	if at, e := plainError(r, params); e != api.OK {
		return api.Term{}, at, e
	}
	return plainTerm(r), 0, api.OK
}

// plainLibrary: the declarations of raw ones, 0 and OK; or the first error.
func plainLibrary(list []parse.Decl) ([]api.Decl, int, api.Errno) {
	all := make([]api.Decl, len(list))
	for i, raw := range list {
		all[i] = api.Decl{Kind: raw.Kind, Name: raw.Name, Params: raw.Params, Fixed: raw.Fixed, Ctors: make([]api.Ctor, len(raw.Ctors))}
		parts, into := []parse.Raw{raw.Type}, []*api.Term{&all[i].Type}
		if raw.Value.Kind != 0 {
			parts, into = append(parts, raw.Value), append(into, &all[i].Value)
		}
		for k, ctor := range raw.Ctors {
			all[i].Ctors[k].Name = ctor.Name
			parts, into = append(parts, ctor.Type), append(into, &all[i].Ctors[k].Type)
		}
		for k, part := range parts {
			x, at, e := plain(part, raw.Params)
			if e != api.OK {
				return nil, at, e
			}
			*into[k] = x
		}
	}
	return all, 0, api.OK
}

func isZero(t api.Term) bool { return term.Same(t, api.Term{}) }

// sameDecl: are two declarations equal, field by field?
func sameDecl(a, b api.Decl) bool {
	sameCtor := func(x, y api.Ctor) bool { return x.Name == y.Name && term.Same(x.Type, y.Type) }
	return a.Kind == b.Kind && a.Params == b.Params && a.Name == b.Name && a.Fixed == b.Fixed &&
		term.Same(a.Type, b.Type) && term.Same(a.Value, b.Value) && slices.EqualFunc(a.Ctors, b.Ctors, sameCtor)
}

func short(text string) string {
	if len(text) > 300 {
		return text[:200] + " .. " + text[len(text)-100:]
	}
	return text
}

// answers asks that a term, an offset and an error are those that are wanted, and that a term beside no error is valid.
func answers(t *testing.T, about any, params int, got api.Term, at int, e api.Errno, want api.Term, wantAt int, wantE api.Errno) {
	t.Helper()
	if at != wantAt || e != wantE || !term.Same(got, want) {
		t.Fatalf("%v, params %d\ngot %d, %d, %v\nwant %d, %d, %v", about, params, at, e, got, wantAt, wantE, want)
	}
	if e == api.OK && !term.Right(got, params, 0) {
		t.Fatalf("%v, params %d: %v is not valid", about, params, got)
	}
}

// termIs asks Term what the chapter's words say of a raw term that layer 12 can return, and tells whether it is a term.
func termIs(t *testing.T, r parse.Raw, params int) bool {
	t.Helper()
	got, at, e := Term(r, params)
	want, wantAt, wantE := plain(r, params)
	answers(t, r, params, got, at, e, want, wantAt, wantE)
	return e == api.OK
}

// reads asks Term and ReadTerm what the chapter's words say of a text, and tells whether it is a term's.
func reads(t *testing.T, text string, params int) bool {
	t.Helper()
	r, wantAt, wantE := parse.Term(text)
	var want api.Term
	if wantE == api.OK {
		termIs(t, r, params)
		want, wantAt, wantE = plain(r, params)
	}
	got, at, e := ReadTerm(text, params)
	answers(t, short(text), params, got, at, e, want, wantAt, wantE)
	return e == api.OK
}

// is asks for the term of a text, written out.
func is(t *testing.T, text string, params int, want api.Term) {
	t.Helper()
	got, at, e := ReadTerm(text, params)
	answers(t, short(text), params, got, at, e, want, 0, api.OK)
	reads(t, text, params)
}

// fails asks for the error of a text that is no term's, written out.
func fails(t *testing.T, text string, params, wantAt int, wantE api.Errno) {
	t.Helper()
	got, at, e := ReadTerm(text, params)
	answers(t, short(text), params, got, at, e, api.Term{}, wantAt, wantE)
	reads(t, text, params)
}

// raw: the raw term of a text.
func raw(t *testing.T, text string) parse.Raw {
	t.Helper()
	r, at, e := parse.Term(text)
	if e != api.OK {
		t.Fatal(short(text), at, e)
	}
	return r
}

// libraryIs asks Library what the chapter's words say of a list, and tells whether it is without an error.
func libraryIs(t *testing.T, list []parse.Decl) bool {
	t.Helper()
	got, at, e := Library(list)
	want, wantAt, wantE := plainLibrary(list)
	if at != wantAt || e != wantE || !slices.EqualFunc(got, want, sameDecl) {
		t.Fatalf("%v\ngot %d, %d, %v\nwant %d, %d, %v", list, at, e, got, wantAt, wantE, want)
	}
	return e == api.OK
}

// readsSource asks Library and Read what the chapter's words say of a text, and tells whether it is a library's.
func readsSource(t *testing.T, text string) bool {
	t.Helper()
	list, wantAt, wantE := parse.Source(text)
	var want []api.Decl
	if wantE == api.OK {
		libraryIs(t, list)
		want, wantAt, wantE = plainLibrary(list)
	}
	got, at, e := Read(text)
	if at != wantAt || e != wantE || !slices.EqualFunc(got, want, sameDecl) {
		t.Fatalf("%q\ngot %d, %d, %v\nwant %d, %d, %v", short(text), at, e, got, wantAt, wantE, want)
	}
	if _, ok := code.Library(got); !ok {
		t.Fatalf("%q: no library", short(text))
	}
	return e == api.OK
}

// sourceIs asks for the library of a text, written out.
func sourceIs(t *testing.T, text string, want ...api.Decl) {
	t.Helper()
	got, at, e := Read(text)
	if at != 0 || e != api.OK || !slices.EqualFunc(got, want, sameDecl) {
		t.Fatalf("%q\ngot %d, %d, %v\nwant %v", short(text), at, e, got, want)
	}
	readsSource(t, text)
}

// sourceFails asks for the error of a text that is no library's, written out.
func sourceFails(t *testing.T, text string, wantAt int, wantE api.Errno) {
	t.Helper()
	if got, at, e := Read(text); at != wantAt || e != wantE || len(got) != 0 {
		t.Fatalf("%q\ngot %d, %d, %v\nwant %d, %d", short(text), at, e, got, wantAt, wantE)
	}
	readsSource(t, text)
}

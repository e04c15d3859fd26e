package move

import (
	"reflect"
	"slices"
	"testing"

	"imprimatur/api"
	"imprimatur/level"
	"imprimatur/term"
)

// roomy: a copy of a term whose lists all have room behind their length, with marks in it.
func roomy(t api.Term) api.Term {
	levels := append(slices.Clone(t.Levels), level.Num(71), level.Num(72))
	args := make([]api.Term, 0, len(t.Args)+2)
	for _, arg := range t.Args {
		args = append(args, roomy(arg))
	}
	args = append(args, c("room"), api.Term{Kind: 73, Levels: make([]api.Level, 1), Args: make([]api.Term, 1)})
	t.Levels, t.Args = levels[:len(t.Levels)], args[:len(t.Args)]
	return t
}

// whole: a copy of a term's lists with all the room behind their length.
func whole(t api.Term) api.Term {
	t.Levels = slices.Clone(t.Levels[:cap(t.Levels)])
	var args []api.Term
	for _, arg := range t.Args[:cap(t.Args)] {
		args = append(args, whole(arg))
	}
	t.Args = args
	return t
}

// given is all that the functions are given.
type given struct {
	term   api.Term
	args   []api.Term
	levels []api.Level
	names  []string
	locals []Local
}

// roomyGiven: arguments around a term, all with room behind their length.
func roomyGiven(x api.Term) given {
	g := given{term: roomy(x)}
	g.args = roomy(node(0, c("p", level.Num(3)), x, node(api.TApp, c("q"), v(2)))).Args
	g.levels = append(make([]api.Level, 0, 9), level.Param(2, 0), level.Num(1), level.Param(0, 0), level.Num(0), level.Num(7), level.Num(8))[:4]
	g.names = append(make([]string, 0, 9), "a", "b", "s", "room", "fun")[:3]
	g.locals = append(make([]Local, 0, 9), Local{"a", g.args[0]}, Local{"b", g.args[1]}, Local{"s", g.args[2]}, Local{"room", g.args[0]})[:3]
	return g
}

// all: a copy of all that is given, with all the room behind each length.
func (g given) all() given {
	locals := slices.Clone(g.locals[:cap(g.locals)])
	for i, l := range locals {
		locals[i].Type = whole(l.Type)
	}
	return given{whole(g.term), whole(api.Term{Args: g.args}).Args, slices.Clone(g.levels[:cap(g.levels)]), slices.Clone(g.names[:cap(g.names)]), locals}
}

// span is the memory of a list, from its first byte to the one behind its room. It holds the list, so that nothing else comes to stand there.
type span struct {
	from, to uintptr
	list     any
}

func spanOf(list any) span {
	l := reflect.ValueOf(list)
	return span{l.Pointer(), l.Pointer() + uintptr(l.Cap())*l.Type().Elem().Size(), list}
}

// spans: the memory of all lists of a term that have any.
func spans(t api.Term) []span {
	var list []span
	if t.Levels != nil {
		list = append(list, spanOf(t.Levels))
	}
	if t.Args != nil {
		list = append(list, spanOf(t.Args))
	}
	for _, arg := range t.Args[:cap(t.Args)] {
		list = append(list, spans(arg)...)
	}
	return list
}

// spansOpen: the memory of locals and of a body.
func spansOpen(locals []Local, body api.Term) []span {
	list := spans(body)
	if locals != nil {
		list = append(list, spanOf(locals))
	}
	for _, l := range locals[:cap(locals)] {
		list = append(list, spans(l.Type)...)
	}
	return list
}

// spans: the memory of all that is given.
func (g given) spans() []span {
	list := append(spans(g.term), spans(api.Term{Args: g.args})...)
	return append(append(list, spansOpen(g.locals, api.Term{})...), spanOf(g.levels))
}

// apart asks that no two of the spans share memory, and none of them is one of an argument.
func apart(t *testing.T, about string, result, given []span) {
	t.Helper()
	for i, a := range result {
		// A list that is empty and begins where another one does has no byte of its own, but holds on to the other's memory.
		for _, b := range append(slices.Clone(given), result[:i]...) {
			if a.from < b.to && b.from < a.to || a.from == b.from {
				t.Fatal(about, "shares memory")
			}
		}
	}
}

// everything calls each function, and tells which lists were answered; it answers how many calls had a result.
func (g given) everything(use func(about string, spans []span)) int {
	results := 0
	one := func(about string, got api.Term, ok bool) {
		if ok {
			results++
		}
		use(about, spans(got))
	}
	for _, n := range [][2]int{{0, 0}, {2, 1}, {-1, 1}, {3, most}} {
		got, ok := Shift(g.term, n[0], n[1])
		one("Shift", got, ok)
	}
	for n := range len(g.args) + 1 {
		got, ok := Put(g.term, g.args[:n]...)
		one("Put", got, ok)
		got, ok = Pull(g.term, g.names[:n]...)
		one("Pull", got, ok)
		for _, kind := range []int{api.TLam, api.TPi, api.TApp} {
			got, ok = Close(g.term, kind, g.locals[:n]...)
			one("Close", got, ok)
			locals, body, ok := Open(g.term, kind, g.names[:n]...)
			one("Open", body, ok)
			use("Open", spansOpen(locals, body))
		}
	}
	got, ok := Put(v(0), g.term)
	one("Put", got, ok)
	got, ok = Put(node(api.TLam, v(0), v(1)), g.term)
	one("Put", got, ok)
	for _, by := range [][]api.Level{nil, g.levels} {
		got, ok := Levels(g.term, by)
		one("Levels", got, ok)
	}
	for _, name := range []string{"a", "none", ""} {
		got, ok := Rename(g.term, name, "z")
		one("Rename", got, ok)
	}
	return results
}

// subjects: terms to call everything with, each with something to share.
func subjects() []api.Term {
	u := level.Param(2, 1)
	part := term.App(c("f", u, u), c("a"), node(api.TLam, c("b"), c("d", u)), c("a", u), typ(u), v(0), v(1), v(5))
	list := []api.Term{part, node(api.TPi, part, node(api.TPi, part, node(api.TPi, part, part))), node(api.TLam, part, node(api.TLam, part, node(api.TLam, part, part))), node(api.TLet, part, part, part), proj(1, "s", part), api.Term{Levels: []api.Level{}, Args: []api.Term{}}, api.Term{Kind: api.TConst, Name: "a", Levels: []api.Level{}, Args: []api.Term{}}, api.Term{Kind: api.TVar, Levels: []api.Level{}, Args: []api.Term{}}}
	for _, x := range odd() {
		if term.Nodes(x) < 1000 {
			list = append(list, x)
		}
	}
	return append(list, samples()...)
}

// P9.5: arguments stay as they are, with the memory behind their length.
func TestArgumentsUnchanged(t *testing.T) {
	results := 0
	for i, x := range subjects() {
		g := roomyGiven(x)
		before := g.all()
		results += g.everything(func(string, []span) {})
		if !reflect.DeepEqual(g.all(), before) {
			t.Error(i)
		}
	}
	if results < 1000 {
		t.Error("only", results)
	}
}

// P9.5: results are new memory: no two lists of one result share any, and none shares any with an argument, also where one argument is given twice and where its parts share theirs.
func TestResultsAreNew(t *testing.T) {
	for _, x := range subjects() {
		g := roomyGiven(x)
		if len(x.Args) > 0 {
			for i := range g.term.Args {
				g.term.Args[i] = g.term.Args[0]
			}
		}
		g.args[1] = g.term
		g.args = append(g.args[:2:2], g.term)
		g.locals[1].Type, g.locals[2].Type = g.term, g.term
		memory := g.spans()
		g.everything(func(about string, result []span) { apart(t, about, result, memory) })
	}
}

// P9.5: what is done to an answer, or to an argument later, shows nowhere else.
func TestNothingIsKept(t *testing.T) {
	for range 2 {
		x := term.App(c("f", level.Num(1)), c("a"), node(api.TPi, typ(level.Param(0, 0)), node(api.TApp, v(1), c("a"))), v(0))
		arg := node(api.TApp, c("b"), typ(level.Num(2)))
		args, names, levels, locals := []api.Term{arg}, []string{"a"}, []api.Level{level.Num(4)}, []Local{{"a", arg}}
		want := map[string]api.Term{}
		got := map[string]api.Term{}
		keep := func(about string, y api.Term, ok bool) {
			if !ok {
				t.Fatal(about)
			}
			got[about], want[about] = y, term.Clone(y)
		}
		y, ok := Shift(x, 0, 0)
		keep("Shift", y, ok)
		y, ok = Put(x, args...)
		keep("Put", y, ok)
		y, ok = Pull(x, names...)
		keep("Pull", y, ok)
		y, ok = Levels(x, levels)
		keep("Levels", y, ok)
		y, ok = Rename(x, "a", "z")
		keep("Rename", y, ok)
		y, ok = Close(x, api.TLam, locals...)
		keep("Close", y, ok)
		l, b, ok := Open(y, api.TLam, names...)
		keep("Open", b, ok)
		keep("Open's local", l[0].Type, true)
		spoil(x)
		spoil(arg)
		args[0], names[0], levels[0], locals[0] = c("spoilt"), "spoilt", level.Num(98), Local{"spoilt", prop()}
		for about := range got {
			for other, y := range got {
				if !term.Same(y, want[other]) {
					t.Error(about, other)
				}
			}
			spoil(got[about])
			want[about] = term.Clone(got[about])
		}
	}
}

// spoil writes over all lists of a term.
func spoil(t api.Term) {
	for i := range t.Levels {
		t.Levels[i] = level.Num(99)
	}
	for i := range t.Args {
		spoil(t.Args[i])
		t.Args[i] = c("spoilt")
	}
}

package term

import (
	"reflect"
	"slices"
	"testing"

	"imprimatur/api"
	"imprimatur/level"
)

// roomy: a copy of a term whose lists all have room behind their length, with marks in it.
func roomy(t api.Term) api.Term {
	levels := append(slices.Clone(t.Levels), level.Num(71), level.Num(72))
	args := make([]api.Term, 0, len(t.Args)+2)
	for _, arg := range t.Args {
		args = append(args, roomy(arg))
	}
	args = append(args, c("room"), api.Term{Kind: 73, Levels: make([]api.Level, 1), Args: make([]api.Term, 1)})
	t.Levels, t.Args = levels[:len(t.Levels)], args[:len(t.Args)]
	return t
}

// whole: a copy of a term's lists with all the room behind their length.
func whole(t api.Term) api.Term {
	t.Levels = slices.Clone(t.Levels[:cap(t.Levels)])
	var args []api.Term
	for _, arg := range t.Args[:cap(t.Args)] {
		args = append(args, whole(arg))
	}
	t.Args = args
	return t
}

// span is the memory of a list, from its first byte to the one behind its room. It holds the list, so that nothing else comes to stand there.
type span struct {
	from, to uintptr
	list     any
}

func spanOf(list any) span {
	l := reflect.ValueOf(list)
	return span{l.Pointer(), l.Pointer() + uintptr(l.Cap())*l.Type().Elem().Size(), list}
}

// spans: the memory of all lists of a term that have any.
func spans(t api.Term) []span {
	var list []span
	if t.Levels != nil {
		list = append(list, spanOf(t.Levels))
	}
	if t.Args != nil {
		list = append(list, spanOf(t.Args))
	}
	for _, arg := range t.Args[:cap(t.Args)] {
		list = append(list, spans(arg)...)
	}
	return list
}

// spansAll: likewise of a list of terms.
func spansAll(list []api.Term) []span { return spans(api.Term{Args: list}) }

// apart asks that no two of the spans share memory, and none of them is one of an argument.
func apart(t *testing.T, about string, result, given []span) {
	t.Helper()
	for i, a := range result {
		// A list that is empty and begins where another one does has no byte of its own, but holds on to the other's memory.
		for _, b := range append(slices.Clone(given), result[:i]...) {
			if a.from < b.to && b.from < a.to || a.from == b.from {
				t.Fatal(about, "shares memory")
			}
		}
	}
}

// everything calls each function that takes a term, and tells which lists were answered.
func everything(x api.Term, list []api.Term, use func(about string, spans []span)) {
	Right(x, 4, 1<<40)
	Right(x, 0, 0)
	Nodes(x)
	Loose(x)
	Uses(x, 0)
	Same(x, x)
	Same(x, list[0])
	use("Clone", spans(Clone(x)))
	if names := Consts(x); len(names) > 0 {
		use("Consts", []span{spanOf(names)})
	}
	head, args := Spine(x)
	use("Spine", append(spans(head), spansAll(args)...))
	use("App", spans(App(x, list...)))
	use("App of none", spans(App(x)))
	use("Bind", spans(Bind(api.TPi, x, list...)))
	use("Bind of none", spans(Bind(api.TPi, x)))
	for _, kind := range []int{api.TLam, api.TPi, api.TLet, api.TApp} {
		types, body := Strip(x, kind)
		use("Strip", append(spansAll(types), spans(body)...))
	}
}

// subjects: terms to call everything with, each with something to share.
func subjects() []api.Term {
	list := samples()
	for _, x := range odd() {
		if size(x) < 1000 {
			list = append(list, x)
		}
	}
	u := level.Param(2, 1)
	long := App(c("f", u, u), c("a", u), node(api.TLam, c("b"), c("d", u)), c("a", u), typ(u))
	return append(list, long, Bind(api.TPi, long, typ(u), long, c("b", u)), Bind(api.TLam, long, typ(u), long, c("b", u)), api.Term{Levels: []api.Level{}, Args: []api.Term{}})
}

// P8.3: arguments stay as they are, with the memory behind their length.
func TestArgumentsUnchanged(t *testing.T) {
	for i, x := range subjects() {
		x = roomy(x)
		list := roomy(node(0, c("p", level.Num(3)), x, node(api.TApp, c("q"), v(2)))).Args
		before, listBefore := whole(x), whole(api.Term{Args: list})
		everything(x, list, func(string, []span) {})
		everything(x, list[:1], func(string, []span) {})
		if !reflect.DeepEqual(whole(x), before) || !reflect.DeepEqual(whole(api.Term{Args: list}), listBefore) {
			t.Error(i)
		}
	}
}

// P8.3: results are new memory: no two lists of one result share any, and none shares any with an argument, also where one argument is given twice.
func TestResultsAreNew(t *testing.T) {
	for _, x := range subjects() {
		x = roomy(x)
		list := []api.Term{x, roomy(c("p", level.Num(3))), x}
		list = append(list, api.Term{Levels: x.Levels[:0], Args: x.Args[:0]})
		given := append(spans(x), spansAll(list)...)
		everything(x, list, func(about string, result []span) { apart(t, about, result, given) })
	}
}

// P8.3: results are new memory where parts of one argument share theirs.
func TestResultsOfShared(t *testing.T) {
	part := roomy(App(c("f", level.Num(1)), typ(level.Num(2))))
	x := node(api.TApp, node(api.TApp, node(api.TLam, part, part), part), part)
	y := node(api.TPi, part, node(api.TPi, part, part))
	for _, z := range []api.Term{x, y} {
		given := append(spans(z), spansAll([]api.Term{part, z})...)
		everything(z, []api.Term{part, part, z}, func(about string, result []span) { apart(t, about, result, given) })
	}
}

// P8.3: what is done to an answer, or to an argument later, shows nowhere else.
func TestNothingIsKept(t *testing.T) {
	for range 2 {
		x := App(c("f", level.Num(1)), c("a", level.Num(2)), Bind(api.TPi, v(0), typ(level.Num(3))))
		want := plain(x)
		copied, names := Clone(x), Consts(x)
		head, args := Spine(x)
		applied, bound := App(x, x), Bind(api.TLam, x, x)
		types, body := Strip(bound, api.TLam)
		spoil(x)
		if !equal(copied, want) || !slices.Equal(names, []string{"a", "f"}) || !equal(App(head, args...), want) || !equal(applied, node(api.TApp, want, want)) || !equal(bound, node(api.TLam, want, want)) {
			t.Error(copied, names, head, args, applied, bound)
		}
		spoil(bound)
		if !equalAll(types, []api.Term{want}) || !equal(body, want) {
			t.Error(types, body)
		}
		spoil(types[0])
		names[0] = "spoilt"
		if !equal(body, want) || !equal(copied, want) {
			t.Error(body)
		}
	}
}

// spoil writes over all lists of a term.
func spoil(t api.Term) {
	for i := range t.Levels {
		t.Levels[i] = level.Num(99)
	}
	for i := range t.Args {
		spoil(t.Args[i])
		t.Args[i] = c("spoilt")
	}
}

package show

import (
	"reflect"
	"slices"
	"strings"
	"testing"
	"unsafe"

	"imprimatur/api"
	"imprimatur/level"
	"imprimatur/term"
)

// roomy: a copy of a term whose lists all have room behind their length, with marks in it.
func roomy(t api.Term) api.Term {
	levels := append(slices.Clone(t.Levels), level.Num(71), level.Num(72))
	args := make([]api.Term, 0, len(t.Args)+2)
	for _, arg := range t.Args {
		args = append(args, roomy(arg))
	}
	args = append(args, c("room"), api.Term{Kind: 73, Levels: make([]api.Level, 1), Args: make([]api.Term, 1)})
	t.Levels, t.Args = levels[:len(t.Levels)], args[:len(t.Args)]
	return t
}

// roomyDecl: likewise of a declaration.
func roomyDecl(d api.Decl) api.Decl {
	d.Type, d.Value = roomy(d.Type), roomy(d.Value)
	var ctors []api.Ctor
	for _, ctor := range d.Ctors {
		ctors = append(ctors, api.Ctor{Name: ctor.Name, Type: roomy(ctor.Type)})
	}
	ctors = append(ctors, api.Ctor{Name: "room", Type: c("room")}, api.Ctor{})
	d.Ctors = ctors[:len(d.Ctors)]
	return d
}

// whole: a copy of a term's lists with all the room behind their length.
func whole(t api.Term) api.Term {
	t.Levels = slices.Clone(t.Levels[:cap(t.Levels)])
	var args []api.Term
	for _, arg := range t.Args[:cap(t.Args)] {
		args = append(args, whole(arg))
	}
	t.Args = args
	return t
}

// wholeAll: likewise of declarations.
func wholeAll(list []api.Decl) []api.Decl {
	var all []api.Decl
	for _, d := range list[:cap(list)] {
		d.Type, d.Value = whole(d.Type), whole(d.Value)
		var ctors []api.Ctor
		for _, ctor := range d.Ctors[:cap(d.Ctors)] {
			ctors = append(ctors, api.Ctor{Name: ctor.Name, Type: whole(ctor.Type)})
		}
		d.Ctors = ctors
		all = append(all, d)
	}
	return all
}

// P13.3: arguments stay as they are, with the memory behind their length, also where there is no text.
func TestArgumentsUnchanged(t *testing.T) {
	for i, x := range append(samples(), odd()...) {
		if len(x.Args) > 100 || len(x.Levels) > 100 || term.Nodes(x) > 2000 {
			continue
		}
		x = roomy(x)
		before := whole(x)
		Term(x)
		if !reflect.DeepEqual(whole(x), before) {
			t.Error(i)
		}
	}
	list := []api.Decl{}
	for _, d := range append(sampleDecls(), api.Decl{}, def("fun", 0, prop(), prop()), family("n", 0, prop(), 1, api.Ctor{Name: "c", Type: v(0)})) {
		list = append(list, roomyDecl(d))
	}
	room := len(list)
	list = append(list, roomyDecl(axiom("room", 0, prop())))
	before := wholeAll(list)
	for _, d := range list {
		Decl(d)
	}
	Library(list[:10])
	Library(list[:room])
	if !reflect.DeepEqual(wholeAll(list), before) {
		t.Error("declarations")
	}
}

// P13.3: what stands behind the length of an argument is no part of it.
func TestRoomIsNothing(t *testing.T) {
	for _, x := range samples() {
		got, ok := Term(roomy(x))
		answers(t, x, got, ok, plainTerm(x), true)
	}
	for _, d := range sampleDecls() {
		got, ok := Decl(roomyDecl(d))
		answers(t, d, got, ok, plainDecl(d), true)
	}
	taken := []string{"x1", "x0", "x2"}
	if got := Fresh(2, taken[:1]...); !slices.Equal(got, []string{"x0", "x2"}) || !slices.Equal(taken, []string{"x1", "x0", "x2"}) {
		t.Error(got, taken)
	}
}

// P13.3: the names that are taken stay as they are, in their order, with the memory behind them.
func TestTakenUnchanged(t *testing.T) {
	for n := -1; n < 12; n++ {
		taken := []string{"x7", "b", "x0", "x7", "", "x3", "x00", "room", "x1"}
		before := slices.Clone(taken)
		Fresh(n, taken[:7]...)
		if !slices.Equal(taken, before) {
			t.Error(n, taken)
		}
	}
}

// lender gives texts out in memory that it changes later.
type lender struct{ given [][]byte }

func (l *lender) lend(text string) string {
	if text == "" {
		return ""
	}
	b := []byte(text)
	l.given = append(l.given, b)
	return unsafe.String(&b[0], len(b))
}

func (l *lender) spoil() {
	for _, b := range l.given {
		for i := range b {
			b[i] = '?'
		}
	}
}

// term: a copy of a term whose names are lent.
func (l *lender) term(t api.Term) api.Term {
	t = term.Clone(t)
	t.Name = l.lend(t.Name)
	for i := range t.Args {
		t.Args[i] = l.term(t.Args[i])
	}
	return t
}

func (l *lender) decl(d api.Decl) api.Decl {
	d.Name, d.Type, d.Value = l.lend(d.Name), l.term(d.Type), l.term(d.Value)
	d.Ctors = slices.Clone(d.Ctors)
	for i, ctor := range d.Ctors {
		d.Ctors[i] = api.Ctor{Name: l.lend(ctor.Name), Type: l.term(ctor.Type)}
	}
	return d
}

// P13.3: what is done to an argument later shows in no text and in no name: nothing of it is kept, nor does an answer share its memory.
func TestTextsAreNew(t *testing.T) {
	for _, x := range append(samples(), c("alone")) {
		var l lender
		got, ok := Term(l.term(x))
		l.spoil()
		answers(t, x, got, ok, plainTerm(x), true)
		again, ok := Term(x)
		answers(t, x, again, ok, got, true)
	}
	list := sampleDecls()
	var all lender
	lent := []api.Decl{}
	for _, d := range list {
		var l lender
		got, ok := Decl(l.decl(d))
		l.spoil()
		answers(t, d, got, ok, plainDecl(d), true)
		lent = append(lent, all.decl(d))
	}
	got, ok := Library(lent)
	all.spoil()
	clear(lent)
	answers(t, "library", got, ok, plainLibrary(list), true)
	var l lender
	names := Fresh(3, l.lend("x0"), l.lend("x2"), l.lend("x4"), l.lend("x9"))
	l.spoil()
	if !slices.Equal(names, []string{"x1", "x3", "x5"}) {
		t.Error(names)
	}
}

// P13.3: the names of one answer are nothing to another, nor is the room behind them.
func TestNamesAreNew(t *testing.T) {
	for range 2 {
		for _, n := range []int{1, 3, 5, 100, 1000} {
			taken := []string{"x1", "y", "x0", "x2", "z"}
			got := Fresh(n, taken...)
			want := slices.Clone(got)
			other := Fresh(n, taken...)
			for i := range got[:cap(got)] {
				got[:cap(got)][i] = "spoilt"
			}
			if !slices.Equal(other, want) || !slices.Equal(Fresh(n, taken...), want) || !slices.Equal(taken, []string{"x1", "y", "x0", "x2", "z"}) {
				t.Error(n, other, taken)
			}
			text, _ := Term(node(api.TLam, prop(), v(0)))
			if text != "fun (x0 : Prop), x0" {
				t.Error(text)
			}
		}
		for _, name := range Fresh(7, "x3")[7:cap(Fresh(7, "x3"))] {
			if name != "" {
				t.Error(name)
			}
		}
	}
}

// P13.1: an empty list and one that is nil are the same.
func TestEmptyLists(t *testing.T) {
	x := api.Term{Kind: api.TLam, Levels: []api.Level{}, Args: []api.Term{{Kind: api.TProp, Levels: []api.Level{}, Args: []api.Term{}}, {Kind: api.TVar, Levels: []api.Level{}, Args: []api.Term{}}}}
	textIs(t, "fun (x0 : Prop), x0", x)
	d := api.Decl{Kind: api.DFamily, Name: "n", Type: x, Value: api.Term{Levels: []api.Level{}, Args: []api.Term{}}, Ctors: []api.Ctor{}}
	got, ok := Decl(d)
	answers(t, d, got, ok, "family n of 0 : fun (x0 : Prop), x0;", true)
	d.Kind = api.DAxiom
	got, ok = Decl(d)
	answers(t, d, got, ok, "axiom n : fun (x0 : Prop), x0;", true)
}

// P13.1: parts of one term that share their memory.
func TestSharedParts(t *testing.T) {
	part := app(c("x0"), node(api.TLam, c("x1"), v(0)))
	textIs(t, "(fun (x2 : x0 (fun (x2 : x1), x2)), x0 (fun (x3 : x1), x3)) (x0 (fun (x2 : x1), x2)) (x0 (fun (x2 : x1), x2))", app(node(api.TLam, part, part), part, part))
	list := slices.Repeat([]api.Decl{def("d", 0, part, part)}, 3)
	got, ok := Library(list)
	answers(t, list, got, ok, strings.Repeat("def d : x0 (fun (x2 : x1), x2) := x0 (fun (x2 : x1), x2);\n", 3), true)
}

package scope

import (
	"reflect"
	"slices"
	"testing"
	"unsafe"

	"imprimatur/api"
	"imprimatur/parse"
)

const (
	sampleTerm   = "fun (x : f{u0, 1} a), let y.z : Type (u1+2) := [3 of s x] in f{0,1,2,3} (y.z x) b"
	sampleSource = "axiom p @2 : " + sampleTerm + "; def d @4 : a := b (c{u3}); theorem d.t : fun (a : b), a := all (b : a), b; family n of 2 : Prop with z : n | s : all (m : n), n m;"
)

// source: the raw declarations of a text.
func source(t *testing.T, text string) []parse.Decl {
	t.Helper()
	list, at, e := parse.Source(text)
	if e != api.OK {
		t.Fatal(text, at, e)
	}
	return list
}

// roomy: a copy of a raw term whose lists all have room behind their length, with marks in it.
func roomy(r parse.Raw) parse.Raw {
	levels := append(slices.Clone(r.Levels), lev(71), lev(72))
	args := make([]parse.Raw, 0, len(r.Args)+2)
	for _, arg := range r.Args {
		args = append(args, roomy(arg))
	}
	args = append(args, rawNode(api.TConst, "room"), parse.Raw{Kind: 73, Levels: make([]api.Level, 1), Args: make([]parse.Raw, 1)})
	r.Levels, r.Args = levels[:len(r.Levels)], args[:len(r.Args)]
	return r
}

// roomyDecl: likewise of a declaration.
func roomyDecl(d parse.Decl) parse.Decl {
	d.Type, d.Value = roomy(d.Type), roomy(d.Value)
	var ctors []parse.Ctor
	for _, ctor := range d.Ctors {
		ctors = append(ctors, parse.Ctor{Name: ctor.Name, At: ctor.At, Type: roomy(ctor.Type)})
	}
	ctors = append(ctors, parse.Ctor{Name: "room", Type: rawNode(api.TConst, "room")}, parse.Ctor{})
	d.Ctors = ctors[:len(d.Ctors)]
	return d
}

// whole: a copy of a raw term's lists with all the room behind their length.
func whole(r parse.Raw) parse.Raw {
	r.Levels = slices.Clone(r.Levels[:cap(r.Levels)])
	var args []parse.Raw
	for _, arg := range r.Args[:cap(r.Args)] {
		args = append(args, whole(arg))
	}
	r.Args = args
	return r
}

// wholeAll: likewise of declarations.
func wholeAll(list []parse.Decl) []parse.Decl {
	var all []parse.Decl
	for _, d := range list[:cap(list)] {
		d.Type, d.Value = whole(d.Type), whole(d.Value)
		var ctors []parse.Ctor
		for _, ctor := range d.Ctors[:cap(d.Ctors)] {
			ctors = append(ctors, parse.Ctor{Name: ctor.Name, At: ctor.At, Type: whole(ctor.Type)})
		}
		d.Ctors = ctors
		all = append(all, d)
	}
	return all
}

// P14.3: arguments stay as they are, with the memory behind their length, which is no part of them; also where there is an error.
func TestArgumentsUnchanged(t *testing.T) {
	texts := []string{"a", "Prop", "Type u3", "fun (a : b), a", "fun (a : b), a{0}", "f{u0,1} (all (a : b), c Type(u1|u2))", "[0 of s (let a : b := c in a)]", nested(201, func(int) int { return api.TLet }, "a"), sampleTerm}
	for _, text := range texts {
		for params := -1; params < 6; params++ {
			r := roomy(raw(t, text))
			before := whole(r)
			termIs(t, r, params)
			if !reflect.DeepEqual(whole(r), before) {
				t.Error(text, params)
			}
		}
	}
	for _, r := range wrongNodes() {
		if len(r.Args) > 100 || len(r.Levels) > 100 {
			continue
		}
		r = roomy(r)
		before := whole(r)
		refuses(t, r, 4, r.At)
		if !reflect.DeepEqual(whole(r), before) {
			t.Error(r)
		}
	}
	for _, text := range []string{sampleSource, sampleSource + "axiom p : Type u0;", "axiom p : fun (a : b), a{0};" + sampleSource} {
		var list []parse.Decl
		for _, d := range source(t, text) {
			list = append(list, roomyDecl(d))
		}
		room := len(list)
		list = append(list, roomyDecl(source(t, "axiom room : room;")[0]))
		before := wholeAll(list)
		libraryIs(t, list[:room])
		if !reflect.DeepEqual(wholeAll(list), before) {
			t.Error(text)
		}
	}
}

// lender gives texts out in memory that it changes later.
type lender struct{ given [][]byte }

func (l *lender) lend(text string) string {
	if text == "" {
		return ""
	}
	b := append([]byte(text), "room"...)
	l.given = append(l.given, b)
	return unsafe.String(&b[0], len(text))
}

func (l *lender) spoil() {
	for _, b := range l.given {
		for i := range b {
			b[i] = '?'
		}
	}
}

// raw: a copy of a raw term whose names are lent.
func (l *lender) raw(r parse.Raw) parse.Raw {
	r = cloned(r)
	r.Name = l.lend(r.Name)
	for i, arg := range r.Args {
		r.Args[i] = l.raw(arg)
	}
	return r
}

func (l *lender) decl(d parse.Decl) parse.Decl {
	d.Name, d.Type, d.Value = l.lend(d.Name), l.raw(d.Type), l.raw(d.Value)
	d.Ctors = slices.Clone(d.Ctors)
	for i, ctor := range d.Ctors {
		d.Ctors[i] = parse.Ctor{Name: l.lend(ctor.Name), At: ctor.At, Type: l.raw(ctor.Type)}
	}
	return d
}

// spoilRaw writes over all lists of a raw term.
func spoilRaw(r parse.Raw) {
	for i := range r.Levels {
		r.Levels[i] = lev(99)
	}
	for i, arg := range r.Args {
		spoilRaw(arg)
		r.Args[i] = parse.Raw{}
	}
}

// P14.3: what is done to an argument later shows in no term and no declaration: a result has no memory of it, not even of its texts.
func TestResultsAreNew(t *testing.T) {
	for _, text := range []string{sampleTerm, "a", "[1 of s a]", "f{0,u1}", "Type u1"} {
		want, _, _ := plain(raw(t, text), 2)
		var l lender
		r := l.raw(raw(t, text))
		got, _, _ := Term(r, 2)
		l.spoil()
		spoilRaw(r)
		answers(t, text, 2, got, 0, 0, want, 0, 0)
		got, at, e := ReadTerm(l.lend(text), 2)
		l.spoil()
		answers(t, text, 2, got, at, e, want, 0, 0)
	}
	want, _, _ := plainLibrary(source(t, sampleSource))
	var l lender
	list := source(t, sampleSource)
	for i := range list {
		list[i] = l.decl(list[i])
	}
	got, _, _ := Library(list)
	l.spoil()
	for _, d := range list {
		spoilRaw(d.Type)
		spoilRaw(d.Value)
		for _, ctor := range d.Ctors {
			spoilRaw(ctor.Type)
		}
		clear(d.Ctors)
	}
	clear(list)
	read, _, _ := Read(l.lend(sampleSource))
	l.spoil()
	if !slices.EqualFunc(got, want, sameDecl) || !slices.EqualFunc(read, want, sameDecl) {
		t.Error(got, read)
	}
}

// P14.3: a text stays as it is, with the memory behind it.
func TestTextsUnchanged(t *testing.T) {
	for _, text := range []string{sampleTerm, sampleSource, "a", "a)", "#", "fun (a : b), a{0}", "axiom p : Type u0;"} {
		var l lender
		given := l.lend(text)
		reads(t, given, 2)
		readsSource(t, given)
		if string(l.given[0]) != text+"room" {
			t.Errorf("%q", l.given[0])
		}
	}
}

// span: from where to where a slice's memory reaches, its spare room too.
type span struct{ from, to uintptr }

func spanOf[T any](list []T) span {
	var one T
	from := uintptr(unsafe.Pointer(unsafe.SliceData(list)))
	return span{from, from + uintptr(cap(list))*unsafe.Sizeof(one)}
}

// spans: of all slices of a term.
func spans(x api.Term) []span {
	all := []span{spanOf(x.Levels), spanOf(x.Args)}
	for _, arg := range x.Args {
		all = append(all, spans(arg)...)
	}
	return all
}

// rawSpans: of all slices of a raw term.
func rawSpans(r parse.Raw) []span {
	all := []span{spanOf(r.Levels), spanOf(r.Args)}
	for _, arg := range r.Args {
		all = append(all, rawSpans(arg)...)
	}
	return all
}

func apart(t *testing.T, all []span) {
	t.Helper()
	all = slices.DeleteFunc(all, func(s span) bool { return s.from == s.to })
	slices.SortFunc(all, func(a, b span) int {
		if a.from < b.from {
			return -1
		}
		return 1
	})
	for i := 1; i < len(all); i++ {
		if all[i].from < all[i-1].to {
			t.Error("shared memory")
		}
	}
}

// Rule 4: no two slices of one result share memory, nor do those of two results, or of a result and an argument; parts of an argument that share theirs become parts that do not.
func TestSlicesApart(t *testing.T) {
	r := raw(t, sampleTerm)
	shared := rawNode(api.TApp, "", r, r)
	a, _, _ := Term(shared, 2)
	b, _, _ := Term(shared, 2)
	own, _, _ := ReadTerm(sampleTerm, 2)
	all := slices.Concat(rawSpans(r), spans(a), spans(b), spans(own))
	list := source(t, sampleSource)
	list = append(list, list...)
	one, _, _ := Library(list)
	two, _, _ := Library(list)
	three, _, _ := Read(sampleSource)
	for _, got := range [][]api.Decl{one, two, three} {
		all = append(all, spanOf(got))
		for _, d := range got {
			all = slices.Concat(all, []span{spanOf(d.Ctors)}, spans(d.Type), spans(d.Value))
			for _, ctor := range d.Ctors {
				all = append(all, spans(ctor.Type)...)
			}
		}
	}
	for _, d := range list[:4] {
		all = slices.Concat(all, []span{spanOf(d.Ctors)}, rawSpans(d.Type), rawSpans(d.Value))
	}
	apart(t, all)
	if len(one) != 8 || len(all) < 500 {
		t.Error(len(one), len(all))
	}
}

// Rule 4: the spare room of a result is new memory too.
func TestSpareRoom(t *testing.T) {
	list, _, _ := Read(sampleSource)
	for _, d := range list[len(list):cap(list)] {
		if !reflect.DeepEqual(d, api.Decl{}) {
			t.Error(d)
		}
	}
	ctors := list[3].Ctors
	for _, ctor := range ctors[len(ctors):cap(ctors)] {
		if !reflect.DeepEqual(ctor, api.Ctor{}) {
			t.Error(ctor)
		}
	}
}

// P14.3: an empty list and one that is nil are the same.
func TestEmptyLists(t *testing.T) {
	r := parse.Raw{Kind: api.TLam, Name: "a", Levels: []api.Level{}, Args: []parse.Raw{{Kind: api.TProp, Levels: []api.Level{}, Args: []parse.Raw{}}, {Kind: api.TConst, Name: "a", Levels: []api.Level{}, Args: []parse.Raw{}}}}
	got, at, e := Term(r, 0)
	answers(t, r, 0, got, at, e, lam(prop(), v(0)), 0, api.OK)
	list, at, e := Library([]parse.Decl{{Kind: api.DFamily, Name: "n", Type: r, Value: parse.Raw{Levels: []api.Level{}, Args: []parse.Raw{}}, Ctors: []parse.Ctor{}}})
	if at != 0 || e != api.OK || len(list) != 1 || !sameDecl(list[0], api.Decl{Kind: api.DFamily, Name: "n", Type: lam(prop(), v(0))}) {
		t.Error(at, e, list)
	}
}

// Ways: of panics only a fault is recovered.
func TestOtherPanics(t *testing.T) {
	for _, value := range []any{"other", api.ErrForm, 10, &fault{1, api.ErrForm}, struct {
		at int
		e  api.Errno
	}{1, api.ErrForm}} {
		func() {
			defer func() {
				if why := recover(); why != value {
					t.Error(why)
				}
			}()
			resolved(func() api.Term { panic(value) })
			t.Error("no panic")
		}()
	}
	got, at, e := resolved(func() api.Term { panic(fault{7, api.ErrNone}) })
	answers(t, "fault", 0, got, at, e, api.Term{}, 7, api.ErrNone)
	got, at, e = resolved(func() api.Term { return c("a") })
	answers(t, "none", 0, got, at, e, c("a"), 0, api.OK)
}

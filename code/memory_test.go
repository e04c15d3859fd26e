package code

import (
	"bytes"
	"reflect"
	"slices"
	"testing"

	"imprimatur/api"
	"imprimatur/level"
	"imprimatur/term"
)

// roomy: a copy of a term whose lists all have room behind their length, with marks in it.
func roomy(t api.Term) api.Term {
	levels := append(slices.Clone(t.Levels), level.Num(71), level.Num(72))
	args := make([]api.Term, 0, len(t.Args)+2)
	for _, arg := range t.Args {
		args = append(args, roomy(arg))
	}
	args = append(args, c("room"), api.Term{Kind: 73, Levels: make([]api.Level, 1), Args: make([]api.Term, 1)})
	t.Levels, t.Args = levels[:len(t.Levels)], args[:len(t.Args)]
	return t
}

// roomyDecl: likewise of a declaration.
func roomyDecl(d api.Decl) api.Decl {
	d.Type, d.Value = roomy(d.Type), roomy(d.Value)
	var ctors []api.Ctor
	for _, ctor := range d.Ctors {
		ctors = append(ctors, api.Ctor{Name: ctor.Name, Type: roomy(ctor.Type)})
	}
	ctors = append(ctors, api.Ctor{Name: "room", Type: c("room")}, api.Ctor{})
	d.Ctors = ctors[:len(d.Ctors)]
	return d
}

// whole: a copy of a term's lists with all the room behind their length.
func whole(t api.Term) api.Term {
	t.Levels = slices.Clone(t.Levels[:cap(t.Levels)])
	var args []api.Term
	for _, arg := range t.Args[:cap(t.Args)] {
		args = append(args, whole(arg))
	}
	t.Args = args
	return t
}

// wholeAll: likewise of declarations.
func wholeAll(list []api.Decl) []api.Decl {
	var all []api.Decl
	for _, d := range list[:cap(list)] {
		d.Type, d.Value = whole(d.Type), whole(d.Value)
		var ctors []api.Ctor
		for _, ctor := range d.Ctors[:cap(d.Ctors)] {
			ctors = append(ctors, api.Ctor{Name: ctor.Name, Type: whole(ctor.Type)})
		}
		d.Ctors = ctors
		all = append(all, d)
	}
	return all
}

// span is the memory of a list, from its first byte to the one behind its room. It holds the list, so that nothing else comes to stand there.
type span struct {
	from, to uintptr
	list     any
}

func spanOf(list any) span {
	l := reflect.ValueOf(list)
	return span{l.Pointer(), l.Pointer() + uintptr(l.Cap())*l.Type().Elem().Size(), list}
}

// spans: the memory of all lists of a term that have any.
func spans(t api.Term) []span {
	var list []span
	if cap(t.Levels) > 0 {
		list = append(list, spanOf(t.Levels))
	}
	if cap(t.Args) > 0 {
		list = append(list, spanOf(t.Args))
	}
	for _, arg := range t.Args[:cap(t.Args)] {
		list = append(list, spans(arg)...)
	}
	return list
}

// spansAll: the memory of all lists of declarations, and of the list itself.
func spansAll(decls []api.Decl) []span {
	var list []span
	if cap(decls) > 0 {
		list = append(list, spanOf(decls))
	}
	for _, d := range decls {
		list = append(list, append(spans(d.Type), spans(d.Value)...)...)
		if cap(d.Ctors) > 0 {
			list = append(list, spanOf(d.Ctors))
		}
		for _, ctor := range d.Ctors[:cap(d.Ctors)] {
			list = append(list, spans(ctor.Type)...)
		}
	}
	return list
}

// bytesSpan: the memory of bytes, if they have any.
func bytesSpan(b []byte) []span {
	if b == nil {
		return nil
	}
	return []span{spanOf(b)}
}

// apart asks that no two of the spans share memory, and none of them is one of an argument.
func apart(t *testing.T, about string, result, given []span) {
	t.Helper()
	for i, a := range result {
		for _, b := range append(slices.Clone(given), result[:i]...) {
			// What is empty and stands within another list has no byte of its own, but holds on to the other's memory.
			if a.from < b.to && (b.from < a.to || b.from <= a.from) {
				t.Fatal(about, "shares memory")
			}
		}
	}
}

// manyDecls: declarations of each kind, with room, some of them not well formed.
func manyDecls() []api.Decl {
	var list []api.Decl
	for _, d := range append(sampleDecls(), api.Decl{}, axiom("fun", 0, prop()), family("n", 0, prop(), 0, api.Ctor{Name: "c", Type: v(0)})) {
		list = append(list, roomyDecl(d))
	}
	return list
}

// P10.3: arguments stay as they are, with the memory behind their length: terms and declarations.
func TestValuesUnchanged(t *testing.T) {
	for i, x := range append(samples(), node(api.TApp, v(0), v(most)), node(api.TLam, prop(), v(most+1))) {
		x = roomy(x)
		before := whole(x)
		Term(x)
		if !reflect.DeepEqual(whole(x), before) {
			t.Error(i)
		}
	}
	list := manyDecls()
	list = append(list, list[0])[:len(list)]
	before := wholeAll(list)
	for i := range list {
		Decl(list[i])
		Formed(list[i])
		Library(list[:i])
		Library(list[i:])
	}
	if !reflect.DeepEqual(wholeAll(list), before) {
		t.Error("declarations")
	}
}

// manyBytes: encodings with bytes behind them and cut, and what is none.
func manyBytes() [][]byte {
	list := [][]byte{nil, {}, {0}, {1}, {1, 0}, {2, 1, 44}, {7, 7, 7}, {6, 1, 0, 0, 0, 0, 0}, plainLibrary(sampleDecls()[:9])}
	for _, x := range samples() {
		list = append(list, plainTerm(x))
	}
	for _, d := range sampleDecls() {
		list = append(list, plainDecl(d), plainLibrary([]api.Decl{d, d}))
	}
	for _, b := range slices.Clone(list) {
		list = append(list, slices.Concat(b, []byte{2, 0, 1}), b[:len(b)/2])
	}
	return list
}

// P10.3: arguments stay as they are, with the memory behind their length: bytes.
func TestBytesUnchanged(t *testing.T) {
	for i, b := range manyBytes() {
		all := slices.Concat(b, bytes.Repeat([]byte{2}, 40))
		before := slices.Clone(all)
		given := all[:len(b)]
		TakeNum(given)
		TakeTerm(given)
		TakeDecl(given)
		TakeLibrary(given)
		if !bytes.Equal(all, before) {
			t.Error(i)
		}
	}
}

// P10.2: the memory behind the bytes is no part of them.
func TestRoomIsNotTaken(t *testing.T) {
	var took [4]int
	for _, b := range manyBytes() {
		for cut := max(len(b)-3, 0); cut <= len(b); cut++ {
			takeAll(t, b[:cut], &took)
			takeAll(t, slices.Clip(b[:cut]), &took)
		}
	}
	if slices.Contains(took[:], 0) {
		t.Error(took)
	}
}

// P10.3: results are new memory: no two lists of one result share any, and none shares any with an argument.
func TestResultsAreNew(t *testing.T) {
	for _, b := range manyBytes() {
		all := slices.Concat(b, bytes.Repeat([]byte{2}, 40))
		given := all[:len(b)]
		_, rest, _ := TakeNum(given)
		apart(t, "TakeNum", bytesSpan(rest), bytesSpan(all))
		x, rest, _ := TakeTerm(given)
		apart(t, "TakeTerm", append(spans(x), bytesSpan(rest)...), bytesSpan(all))
		d, rest, _ := TakeDecl(given)
		apart(t, "TakeDecl", append(spansAll([]api.Decl{d}), bytesSpan(rest)...), bytesSpan(all))
		list, _ := TakeLibrary(given)
		apart(t, "TakeLibrary", spansAll(list), bytesSpan(all))
	}
}

// P10.3: what is done to the bytes later shows in nothing that was taken of them.
func TestNothingIsKeptOfBytes(t *testing.T) {
	for i, x := range samples() {
		b := slices.Concat(plainTerm(x), []byte{7, 8})
		got, rest, ok := TakeTerm(b)
		fill(b)
		if !ok || !term.Same(got, x) || !bytes.Equal(rest, []byte{7, 8}) {
			t.Error(i, got, rest)
		}
	}
	list := sampleDecls()
	for i, d := range list {
		b := slices.Concat(plainDecl(d), []byte{7, 8})
		got, rest, ok := TakeDecl(b)
		fill(b)
		if !ok || !sameDecl(got, d) || !bytes.Equal(rest, []byte{7, 8}) {
			t.Error(i, got, rest)
		}
	}
	b := plainLibrary(list)
	got, ok := TakeLibrary(b)
	fill(b)
	if !ok || !sameLibrary(got, list) {
		t.Error(got)
	}
	b = []byte{2, 1, 44, 7, 8}
	_, rest, _ := TakeNum(b)
	fill(b)
	if !bytes.Equal(rest, []byte{7, 8}) {
		t.Error(rest)
	}
}

// fill writes over all bytes, with the room behind them.
func fill(b []byte) {
	for i := range b[:cap(b)] {
		b[:cap(b)][i] = 255
	}
}

// spoil writes over all lists of a term.
func spoil(t api.Term) {
	for i := range t.Levels {
		t.Levels[i] = level.Num(99)
	}
	for i := range t.Args {
		spoil(t.Args[i])
		t.Args[i] = c("spoilt")
	}
}

// P10.3: what is done to an answer, or to a value later, shows nowhere else.
func TestNothingIsKept(t *testing.T) {
	for range 2 {
		x := term.App(c("f", level.Num(1)), c("a", level.Num(2)), node(api.TPi, typ(level.Num(3)), v(0)))
		d := family("n", 0, term.Clone(x), 1, api.Ctor{Name: "z", Type: term.Clone(x)})
		want, wantDecl := plainTerm(x), plainDecl(d)
		got, _ := Term(x)
		gotDecl, _ := Decl(d)
		gotList, _ := Library([]api.Decl{d, d})
		again, _ := Term(x)
		fill(again)
		spoil(x)
		spoil(d.Type)
		spoil(d.Ctors[0].Type)
		d.Ctors[0].Name = "spoilt"
		if !bytes.Equal(got, want) || !bytes.Equal(gotDecl, wantDecl) || !bytes.Equal(gotList, slices.Concat([]byte{1, 2}, wantDecl, wantDecl)) {
			t.Error(got, gotDecl, gotList)
		}
		first, _ := TakeLibrary(gotList)
		second, _ := TakeLibrary(gotList)
		spoil(first[0].Type)
		first[0].Ctors[0] = api.Ctor{}
		if b, ok := Library(second); !ok || !bytes.Equal(b, gotList) || first[1].Ctors[0].Name != "z" || !bytes.Equal(plainTerm(first[1].Type), want) {
			t.Error(first, second)
		}
		num, _ := Num(300)
		fill(num)
		if num, _ := Num(300); !bytes.Equal(num, []byte{2, 1, 44}) {
			t.Error(num)
		}
	}
}

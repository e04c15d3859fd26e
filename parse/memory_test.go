package parse

import (
	"reflect"
	"slices"
	"testing"
	"unsafe"

	"imprimatur/api"
)

const (
	sampleTerm   = "fun (x : f{u0, 1} a), let y.z : Type (u1+2) := [3 of s x] in f{0,1,2,3} (y.z x) b"
	sampleSource = "axiom p @1 : " + sampleTerm + "; def d : a := b c; family n of 2 : Prop with z : n | s : all (m : n), n m;"
)

// lent: a text in memory that the test changes later.
func lent(text string) ([]byte, string) {
	b := append([]byte(text), "room"...)
	return b, unsafe.String(&b[0], len(text))
}

// fill writes over all bytes.
func fill(b []byte) {
	for i := range b {
		b[i] = '?'
	}
}

// P12.3: texts stay as they are, with the memory behind them, and what is behind is no part of them.
func TestTextUnchanged(t *testing.T) {
	for _, text := range []string{sampleTerm, sampleSource, "a", "a)", "(a", "#", "Type 101", " "} {
		b, given := lent(text)
		reads(t, given)
		if string(b) != text+"room" {
			t.Errorf("%q", b)
		}
	}
	if r, _, e := Term("aroom"[:1]); e != 0 || r.Name != "a" {
		t.Error(r)
	}
}

// P12.3: nothing of a text is kept in what was read of it.
func TestNamesAreNew(t *testing.T) {
	b, given := lent(sampleTerm)
	r, _, _ := Term(given)
	fill(b)
	is(t, sampleTerm, r)
	b, given = lent(sampleSource)
	list, _, _ := Source(given)
	fill(b)
	are(t, sampleSource, list...)
	// A name alone is a piece of the text as well.
	b, given = lent("a")
	r, _, _ = Term(given)
	fill(b)
	if r.Name != "a" {
		t.Error(r.Name)
	}
}

// span: from where to where a slice's memory reaches, its spare room too.
type span struct{ from, to uintptr }

func spanOf[T any](list []T) span {
	var one T
	from := uintptr(unsafe.Pointer(unsafe.SliceData(list)))
	return span{from, from + uintptr(cap(list))*unsafe.Sizeof(one)}
}

// spans: of all slices of a raw term.
func spans(r Raw) []span {
	all := []span{spanOf(r.Levels), spanOf(r.Args)}
	for _, arg := range r.Args {
		all = append(all, spans(arg)...)
	}
	return all
}

func apart(t *testing.T, all []span) {
	t.Helper()
	all = slices.DeleteFunc(all, func(s span) bool { return s.from == s.to })
	slices.SortFunc(all, func(a, b span) int {
		if a.from < b.from {
			return -1
		}
		return 1
	})
	for i := 1; i < len(all); i++ {
		if all[i].from < all[i-1].to {
			t.Error("shared memory")
		}
	}
}

// Rule 4: no two slices of one result share memory, nor do those of two results.
func TestSlicesApart(t *testing.T) {
	a, _, _ := Term(sampleTerm)
	b, _, _ := Term(sampleTerm)
	all := append(spans(a), spans(b)...)
	for range 2 {
		list, _, _ := Source(sampleSource)
		all = append(all, spanOf(list))
		for _, d := range list {
			all = append(append(append(all, spanOf(d.Ctors)), spans(d.Type)...), spans(d.Value)...)
			for _, c := range d.Ctors {
				all = append(all, spans(c.Type)...)
			}
		}
		if len(list[2].Ctors) != 2 {
			t.Fatal(list)
		}
	}
	apart(t, all)
	if len(all) < 60 {
		t.Error(len(all))
	}
}

// Rule 4: the spare room of a result is new memory too.
func TestSpareRoom(t *testing.T) {
	list, _, _ := Source(sampleSource)
	for _, d := range list[len(list):cap(list)] {
		if !reflect.DeepEqual(d, Decl{}) {
			t.Error(d)
		}
	}
	for _, c := range list[2].Ctors[2:cap(list[2].Ctors)] {
		if !reflect.DeepEqual(c, Ctor{}) {
			t.Error(c)
		}
	}
}

// P12.3: what was read before has nothing to do with what is read later.
func TestResultsApart(t *testing.T) {
	list, _, _ := Source(sampleSource)
	want, _, _ := Source(sampleSource)
	clear(list[0].Type.Args)
	clear(list[2].Ctors)
	clear(list)
	are(t, sampleSource, want...)
}

// P12.3: Nodes leaves its argument as it is, with the room behind its slices.
func TestNodesUnchanged(t *testing.T) {
	args := []Raw{{Kind: api.TProp}, {Kind: api.TConst, Name: "a"}, {Kind: 7, Name: "room"}}
	levels := []api.Level{lev(1), lev(2), lev(3)}
	r := Raw{Kind: api.TApp, Levels: levels[:2], Args: args[:2]}
	if got := Nodes(r); got != 5 {
		t.Error(got)
	}
	if !reflect.DeepEqual(args, []Raw{{Kind: api.TProp}, {Kind: api.TConst, Name: "a"}, {Kind: 7, Name: "room"}}) || !slices.Equal(levels, []api.Level{lev(1), lev(2), lev(3)}) {
		t.Error(args, levels)
	}
	// A nil slice and an empty one are equivalent.
	if Nodes(Raw{Levels: []api.Level{}, Args: []Raw{}}) != 1 {
		t.Error("empty")
	}
}

// Rule 3: beside an error there is no result, whatever was read ahead of it.
func TestNoResultBesideError(t *testing.T) {
	for _, behind := range []string{")", " fun", "#", " Type 101 )"} {
		if r, _, e := Term(sampleTerm + behind); e == api.OK || !reflect.DeepEqual(r, Raw{}) {
			t.Error(behind, r)
		}
		if list, _, e := Source(sampleSource + behind); e == api.OK || len(list) != 0 {
			t.Error(behind, list)
		}
	}
}

// Ways: of panics only a fault is recovered.
func TestOtherPanics(t *testing.T) {
	for _, value := range []any{"other", api.ErrForm, 10, &fault{1, api.ErrForm}, struct {
		at int
		e  api.Errno
	}{1, api.ErrForm}} {
		func() {
			defer func() {
				if why := recover(); why != value {
					t.Error(why)
				}
			}()
			read("a", func(*parser) int { panic(value) })
			t.Error("no panic")
		}()
	}
	n, at, e := read("a", func(*parser) int { panic(fault{7, api.ErrNone}) })
	if n != 0 || at != 7 || e != api.ErrNone {
		t.Error(n, at, e)
	}
	n, at, e = read("a", func(*parser) int { return 5 })
	if n != 5 || at != 0 || e != api.OK {
		t.Error(n, at, e)
	}
	n, at, e = read("#", func(*parser) int { panic("not called") })
	if n != 0 || at != 0 || e != api.ErrForm {
		t.Error(n, at, e)
	}
}

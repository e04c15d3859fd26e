package scope

import (
	"math"
	"math/rand"
	"slices"
	"strconv"
	"strings"
	"testing"

	"imprimatur/api"
	"imprimatur/parse"
)

// P14.2: declarations of each kind, written out.
func TestDeclarations(t *testing.T) {
	long := strings.Repeat("q", 32)
	id := pi(prop(), v(0))
	for text, want := range map[string]api.Decl{
		"axiom p : Prop;":                                      {Kind: api.DAxiom, Name: "p", Type: prop()},
		"axiom p @4 : all (a : Type u3), a;":                   {Kind: api.DAxiom, Name: "p", Params: 4, Type: pi(typ(lev(0, -1, -1, -1, 0)), v(0))},
		"axiom a.b : a.b;":                                     {Kind: api.DAxiom, Name: "a.b", Type: c("a.b")},
		"axiom " + long + ":fun(" + long + ":b)," + long + ";": {Kind: api.DAxiom, Name: long, Type: lam(c("b"), v(0))},
		"def d : Prop := d;":                                   {Kind: api.DDef, Name: "d", Type: prop(), Value: c("d")},
		"def d @1 : all (a : Prop), a := fun (a : f{u0}), a;":  {Kind: api.DDef, Name: "d", Params: 1, Type: id, Value: lam(c("f", lev(0, 0)), v(0))},
		// What the Type binds is nothing to the Value.
		"def d : fun (a : b), a := a b;":                 {Kind: api.DDef, Name: "d", Type: lam(c("b"), v(0)), Value: app(c("a"), c("b"))},
		"theorem t : p := h;":                            {Kind: api.DOpaque, Name: "t", Type: c("p"), Value: c("h")},
		"theorem t @2 : Type u1 := let a : t := t in a;": {Kind: api.DOpaque, Name: "t", Params: 2, Type: typ(lev(0, -1, 0)), Value: let(c("t"), c("t"), v(0))},
		"family n of 0 : Type 0;":                        {Kind: api.DFamily, Name: "n", Type: typ(lev(0))},
		"family n @3 of 16 : all (a : Prop), a;":         {Kind: api.DFamily, Name: "n", Params: 3, Fixed: 16, Type: id},
		"family n of 1 : Prop with z : n;":               {Kind: api.DFamily, Name: "n", Fixed: 1, Type: prop(), Ctors: []api.Ctor{{Name: "z", Type: c("n")}}},
		"family n @1 of 2 : all (a : Prop), a with n.z : all (b : a), b | s : [0 of a a] | z : Type u0;": {Kind: api.DFamily, Name: "n", Params: 1, Fixed: 2, Type: id, Ctors: []api.Ctor{{Name: "n.z", Type: pi(c("a"), v(0))}, {Name: "s", Type: proj(0, "a", c("a"))}, {Name: "z", Type: typ(lev(0, 0))}}},
		"family n of 0 : n with a : a | b : b | c : c | d : d | e : e | f : f | g : g | h : h;":          {Kind: api.DFamily, Name: "n", Type: c("n"), Ctors: []api.Ctor{{Name: "a", Type: c("a")}, {Name: "b", Type: c("b")}, {Name: "c", Type: c("c")}, {Name: "d", Type: c("d")}, {Name: "e", Type: c("e")}, {Name: "f", Type: c("f")}, {Name: "g", Type: c("g")}, {Name: "h", Type: c("h")}}},
	} {
		sourceIs(t, text, want)
		// Those ahead and those behind are nothing to it.
		x := api.Decl{Kind: api.DDef, Name: "a", Params: 4, Type: lam(c("a"), v(0)), Value: pi(typ(lev(0, 0, 0, 0, 0)), v(0))}
		const ahead = "def a @4 : fun (a : a), a := all (b : Type (u0|u1|u2|u3)), b;\n"
		sourceIs(t, ahead+text+" "+ahead+text, x, want, x, want)
	}
}

// parts: texts of declarations with a hole for each term that they have, Type, Value and constructors' Types in their order; # is the number of universe parameters.
func parts() []string {
	return []string{"axiom p @# : $;", "def d @# : $ := $;", "theorem t @# : $ := $;", "family n @# of 1 : $;", "family n @# of 0 : $ with a : $;", "family n @# of 2 : $ with a : $ | b : $ | a : $;"}
}

// filled: a text with one fill for each of its holes, and where these stand.
func filled(form string, fills ...string) (string, []int) {
	text, at := "", []int{}
	for i, piece := range strings.Split(form, "$") {
		if i > 0 {
			at = append(at, len(text))
			text += fills[i-1]
		}
		text += piece
	}
	return text, at
}

// P14.2: an error in each term of each kind of declaration, and two at once, in the first, in a middle and in the last declaration: the first of them is told, with its own offset.
func TestPartsWithErrors(t *testing.T) {
	deep := nested(201, func(int) int { return api.TLam }, "a")
	last := strings.LastIndex(deep, "fun")
	wrong := []struct {
		text string
		at   int
		e    api.Errno
	}{{"fun (a : b), a{0}", 13, api.ErrForm}, {"f Type u2", 2, api.ErrLevel}, {"f (g{0,u3})", 3, api.ErrLevel}, {deep, last, api.ErrMany}}
	const right = "fun (a : Type u1), f{u0} a"
	checked := 0
	for _, form := range parts() {
		form = strings.Replace(form, "#", "2", 1)
		holes := strings.Count(form, "$")
		other, _ := filled("family m @2 of 1 : $ with a : $; def m @2 : $ := $;", right, right, right, right)
		for first := range holes {
			for second := first; second < holes; second++ {
				for _, w1 := range wrong {
					for _, w2 := range wrong {
						fills := slices.Repeat([]string{right}, holes)
						fills[second], fills[first] = w2.text, w1.text
						text, at := filled(form, fills...)
						checked++
						sourceFails(t, text, at[first]+w1.at, w1.e)
						sourceFails(t, text+other+other, at[first]+w1.at, w1.e)
						sourceFails(t, other+text+other, len(other)+at[first]+w1.at, w1.e)
						sourceFails(t, other+other+text, 2*len(other)+at[first]+w1.at, w1.e)
						sourceFails(t, other+text+text, len(other)+at[first]+w1.at, w1.e)
					}
				}
			}
		}
		fine, _ := filled(form, slices.Repeat([]string{right}, holes)...)
		if !readsSource(t, fine) || !readsSource(t, other+fine+other) {
			t.Error(form)
		}
	}
	if checked < 300 {
		t.Error(checked)
	}
}

// P14.2: two errors in two declarations: that in the earlier one is told, in whichever of its terms it is.
func TestTwoDeclarations(t *testing.T) {
	for _, f1 := range parts() {
		for _, f2 := range parts() {
			f1, f2 := strings.Replace(f1, "#", "1", 1), strings.Replace(f2, "#", "3", 1)
			for i := range strings.Count(f1, "$") {
				for k := range strings.Count(f2, "$") {
					fills1, fills2 := slices.Repeat([]string{"Type u0"}, 4), slices.Repeat([]string{"Type u2"}, 4)
					first, at1 := filled(f1, fills1...)
					fills2[k] = "(f{u3})"
					second, at2 := filled(f2, fills2...)
					// The names have other numbers of universe parameters.
					sourceFails(t, first+second, len(first)+at2[k]+1, api.ErrLevel)
					fills1[i] = "(let a : b := b in a{0})"
					first, at1 = filled(f1, fills1...)
					sourceFails(t, first+second, at1[i]+19, api.ErrForm)
					sourceFails(t, second+first, at2[k]+1, api.ErrLevel)
				}
			}
		}
	}
}

// P14.2: each declaration is resolved with its own Params.
func TestOwnParams(t *testing.T) {
	for params := range 5 {
		for width := range 5 {
			l := "0"
			if width > 0 {
				l = "u" + strconv.Itoa(width-1)
			}
			for _, form := range parts() {
				form = strings.Replace(form, "#", strconv.Itoa(params), 1)
				holes := strings.Count(form, "$")
				for i := range holes {
					fills := slices.Repeat([]string{"Prop"}, holes)
					fills[i] = "a{" + l + "}"
					text, at := filled(form, fills...)
					around := "axiom a @4 : Type u3;"
					if width > params {
						sourceFails(t, text, at[i], api.ErrLevel)
						sourceFails(t, around+text+around, len(around)+at[i], api.ErrLevel)
					} else if !readsSource(t, text) || !readsSource(t, around+text+around) {
						t.Error(text)
					}
				}
			}
		}
	}
}

// P14.2: lists of no declaration, of as many as a library has, and of more.
func TestLists(t *testing.T) {
	for _, list := range [][]parse.Decl{nil, {}} {
		if got, at, e := Library(list); len(got) != 0 || at != 0 || e != api.OK {
			t.Error(got, at, e)
		}
	}
	for _, text := range []string{"", " ", "\n", "-- axiom p : a{0};"} {
		sourceIs(t, text)
	}
	many := drawer{rand.New(rand.NewSource(147)), 4, 100000}
	for _, n := range []int{1, 2, 63, 64} {
		text := ""
		for i := range n {
			text += "axiom p" + strconv.Itoa(i) + " : all (a : Prop), a;"
		}
		got, at, e := Read(text)
		if at != 0 || e != api.OK || len(got) != n {
			t.Fatal(n, at, e, len(got))
		}
		for i, d := range got {
			if !sameDecl(d, api.Decl{Kind: api.DAxiom, Name: "p" + strconv.Itoa(i), Type: pi(prop(), v(0))}) {
				t.Error(i, d)
			}
		}
		if !readsSource(t, many.source(n, 4)) {
			t.Error(n)
		}
		sourceFails(t, text+"axiom a : Type u0;", len(text)+map[bool]int{false: 10}[n == 64], map[bool]api.Errno{false: api.ErrLevel, true: api.ErrMany}[n == 64])
	}
	list, _, _ := parse.Source("axiom p : all (a : Prop), a; def q @1 : p := Type u0;")
	list = slices.Repeat(list, 500)
	got, at, e := Library(list)
	if at != 0 || e != api.OK || len(got) != 1000 || !sameDecl(got[999], api.Decl{Kind: api.DDef, Name: "q", Params: 1, Type: c("p"), Value: typ(lev(0, 0))}) {
		t.Error(at, e, len(got))
	}
	list[999].Params = 0
	if got, at, e := Library(list); at != strings.Index("axiom p : all (a : Prop), a; def q @1 : p := Type u0;", "Type") || e != api.ErrLevel || len(got) != 0 {
		t.Error(at, e, len(got))
	}
}

// P14.2: sources drawn at random.
func TestDrawnSources(t *testing.T) {
	r := rand.New(rand.NewSource(148))
	count := map[api.Errno]int{}
	for i := range 3000 {
		d := drawer{r, 0, []int{3, 20, 200, 1000}[i%4]}
		text := d.source(r.Intn(6), 1+r.Intn(20))
		readsSource(t, text)
		_, _, e := Read(text)
		count[e]++
	}
	if count[api.OK] < 800 || count[api.ErrForm] < 300 || count[api.ErrLevel] < 40 {
		t.Error(count)
	}
}

// P14.2: Term's errors are those of a declaration with Params that layer 12 cannot return, and of terms that it cannot return.
func TestWrongDeclarations(t *testing.T) {
	a := rawNode(api.TConst, "a")
	right := []parse.Decl{
		{Kind: api.DAxiom, Name: "p", Type: a}, {Kind: api.DDef, Name: "p", Type: a, Value: a}, {Kind: api.DOpaque, Name: "p", Type: a, Value: a}, {Kind: api.DFamily, Name: "p", Type: a}, {Kind: api.DFamily, Name: "p", Type: a, Ctors: []parse.Ctor{{Name: "c", Type: a}, {Name: "d", Type: a}}},
	}
	fails := func(d parse.Decl, at int, want api.Errno) {
		t.Helper()
		for _, list := range [][]parse.Decl{{d}, append(slices.Clone(right), d), append([]parse.Decl{d}, right...)} {
			if got, gotAt, e := Library(list); e != want || gotAt != at || len(got) != 0 {
				t.Fatalf("%v: %d, %d, %v", d, gotAt, e, got)
			}
		}
	}
	if !libraryIs(t, right) {
		t.Error("right ones")
	}
	for _, d := range right {
		for _, params := range []int{-1, 5, math.MinInt, math.MaxInt} {
			wrong := d
			wrong.Params, wrong.At = params, 3
			fails(wrong, 0, api.ErrRange)
			wrong.Type = parse.Raw{At: 5}
			fails(wrong, 0, api.ErrRange)
		}
		for _, none := range []parse.Raw{{At: 5}, {Kind: api.TVar, At: 5}, {Kind: api.TLam, At: 5}, {Kind: api.TApp, At: 5, Args: []parse.Raw{a}}} {
			wrong := d
			wrong.Type = none
			fails(wrong, 5, api.ErrForm)
			if d.Kind == api.DDef || d.Kind == api.DOpaque {
				wrong = d
				wrong.Value = none
				fails(wrong, 5, api.ErrForm)
			}
			for i := range d.Ctors {
				wrong = d
				wrong.Ctors = slices.Clone(d.Ctors)
				wrong.Ctors[i].Type = none
				fails(wrong, 5, api.ErrForm)
			}
		}
	}
	// A definition and a theorem have a Value, even if it is no term at all.
	fails(parse.Decl{Kind: api.DDef, Name: "p", Type: a}, 0, api.ErrForm)
	fails(parse.Decl{Kind: api.DOpaque, Name: "p", Type: a}, 0, api.ErrForm)
	fails(parse.Decl{Kind: api.DFamily, Name: "p"}, 0, api.ErrForm)
	fails(parse.Decl{}, 0, api.ErrForm)
}

// P1: any lists of declarations: what Term refuses, and nothing else, is refused.
func TestAnyDeclarations(t *testing.T) {
	r := rand.New(rand.NewSource(149))
	some := func() parse.Raw {
		switch r.Intn(6) {
		case 0:
			return anything(r, 1+r.Intn(5))
		case 1:
			return parse.Raw{}
		}
		return raw(t, drawer{r, 1, 20}.term(1+r.Intn(5)))
	}
	lists, errors := 0, 0
	for range 20000 {
		var list []parse.Decl
		for range r.Intn(4) {
			d := parse.Decl{Kind: r.Intn(6), Params: []int{1, 2, 4, r.Intn(7) - 1}[r.Intn(4)], Fixed: int(r.Uint64()), At: int(r.Uint64()), Name: []string{"a", "", "fun", "\xff"}[r.Intn(4)], Type: some()}
			if d.Kind == api.DDef || d.Kind == api.DOpaque {
				d.Value = some()
			}
			for range r.Intn(2) * r.Intn(12) {
				d.Ctors = append(d.Ctors, parse.Ctor{Name: "", At: int(r.Uint64()), Type: some()})
			}
			list = append(list, d)
		}
		got, at, e := Library(list)
		wantAt, want := 0, api.OK
		for _, d := range list {
			all := []parse.Raw{d.Type}
			if d.Kind == api.DDef || d.Kind == api.DOpaque {
				all = append(all, d.Value)
			}
			for _, ctor := range d.Ctors {
				all = append(all, ctor.Type)
			}
			for _, part := range all {
				if want == api.OK {
					_, wantAt, want = Term(part, d.Params)
				}
			}
		}
		if at != wantAt || e != want || e != api.OK && len(got) != 0 || e == api.OK && len(got) != len(list) {
			t.Fatal(list, at, e, wantAt, want)
		}
		if e != api.OK {
			errors++
			continue
		}
		lists++
		for i, d := range got {
			if w := list[i]; d.Kind != w.Kind || d.Params != w.Params || d.Name != w.Name || d.Fixed != w.Fixed || len(d.Ctors) != len(w.Ctors) {
				t.Fatal(d, w)
			}
		}
	}
	if lists < 4000 || errors < 4000 {
		t.Error(lists, errors)
	}
}

// P14.2: an axiom or a family whose Value layer 12 would not have set: it is a term of the declaration like the others.
func TestValueOfOtherKinds(t *testing.T) {
	a, none := rawNode(api.TConst, "a"), parse.Raw{Kind: api.TVar, At: 8}
	wide := parse.Raw{Kind: api.TType, At: 9, Levels: []api.Level{lev(0, 0)}}
	ctors := []parse.Ctor{{Name: "c", Type: wide}}
	for _, kind := range []int{api.DAxiom, api.DFamily, 0, 5} {
		for _, x := range []struct {
			d  parse.Decl
			at int
			e  api.Errno
		}{
			{parse.Decl{Kind: kind, Type: a, Value: wide}, 9, api.ErrLevel},
			{parse.Decl{Kind: kind, Type: a, Value: none, Ctors: ctors}, 8, api.ErrForm},
			{parse.Decl{Kind: kind, Type: a, Ctors: ctors}, 9, api.ErrLevel},
			{parse.Decl{Kind: kind, Type: none, Value: wide, Ctors: ctors}, 8, api.ErrForm},
			{parse.Decl{Kind: kind, Type: a, Value: parse.Raw{N: 1}}, 0, api.ErrForm},
			{parse.Decl{Kind: kind, Type: a, Value: parse.Raw{At: 1}}, 1, api.ErrForm},
			{parse.Decl{Kind: kind, Type: a, Value: parse.Raw{Name: "a"}}, 0, api.ErrForm},
			{parse.Decl{Kind: kind, Type: a, Value: parse.Raw{Levels: []api.Level{lev(0)}}}, 0, api.ErrForm},
			{parse.Decl{Kind: kind, Type: a, Value: parse.Raw{Args: []parse.Raw{a}}}, 0, api.ErrForm},
			{parse.Decl{Kind: kind, Type: a, Value: parse.Raw{Levels: []api.Level{}, Args: []parse.Raw{}}}, 0, api.OK},
			{parse.Decl{Kind: kind, Type: a, Value: a}, 0, api.OK},
			{parse.Decl{Kind: kind, Type: a, Value: parse.Raw{Kind: api.TProp}}, 0, api.OK},
		} {
			got, at, e := Library([]parse.Decl{x.d})
			if at != x.at || e != x.e || (e == api.OK) != (len(got) == 1) {
				t.Error(x.d, at, e, got)
			}
			if e == api.OK && got[0].Value.Kind != x.d.Value.Kind {
				t.Error(got[0])
			}
		}
	}
}

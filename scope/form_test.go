package scope

import (
	"math"
	"math/rand"
	"slices"
	"strings"
	"testing"

	"imprimatur/api"
	"imprimatur/parse"
	"imprimatur/term"
)

func rawNode(kind int, name string, args ...parse.Raw) parse.Raw {
	return parse.Raw{Kind: kind, Name: name, Args: args}
}

// refuses asks that Term refuses a raw term that layer 12 cannot return as P14.1 says, with one of these offsets or 0.
func refuses(t *testing.T, r parse.Raw, params int, offsets ...int) {
	t.Helper()
	got, at, e := Term(r, params)
	if e != api.ErrForm || at != 0 && !slices.Contains(offsets, at) || !isZero(got) {
		t.Fatalf("kind %d, name %q, n %d, params %d: got %d, %d, %v", r.Kind, short(r.Name), r.N, params, at, e, got)
	}
}

// holds asks what P14.1 says of any raw term: the error or the term of one that layer 12 can return, but for its offsets, and ErrForm or a valid term for any other.
func holds(t *testing.T, r parse.Raw, params int) bool {
	t.Helper()
	got, at, e := Term(r, params)
	offsets, right := map[int]bool{0: true}, true
	for _, s := range spots(r) {
		offsets[s.r.At] = true
		right = right && plainForm(s.r)
	}
	switch {
	case e == api.OK:
		if at != 0 || !term.Right(got, params, 0) {
			t.Fatalf("%v: %d, %v", r, at, got)
		}
	case e == api.ErrForm || right:
		if !isZero(got) || !offsets[at] {
			t.Fatalf("%v: %d, %d, %v", r, at, e, got)
		}
	default:
		t.Fatalf("%v: %d, %d, %v", r, at, e, got)
	}
	if right {
		return termIs(t, r, params)
	}
	return false
}

// plainForm: has a node the form that layer 12 gives it?
func plainForm(r parse.Raw) bool {
	args := map[int]int{api.TProp: 0, api.TType: 0, api.TConst: 0, api.TApp: 2, api.TLam: 2, api.TPi: 2, api.TLet: 3, api.TProj: 1}
	want, known := args[r.Kind]
	named := slices.Contains([]int{api.TConst, api.TLam, api.TPi, api.TLet, api.TProj}, r.Kind)
	// A constant with these levels and the name, or one that stands for it, is valid where they are.
	asConst := c("a", r.Levels...)
	if named {
		asConst.Name = r.Name
	} else if r.Name != "" {
		return false
	}
	switch {
	case !known || len(r.Args) != want || !term.Right(asConst, 4, 0):
		return false
	case r.Kind == api.TType && len(r.Levels) != 1, r.Kind != api.TType && r.Kind != api.TConst && len(r.Levels) != 0:
		return false
	case r.Kind == api.TProj && (r.N < 0 || r.N > 31), r.Kind != api.TProj && r.N != 0:
		return false
	}
	return r.At >= 0 && r.At < 65536
}

// wrongNodes: raw nodes that layer 12 cannot return, each for one reason, with proper Args where that is not the reason.
func wrongNodes() []parse.Raw {
	a := rawNode(api.TConst, "a")
	right := map[int]parse.Raw{
		api.TProp: rawNode(api.TProp, ""), api.TType: {Kind: api.TType, Levels: []api.Level{lev(0)}}, api.TConst: a, api.TApp: rawNode(api.TApp, "", a, a),
		api.TLam: rawNode(api.TLam, "x", a, a), api.TPi: rawNode(api.TPi, "x", a, a), api.TLet: rawNode(api.TLet, "x", a, a, a), api.TProj: rawNode(api.TProj, "s", a),
	}
	var list []parse.Raw
	for _, kind := range []int{api.TVar, 0, -1, 10, 11, 256 + api.TProp, 1<<32 + api.TProp, math.MinInt, math.MaxInt} {
		list = append(list, parse.Raw{Kind: kind}, parse.Raw{Kind: kind, Name: "a"}, parse.Raw{Kind: kind, Levels: []api.Level{lev(0)}}, rawNode(kind, "x", a), rawNode(kind, "", a, a), rawNode(kind, "x", a, a), rawNode(kind, "x", a, a, a))
	}
	for kind := api.TProp; kind <= api.TProj; kind++ {
		r := right[kind]
		with := func(change func(r *parse.Raw)) {
			changed := r
			change(&changed)
			list = append(list, changed)
		}
		for n := range 6 {
			if n != len(r.Args) {
				with(func(r *parse.Raw) { r.Args = slices.Repeat([]parse.Raw{a}, n) })
			}
		}
		with(func(r *parse.Raw) { r.Args = slices.Repeat([]parse.Raw{a}, 5000) })
		for _, n := range []int{-1, 1, 31, 32, 33, 1 << 32, math.MinInt, math.MaxInt} {
			if kind != api.TProj || n < 0 || n > 31 {
				with(func(r *parse.Raw) { r.N = n })
			}
		}
		names := []string{"a", "Prop", ".", "\xff"}
		if r.Name != "" {
			names = noNames()
		}
		for _, name := range names {
			with(func(r *parse.Raw) { r.Name = name })
		}
		for _, l := range badLevels() {
			with(func(r *parse.Raw) { r.Levels = []api.Level{l} })
			with(func(r *parse.Raw) { r.Levels = []api.Level{lev(0), l} })
			with(func(r *parse.Raw) { r.Levels = []api.Level{lev(0), lev(0), lev(0), l} })
		}
		for n := range 7 {
			if kind == api.TConst && n <= 4 || kind == api.TType && n == 1 || len(r.Levels) == n {
				continue
			}
			with(func(r *parse.Raw) { r.Levels = slices.Repeat([]api.Level{lev(0)}, n) })
		}
		with(func(r *parse.Raw) { r.Levels = slices.Repeat([]api.Level{lev(0)}, 5000) })
		for _, at := range []int{-1, api.MaxText, math.MinInt, math.MaxInt} {
			with(func(r *parse.Raw) { r.At = at })
		}
	}
	return list
}

// P14.1: raw terms that layer 12 cannot return are refused, whatever stands around them, and however much else is wrong ahead of them and behind.
func TestWrongNodes(t *testing.T) {
	bound := rawNode(api.TConst, "x")
	bound.Levels = []api.Level{lev(0)}
	wide := parse.Raw{Kind: api.TType, At: 5, Levels: []api.Level{lev(0, -1, -1, -1, 0)}}
	a := rawNode(api.TConst, "a")
	deep := a
	for range 201 {
		deep = rawNode(api.TPi, "y", a, deep)
	}
	list := wrongNodes()
	if len(list) < 400 {
		t.Error(len(list))
	}
	for _, r := range list {
		if plainForm(r) {
			t.Fatal("a right one", r)
		}
		if r.At == 0 {
			r.At = 77
		}
		for _, whole := range []parse.Raw{
			r, rawNode(api.TApp, "", r, a), rawNode(api.TApp, "", a, r), rawNode(api.TLam, "x", r, a), rawNode(api.TLam, "x", a, r), rawNode(api.TPi, "x", r, a), rawNode(api.TPi, "a", a, r), rawNode(api.TLet, "x", r, a, a), rawNode(api.TLet, "x", a, r, a), rawNode(api.TLet, "a", a, a, r), rawNode(api.TProj, "s", r),
			rawNode(api.TApp, "", wide, r), rawNode(api.TApp, "", r, wide), rawNode(api.TLam, "x", bound, rawNode(api.TApp, "", bound, r)), rawNode(api.TApp, "", deep, r), rawNode(api.TApp, "", r, deep), rawNode(api.TLet, "x", wide, wide, r),
		} {
			refuses(t, whole, 0, 77, r.At)
			refuses(t, whole, 4, 77, r.At)
		}
	}
	// What stands around them is itself right.
	for params := range 5 {
		got, at, e := Term(rawNode(api.TApp, "", wide, a), params)
		if params < 4 {
			answers(t, "wide", params, got, at, e, api.Term{}, 5, api.ErrLevel)
		} else {
			answers(t, "wide", params, got, at, e, app(typ(wide.Levels[0]), c("a")), 0, api.OK)
		}
	}
	got, at, e := Term(rawNode(api.TLam, "x", bound, bound), 0)
	answers(t, "bound", 0, got, at, e, api.Term{}, 0, api.ErrForm)
	got, at, e = Term(rawNode(api.TApp, "", a, deep), 0)
	answers(t, "deep", 0, got, at, e, api.Term{}, 0, api.ErrMany)
}

// chain: a raw term of about n nodes, each of them ahead of the next one; the last one is so many nodes.
func chain(n int, last parse.Raw) parse.Raw {
	for range n {
		last = rawNode(api.TProj, "s", last)
	}
	return last
}

// P14.1: as many nodes as layer 12 returns, and more of them.
func TestManyNodes(t *testing.T) {
	prop := rawNode(api.TProp, "")
	a := rawNode(api.TConst, "a")
	four := parse.Raw{Kind: api.TConst, Name: "a", Levels: slices.Repeat([]api.Level{lev(0)}, 4)}
	sort := parse.Raw{Kind: api.TType, Levels: []api.Level{lev(3)}}
	for nodes, last := range map[int]parse.Raw{1: prop, 2: sort, 5: four, 3: rawNode(api.TApp, "", a, a), 4: rawNode(api.TLet, "x", a, a, a), 11: rawNode(api.TApp, "", four, four)} {
		for _, more := range []int{-1, 0, 1, 2, 1000} {
			r := chain(3000-nodes+more, last)
			if more > 0 {
				refuses(t, r, 0, 0)
				refuses(t, rawNode(api.TApp, "", sort, r), 0, 0)
			} else if !termIs(t, r, 0) {
				t.Error(nodes, more)
			}
		}
	}
	// An error ahead of the node that is too many.
	wide := parse.Raw{Kind: api.TType, At: 9, Levels: []api.Level{lev(0, 0)}}
	refuses(t, rawNode(api.TApp, "", wide, chain(3000, prop)), 0, 0, 9)
	got, at, e := Term(rawNode(api.TApp, "", wide, chain(2996, prop)), 0)
	answers(t, "3000 nodes", 0, got, at, e, api.Term{}, 9, api.ErrLevel)
	broad := func(n int) parse.Raw {
		r := prop
		for range n {
			r = rawNode(api.TApp, "", r, prop)
		}
		return r
	}
	if !termIs(t, broad(1499), 0) || !termIs(t, rawNode(api.TProj, "s", broad(1499)), 0) {
		t.Error("broad")
	}
	refuses(t, broad(1500), 0, 0)
	refuses(t, broad(100000), 0, 0)
}

// P1, P14.1: raw terms that contain themselves, and ones whose parts are shared so often that they are far too large.
func TestEndless(t *testing.T) {
	for kind := api.TApp; kind <= api.TProj; kind++ {
		name := "x"
		if kind == api.TApp {
			name = ""
		}
		for args := 1; args < 5; args++ {
			for i := range args {
				r := parse.Raw{Kind: kind, Name: name, At: 12, Args: make([]parse.Raw, args)}
				for k := range r.Args {
					r.Args[k] = rawNode(api.TConst, "x")
				}
				r.Args[i] = r
				refuses(t, r, 0, 12)
				refuses(t, rawNode(api.TApp, "", rawNode(api.TConst, "a"), r), 4, 12)
				refuses(t, rawNode(api.TApp, "", parse.Raw{Kind: api.TType, Levels: []api.Level{lev(0, 0)}}, r), 0, 12)
				for k := range r.Args {
					r.Args[k] = r
				}
				refuses(t, r, 0, 12)
			}
		}
	}
	doubled := rawNode(api.TConst, "a")
	for i := range 60 {
		doubled = rawNode(api.TApp, "", doubled, doubled)
		if i == 9 && !termIs(t, doubled, 0) {
			t.Error("2047 nodes")
		}
	}
	refuses(t, doubled, 0, 0)
}

// anything: any raw term at all, most of them of a kind that there is.
func anything(r *rand.Rand, nodes int) parse.Raw {
	raw := parse.Raw{Kind: r.Intn(12) - 1, At: r.Intn(100)}
	if r.Intn(10) == 0 {
		raw.Kind, raw.N, raw.At = int(r.Uint64()), int(r.Uint64()), int(r.Uint64())
	}
	if r.Intn(3) > 0 {
		raw.Name = []string{"a", "", "fun", "a..b", "\xff", "nat.rec", "0", "x"}[r.Intn(8)]
	}
	for range r.Intn(2) * r.Intn(6) {
		raw.Levels = append(raw.Levels, lev(r.Intn(102)-1, r.Intn(3)-1))
	}
	for nodes > 1 && r.Intn(6) > 0 {
		part := 1 + r.Intn(nodes-1)
		raw.Args = append(raw.Args, anything(r, part))
		nodes -= part
	}
	return raw
}

// mutated: a copy of a raw term with one field of one node changed.
func mutated(r *rand.Rand, raw parse.Raw) parse.Raw {
	raw = cloned(raw)
	at := &raw
	for len(at.Args) > 0 && r.Intn(4) > 0 {
		at = &at.Args[r.Intn(len(at.Args))]
	}
	switch r.Intn(8) {
	case 0:
		at.Kind = r.Intn(12) - 1
	case 1:
		at.N += []int{1, -1, 31, 32, -1 << 40, 1 << 62}[r.Intn(6)]
	case 2:
		at.Name = []string{"", "a", "x", ".", "fun", at.Name + "."}[r.Intn(6)]
	case 3:
		at.Levels = append(at.Levels, lev(r.Intn(103)-1, r.Intn(3)-1))
	case 4:
		at.Args = append(at.Args, parse.Raw{Kind: api.TProp})
	case 5:
		at.Args = at.Args[:max(len(at.Args)-1, 0)]
	case 6:
		at.At = []int{0, -1, 7, 65535, 65536, math.MinInt, math.MaxInt}[r.Intn(7)]
	case 7:
		at.Levels = at.Levels[:max(len(at.Levels)-1, 0)]
	}
	return raw
}

// cloned: a copy of a raw term.
func cloned(r parse.Raw) parse.Raw {
	r.Levels = slices.Clone(r.Levels)
	r.Args = slices.Clone(r.Args)
	for i, arg := range r.Args {
		r.Args[i] = cloned(arg)
	}
	return r
}

// P1, P14.1: any raw terms: those that layer 12 can return, but for their offsets, are resolved as ever.
func TestAnyRaw(t *testing.T) {
	r := rand.New(rand.NewSource(145))
	terms, errors := 0, 0
	for i := range 30000 {
		var x parse.Raw
		if i%4 == 0 {
			x = anything(r, 1+r.Intn(12))
		} else {
			d := drawer{r, r.Intn(5), []int{1, 8, 100}[i%3]}
			x = raw(t, d.term(1+r.Intn(12)))
			for range r.Intn(3) {
				x = mutated(r, x)
			}
		}
		for _, params := range []int{0, 2, 4} {
			if holds(t, x, params) {
				terms++
			} else {
				errors++
			}
		}
		params := int(r.Uint64())
		if got, at, e := Term(x, params); (params < 0 || params > 4) && (e != api.ErrRange || at != 0 || !isZero(got)) {
			t.Fatal(params, at, e)
		}
	}
	if terms < 20000 || errors < 20000 {
		t.Error(terms, errors)
	}
}

// P1: any texts.
func TestAnyText(t *testing.T) {
	r := rand.New(rand.NewSource(146))
	tokens := strings.Fields("Prop Type fun all let in of with axiom def theorem family u0 u3 a b 0 4 101 ( ) [ ] { } , ; | + @ : := # \xff")
	for range 20000 {
		var text string
		if r.Intn(3) == 0 {
			b := make([]byte, r.Intn(40))
			r.Read(b)
			text = string(b)
		} else {
			for range r.Intn(10) {
				text += tokens[r.Intn(len(tokens))] + []string{" ", " ", "", "\n"}[r.Intn(4)]
			}
		}
		reads(t, text, r.Intn(9)-2)
		readsSource(t, text)
	}
}

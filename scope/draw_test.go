package scope

import (
	"math/rand"
	"slices"
	"strconv"
	"strings"

	"imprimatur/api"
	"imprimatur/level"
)

// drawer draws texts at random. Names are few, so that many of them are bound, some of them more than once.
type drawer struct {
	*rand.Rand
	params int // levels have at most this width
	wrong  int // one name in so many has levels though it may be bound
}

func (d drawer) one(list ...string) string { return list[d.Intn(len(list))] }

func (d drawer) gap() string { return d.one(" ", " ", "  ", "\n", " --x\n") }

func (d drawer) name() string { return d.one("a", "a", "b", "b", "x0", "nat.rec", "A", "u4") }

// drawnLevel: the text of a level.
func (d drawer) drawnLevel() string {
	if d.params == 0 || d.Intn(3) == 0 {
		return d.one("0", "1", "100", "0|3")
	}
	param := "u" + strconv.Itoa(d.Intn(d.params))
	return d.one(param, param+"+1", param+" | 7", "u0|"+param+"+100")
}

// atom: the text of an atom with about so many nodes.
func (d drawer) atom(nodes int) string {
	if nodes > 1 {
		return "(" + d.term(nodes) + ")"
	}
	switch d.Intn(8) {
	case 0:
		return "Prop"
	case 1:
		return "Type(" + d.drawnLevel() + ")"
	case 2:
		return "(" + d.name() + ")"
	}
	if d.Intn(d.wrong) > 0 {
		return d.name()
	}
	levels := []string{d.drawnLevel()}
	for range d.Intn(4) {
		levels = append(levels, d.drawnLevel())
	}
	return d.name() + "{" + strings.Join(levels, ",") + "}"
}

// term: the text of a term with about so many nodes.
func (d drawer) term(nodes int) string {
	if nodes < 2 {
		return d.atom(1)
	}
	part := 1 + d.Intn(nodes)
	switch d.Intn(7) {
	case 0, 1:
		return d.one("fun", "all") + d.gap() + "(" + d.name() + d.gap() + ":" + d.term(part/2) + ")," + d.gap() + d.term(nodes-part/2-1)
	case 2:
		return "let " + d.name() + " : " + d.term(part/3) + d.gap() + ":= " + d.term(part/3) + d.gap() + "in " + d.term(nodes-part*2/3-1)
	case 3:
		return "[" + strconv.Itoa(d.Intn(32)) + " of " + d.name() + d.gap() + d.atom(nodes-1) + "]"
	}
	return d.atom(part) + d.gap() + d.atom(nodes-part-1)
}

// decl: the text of a declaration with terms of about so many nodes.
func (d drawer) decl(nodes int) string {
	d.params = d.Intn(5)
	part := func() string { return d.term(1 + d.Intn(nodes)) }
	head := d.name()
	if d.params > 0 || d.Intn(2) == 0 {
		head += " @" + strconv.Itoa(d.params)
	}
	if d.Intn(6*d.wrong) == 0 {
		d.params = min(d.params+1, 4)
	}
	switch d.Intn(4) {
	case 0:
		return "axiom " + head + " : " + part() + ";"
	case 1:
		return "def " + head + " : " + part() + " := " + part() + ";"
	case 2:
		return "theorem " + head + ":" + part() + d.gap() + ":=" + part() + d.gap() + ";"
	}
	text := "family " + head + " of " + strconv.Itoa(d.Intn(17)) + " : " + part()
	for i := range d.Intn(9) {
		text += []string{" with ", " | "}[min(i, 1)] + d.name() + " : " + part()
	}
	return text + ";"
}

// source: the text of so many declarations.
func (d drawer) source(decls, nodes int) string {
	text := d.one("", "", " ", "--x\n")
	for range decls {
		text += d.decl(nodes) + d.one("", d.gap())
	}
	return text
}

// drawn: a valid term drawn at random, for these numbers of parameters and variables; it has about so many nodes.
func drawn(r *rand.Rand, params, vars, nodes int) api.Term {
	if nodes <= 1 {
		return drawnLeaf(r, params, vars)
	}
	part := func(n int, more int) api.Term { return drawn(r, params, vars+more, n) }
	first := 1 + r.Intn(nodes)
	switch r.Intn(7) {
	case 0, 1:
		return node(binders[r.Intn(2)], part(first/2, 0), part(nodes-first/2-1, 1))
	case 2:
		return let(part(first/3, 0), part(first/3, 0), part(nodes-first*2/3-1, 1))
	case 3:
		return proj(r.Intn(32), drawnName(r), part(nodes-1, 0))
	}
	return app(part(first, 0), part(nodes-first-1, 0))
}

func drawnLeaf(r *rand.Rand, params, vars int) api.Term {
	switch k := r.Intn(8); {
	case k == 0:
		return prop()
	case k == 1:
		return typ(drawnLevel(r, params))
	case k <= 3 || vars == 0:
		t := c(drawnName(r))
		if r.Intn(3) == 0 {
			for range 1 + r.Intn(4) {
				t.Levels = append(t.Levels, drawnLevel(r, params))
			}
		}
		return t
	}
	return v(r.Intn(vars))
}

func drawnLevel(r *rand.Rand, params int) api.Level {
	l := level.Num([]int{r.Intn(3), r.Intn(101)}[r.Intn(2)])
	for i := range params {
		if r.Intn(2) == 0 {
			l.Plus[i] = r.Intn(l.Base+2) - 1
		}
	}
	return l
}

// drawnName: a name, often one that a printed binder might have.
func drawnName(r *rand.Rand) string {
	names := []string{"a", "f", "nat.rec", "x", "X0", "x00", "x.x0", "u4", strings.Repeat("q", 32)}
	if r.Intn(2) == 0 {
		return "x" + strconv.Itoa(r.Intn(13))
	}
	return names[r.Intn(len(names))]
}

// drawnDecl: a well-formed declaration drawn at random, with terms of about so many nodes.
func drawnDecl(r *rand.Rand, nodes int) api.Decl {
	params := r.Intn(5)
	part := func() api.Term { return drawn(r, params, 0, 1+r.Intn(nodes)) }
	d := api.Decl{Kind: declKinds[r.Intn(4)], Name: drawnName(r), Params: params, Type: part()}
	switch d.Kind {
	case api.DDef, api.DOpaque:
		d.Value = part()
	case api.DFamily:
		d.Fixed = r.Intn(17)
		for range r.Intn(9) {
			d.Ctors = append(d.Ctors, api.Ctor{Name: drawnName(r), Type: part()})
		}
	}
	return d
}

// samples: terms that have a text, of each form and in each place.
func samples() []api.Term {
	u := level.Param(1, 2)
	leaves := []api.Term{prop(), typ(u), typ(level.Num(0)), c("a"), c("a.b"), c("x0"), c("a", u), c("x1", u, level.Num(0), level.Num(3), u), lam(prop(), v(0))}
	list := slices.Clone(leaves)
	for _, t := range leaves {
		list = append(list, proj(0, "s", t), proj(31, "x0", t), app(t, prop()), app(c("b"), t), let(prop(), t, v(0)))
		for _, kind := range []int{api.TLam, api.TPi} {
			list = append(list, node(kind, t, v(0)), node(kind, prop(), t), node(kind, t, let(v(0), v(0), app(v(1), v(0)))))
		}
	}
	r := rand.New(rand.NewSource(141))
	for i := range 60 {
		list = append(list, drawn(r, 4, 0, 2+i))
	}
	return list
}

// sampleDecls: well-formed declarations, of each kind.
func sampleDecls() []api.Decl {
	u := level.Param(3, 2)
	long := pi(typ(u), lam(c("x0", u, u), app(v(1), proj(31, "s", v(0)))))
	full := slices.Repeat([]api.Ctor{{Name: "a.c", Type: long}, {Name: "x0", Type: prop()}}, 4)
	list := []api.Decl{
		{Kind: api.DAxiom, Name: "a", Type: prop()}, {Kind: api.DAxiom, Name: strings.Repeat("q", 32), Params: 4, Type: long},
		{Kind: api.DDef, Name: "d", Type: prop(), Value: prop()}, {Kind: api.DDef, Name: "d.e", Params: 4, Type: long, Value: typ(u)},
		{Kind: api.DOpaque, Name: "t", Type: prop(), Value: c("x")}, {Kind: api.DOpaque, Name: "t", Params: 4, Type: typ(u), Value: long},
		{Kind: api.DFamily, Name: "n", Type: prop()}, {Kind: api.DFamily, Name: "n", Params: 4, Type: long, Fixed: 16},
		{Kind: api.DFamily, Name: "n", Params: 1, Type: prop(), Fixed: 1, Ctors: []api.Ctor{{Name: "z", Type: typ(level.Param(0, 0))}}},
		{Kind: api.DFamily, Name: "n", Params: 4, Type: typ(u), Fixed: 16, Ctors: full},
	}
	r := rand.New(rand.NewSource(142))
	for range 40 {
		list = append(list, drawnDecl(r, 12))
	}
	return list
}

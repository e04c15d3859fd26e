package show

import (
	"fmt"
	"math"
	"math/rand"
	"regexp"
	"slices"
	"strings"
	"testing"

	"imprimatur/api"
	"imprimatur/code"
	"imprimatur/level"
	"imprimatur/term"
)

// declKinds: the kinds of declarations.
var declKinds = []int{api.DAxiom, api.DDef, api.DOpaque, api.DFamily}

// binders: the kinds whose last Arg is inside one more binder.
var binders = []int{api.TLam, api.TPi, api.TLet}

func v(n int) api.Term { return api.Term{Kind: api.TVar, N: n} }

func prop() api.Term { return api.Term{Kind: api.TProp} }

func typ(l api.Level) api.Term { return api.Term{Kind: api.TType, Levels: []api.Level{l}} }

func c(name string, levels ...api.Level) api.Term {
	return api.Term{Kind: api.TConst, Name: name, Levels: levels}
}

func node(kind int, args ...api.Term) api.Term { return api.Term{Kind: kind, Args: args} }

func app(head api.Term, args ...api.Term) api.Term {
	for _, arg := range args {
		head = node(api.TApp, head, arg)
	}
	return head
}

func proj(n int, name string, part api.Term) api.Term {
	return api.Term{Kind: api.TProj, N: n, Name: name, Args: []api.Term{part}}
}

// binder: a binder of a kind around a body; all that stands outside it is the same term.
func binder(kind int, beside, body api.Term) api.Term {
	if kind == api.TLet {
		return node(kind, beside, beside, body)
	}
	return node(kind, beside, body)
}

// under: a term inside n binders of a kind.
func under(kind, n int, t api.Term) api.Term {
	for range n {
		t = binder(kind, prop(), t)
	}
	return t
}

// wide: a valid term of n nodes without variables that nothing binds.
func wide(n int) api.Term {
	t := prop()
	for i := 3; i <= n; i += 2 {
		t = node(api.TApp, t, prop())
	}
	if n%2 == 0 {
		return proj(0, "s", t)
	}
	return t
}

// lev: a level of a number and of what is added to parameters; -1 is none.
func lev(base int, plus ...int) api.Level {
	l := api.Level{Base: base, Plus: [4]int{-1, -1, -1, -1}}
	copy(l.Plus[:], plus)
	return l
}

func axiom(name string, params int, typ api.Term) api.Decl {
	return api.Decl{Kind: api.DAxiom, Name: name, Params: params, Type: typ}
}

func def(name string, params int, typ, value api.Term) api.Decl {
	return api.Decl{Kind: api.DDef, Name: name, Params: params, Type: typ, Value: value}
}

func opaque(name string, params int, typ, value api.Term) api.Decl {
	return api.Decl{Kind: api.DOpaque, Name: name, Params: params, Type: typ, Value: value}
}

func family(name string, params int, typ api.Term, fixed int, ctors ...api.Ctor) api.Decl {
	return api.Decl{Kind: api.DFamily, Name: name, Params: params, Type: typ, Fixed: fixed, Ctors: ctors}
}

// The model: the chapter's words written once more. A text is a list of tokens first; a level is one of them, whatever is in it, and so is @ with its number.

// plainTerm is the chapter's text of a valid term.
func plainTerm(t api.Term) string { return spaced(wholeTokens(t)) }

// spaced: tokens with one space between two of them, where there is one.
func spaced(tokens []string) string {
	var text strings.Builder
	for i, token := range tokens {
		if i > 0 && !slices.Contains([]string{"(", "[", "{"}, tokens[i-1]) && !slices.Contains([]string{")", "]", "}", "{", ","}, token) {
			text.WriteString(" ")
		}
		text.WriteString(token)
	}
	return text.String()
}

func wholeTokens(t api.Term) []string {
	m := model{consts: map[string]bool{}}
	collect(t, m.consts)
	m.term(t, nil)
	return m.list
}

// collect: the names that occur in a term.
func collect(t api.Term, names map[string]bool) {
	if t.Kind == api.TConst || t.Kind == api.TProj {
		names[t.Name] = true
	}
	for _, arg := range t.Args {
		collect(arg, names)
	}
}

// model is the tokens of a term in which these names occur.
type model struct {
	consts map[string]bool
	list   []string
}

func (m *model) add(tokens ...string) { m.list = append(m.list, tokens...) }

// chosen: the first of x0, x1, .. that neither occurs in the whole term nor is the name of a binder around.
func (m *model) chosen(around []string) string {
	for i := 0; ; i++ {
		name := fmt.Sprintf("x%d", i)
		if !m.consts[name] && !slices.Contains(around, name) {
			return name
		}
	}
}

// term adds a term inside binders of these names, the innermost one last.
func (m *model) term(t api.Term, around []string) {
	switch t.Kind {
	case api.TLam, api.TPi:
		name := m.chosen(around)
		m.add(map[int]string{api.TLam: "fun", api.TPi: "all"}[t.Kind], "(", name, ":")
		m.term(t.Args[0], around)
		m.add(")", ",")
		m.term(t.Args[1], append(slices.Clone(around), name))
	case api.TLet:
		name := m.chosen(around)
		m.add("let", name, ":")
		m.term(t.Args[0], around)
		m.add(":=")
		m.term(t.Args[1], around)
		m.add("in")
		m.term(t.Args[2], append(slices.Clone(around), name))
	default:
		head, args := term.Spine(t)
		m.atom(head, around)
		for _, arg := range args {
			m.atom(arg, around)
		}
	}
}

// onlyOne: a level that is only a number, or only a parameter without +.
var onlyOne = regexp.MustCompile(`^([0-9]+|u[0-3])$`)

func (m *model) atom(t api.Term, around []string) {
	switch t.Kind {
	case api.TVar:
		m.add(around[len(around)-1-t.N])
	case api.TProp:
		m.add("Prop")
	case api.TType:
		text := level.String(t.Levels[0])
		if onlyOne.MatchString(text) {
			m.add("Type", text)
		} else {
			m.add("Type", "(", text, ")")
		}
	case api.TConst:
		m.add(t.Name)
		for i, l := range t.Levels {
			m.add([]string{"{", ","}[min(i, 1)], level.String(l))
		}
		if len(t.Levels) > 0 {
			m.add("}")
		}
	case api.TProj:
		m.add("[", fmt.Sprint(t.N), "of", t.Name)
		m.atom(t.Args[0], around)
		m.add("]")
	default:
		m.add("(")
		m.term(t, around)
		m.add(")")
	}
}

// plainDecl is the chapter's text of a well-formed declaration.
func plainDecl(d api.Decl) string {
	list := []string{map[int]string{api.DAxiom: "axiom", api.DDef: "def", api.DOpaque: "theorem", api.DFamily: "family"}[d.Kind], d.Name}
	if d.Params > 0 {
		list = append(list, fmt.Sprint("@", d.Params))
	}
	if d.Kind == api.DFamily {
		list = append(list, "of", fmt.Sprint(d.Fixed))
	}
	list = slices.Concat(list, []string{":"}, wholeTokens(d.Type))
	if d.Kind == api.DDef || d.Kind == api.DOpaque {
		list = slices.Concat(list, []string{":="}, wholeTokens(d.Value))
	}
	for i, ctor := range d.Ctors {
		list = slices.Concat(list, []string{[]string{"with", "|"}[min(i, 1)], ctor.Name, ":"}, wholeTokens(ctor.Type))
	}
	return spaced(list) + ";"
}

// plainLibrary is the chapter's source of well-formed declarations.
func plainLibrary(list []api.Decl) string {
	text := ""
	for _, d := range list {
		text += plainDecl(d) + "\n"
	}
	return text
}

// formed: are all declarations well formed?
func formed(list []api.Decl) bool {
	return !slices.ContainsFunc(list, func(d api.Decl) bool { return !code.Formed(d) })
}

// answers asks that a text is the one that is wanted, or the empty string and false.
func answers(t *testing.T, about any, got string, ok bool, want string, wantOK bool) {
	t.Helper()
	if ok != wantOK || got != want {
		t.Fatalf("%v\ngot %v %q\nwant %v %q", about, ok, got, wantOK, want)
	}
}

// termIs asks Term what the chapter's words say of a term, and layer 12 what its text is; it tells whether there is one.
func termIs(t *testing.T, x api.Term) bool {
	t.Helper()
	got, ok := Term(x)
	want, has := "", term.Right(x, 4, 0)
	if has {
		want = plainTerm(x)
	}
	answers(t, x, got, ok, want, has)
	if ok {
		readsTerm(t, got, x)
	}
	return ok
}

// noTerm asks that a term has no text.
func noTerm(t *testing.T, x api.Term) {
	t.Helper()
	if got, ok := Term(x); ok || got != "" {
		t.Fatalf("got %v %q", ok, got[:min(len(got), 300)])
	}
}

// declIs asks Decl what the chapter's words say of a declaration, and layer 12 what its text is.
func declIs(t *testing.T, d api.Decl) bool {
	t.Helper()
	got, ok := Decl(d)
	want, has := "", code.Formed(d)
	if has {
		want = plainDecl(d)
	}
	answers(t, d, got, ok, want, has)
	if ok {
		readsSource(t, got, d)
	}
	return ok
}

// libraryIs asks Library what the chapter's words say of a list, and layer 12 what its source is.
func libraryIs(t *testing.T, list []api.Decl) bool {
	t.Helper()
	got, ok := Library(list)
	want, has := "", len(list) <= 64 && formed(list)
	if has {
		want = plainLibrary(list)
	}
	answers(t, list, got, ok, want, has)
	if ok {
		readsSource(t, got, list...)
	}
	return ok
}

// drawn: a valid term drawn at random, for these numbers of parameters and variables; it has about so many nodes.
func drawn(r *rand.Rand, params, vars, nodes int) api.Term {
	if nodes <= 1 {
		return drawnLeaf(r, params, vars)
	}
	part := func(n int, more int) api.Term { return drawn(r, params, vars+more, n) }
	first := 1 + r.Intn(nodes)
	switch r.Intn(7) {
	case 0, 1:
		return node(binders[r.Intn(2)], part(first/2, 0), part(nodes-first/2-1, 1))
	case 2:
		return node(api.TLet, part(first/3, 0), part(first/3, 0), part(nodes-first*2/3-1, 1))
	case 3:
		return proj(r.Intn(32), drawnName(r), part(nodes-1, 0))
	}
	return node(api.TApp, part(first, 0), part(nodes-first-1, 0))
}

func drawnLeaf(r *rand.Rand, params, vars int) api.Term {
	switch k := r.Intn(8); {
	case k == 0:
		return prop()
	case k == 1:
		return typ(drawnLevel(r, params))
	case k <= 3 || vars == 0:
		t := c(drawnName(r))
		if r.Intn(3) == 0 {
			for range 1 + r.Intn(4) {
				t.Levels = append(t.Levels, drawnLevel(r, params))
			}
		}
		return t
	case k == 4:
		return v(vars - 1)
	}
	return v(r.Intn(vars))
}

func drawnLevel(r *rand.Rand, params int) api.Level {
	l := level.Num([]int{r.Intn(3), r.Intn(101)}[r.Intn(2)])
	for i := range params {
		if r.Intn(2) == 0 {
			l.Plus[i] = r.Intn(l.Base+2) - 1
		}
	}
	return l
}

// drawnName: a name, often one that a binder might have.
func drawnName(r *rand.Rand) string {
	names := []string{"a", "f", "nat.rec", "x", "X0", "x00", "x.x0", "u4", strings.Repeat("q", 32)}
	if r.Intn(2) == 0 {
		return fmt.Sprintf("x%d", r.Intn(13))
	}
	return names[r.Intn(len(names))]
}

// drawnDecl: a well-formed declaration drawn at random, with terms of about so many nodes.
func drawnDecl(r *rand.Rand, nodes int) api.Decl {
	params := r.Intn(5)
	d := axiom(drawnName(r), params, drawn(r, params, 0, 1+r.Intn(nodes)))
	switch d.Kind = declKinds[r.Intn(4)]; d.Kind {
	case api.DDef, api.DOpaque:
		d.Value = drawn(r, params, 0, 1+r.Intn(nodes))
	case api.DFamily:
		d.Fixed = r.Intn(17)
		for range r.Intn(9) {
			d.Ctors = append(d.Ctors, api.Ctor{Name: drawnName(r), Type: drawn(r, params, 0, 1+r.Intn(nodes))})
		}
	}
	return d
}

// samples: terms that have a text, of each form and in each place.
func samples() []api.Term {
	u := level.Param(1, 2)
	leaves := []api.Term{prop(), typ(u), typ(level.Num(0)), c("a"), c("a.b"), c("x0"), c("a", u), c("x1", u, level.Num(0), level.Num(3), u), node(api.TLam, prop(), v(0))}
	list := slices.Clone(leaves)
	for _, t := range leaves {
		list = append(list, proj(0, "s", t), proj(31, "x0", t), app(t, prop()), app(c("b"), t), node(api.TLet, prop(), t, v(0)))
		for _, kind := range []int{api.TLam, api.TPi} {
			list = append(list, node(kind, t, v(0)), node(kind, prop(), t), node(kind, t, node(api.TLet, v(0), v(0), app(v(1), v(0)))))
		}
	}
	r := rand.New(rand.NewSource(130))
	for i := range 60 {
		list = append(list, drawn(r, 4, 0, 2+i))
	}
	return list
}

// sampleDecls: well-formed declarations, of each kind.
func sampleDecls() []api.Decl {
	u := level.Param(3, 2)
	long := node(api.TPi, typ(u), node(api.TLam, c("x0", u, u), app(v(1), proj(31, "s", v(0)))))
	full := slices.Repeat([]api.Ctor{{Name: "a.c", Type: long}, {Name: "x0", Type: prop()}}, 4)
	list := []api.Decl{
		axiom("a", 0, prop()), axiom(strings.Repeat("q", 32), 4, long), def("d", 0, prop(), prop()), def("d.e", 4, long, typ(u)), opaque("t", 0, prop(), c("x")), opaque("t", 4, typ(u), long),
		family("n", 0, prop(), 0), family("n", 4, long, 16), family("n", 1, prop(), 1, api.Ctor{Name: "z", Type: typ(level.Param(0, 0))}), family("n", 4, typ(u), 16, full...),
	}
	r := rand.New(rand.NewSource(131))
	for range 40 {
		list = append(list, drawnDecl(r, 12))
	}
	return list
}

// badLevels: levels that are not valid.
func badLevels() []api.Level {
	return []api.Level{{Base: -1}, {Base: 101}, level.Num(-1), lev(101), lev(3, 4), lev(3, -1, -2), lev(3, -1, -1, -1, 4), lev(256), lev(1, 255), {Base: math.MinInt}, {Base: math.MaxInt}}
}

// noNames: texts that are no names.
func noNames() []string {
	list := strings.Split("Prop Type fun all let in of with axiom def theorem family u0 u1 u2 u3", " ")
	return append(list, "", ".", "a.", ".a", "a..b", "1", "_a", "a b", "a)", "\x00", "a\xff", "é", "a\n", strings.Repeat("q", 33), strings.Repeat("q", 70000))
}

// odd: terms that have no text, each for a reason of its own, and some of them large.
func odd() []api.Term {
	heavy := c("heavy", make([]api.Level, 5000)...)
	broad := node(api.TApp, slices.Repeat([]api.Term{c("w")}, 4000)...)
	list := []api.Term{
		{}, {Kind: -1}, {Kind: 10}, {Kind: math.MinInt}, {Kind: math.MaxInt}, {Kind: 256 + api.TProp}, {Kind: 10, N: -7, Name: "\xff", Levels: make([]api.Level, 3), Args: []api.Term{v(1), c("x")}},
		v(0), v(1), v(-1), v(math.MinInt), v(math.MaxInt), v(1 << 40), {Kind: api.TProp, N: 1}, {Kind: api.TProp, N: -1}, {Kind: api.TProp, Name: "a"}, {Kind: api.TProp, Levels: make([]api.Level, 1)}, node(api.TProp, c("a")),
		{Kind: api.TType}, {Kind: api.TType, Levels: make([]api.Level, 2)}, {Kind: api.TType, N: 1, Levels: make([]api.Level, 1)}, {Kind: api.TType, Name: "a", Levels: make([]api.Level, 1)}, {Kind: api.TType, Levels: make([]api.Level, 1), Args: []api.Term{prop()}},
		{Kind: api.TConst, Name: "a", N: 2}, c("a", make([]api.Level, 5)...), {Kind: api.TConst, Name: "a", Args: []api.Term{prop()}},
		node(api.TApp), node(api.TApp, c("a")), node(api.TApp, c("a"), c("b"), c("c")), {Kind: api.TApp, N: 1, Args: []api.Term{c("a"), c("b")}}, {Kind: api.TApp, Name: "a", Args: []api.Term{c("a"), c("b")}}, {Kind: api.TApp, Levels: make([]api.Level, 1), Args: []api.Term{c("a"), c("b")}},
		node(api.TLam), node(api.TLam, c("a")), node(api.TPi, c("a"), c("b"), c("c")), {Kind: api.TLam, N: 1, Args: []api.Term{c("a"), c("b")}}, {Kind: api.TPi, Name: "x", Args: []api.Term{c("a"), c("b")}}, {Kind: api.TPi, Levels: make([]api.Level, 1), Args: []api.Term{c("a"), c("b")}},
		node(api.TLet), node(api.TLet, c("a"), c("b")), node(api.TLet, c("a"), c("b"), v(0), v(0)), {Kind: api.TLet, Name: "x", Args: []api.Term{c("a"), c("b"), c("c")}},
		node(api.TProj), proj(-1, "s", prop()), proj(32, "s", prop()), proj(0, "s", api.Term{}), {Kind: api.TProj, Name: "s"}, {Kind: api.TProj, Name: "s", Args: []api.Term{prop(), prop()}}, {Kind: api.TProj, Name: "s", Levels: make([]api.Level, 1), Args: []api.Term{prop()}},
		app(c("a"), api.Term{}), app(api.Term{}, c("a")), app(api.Term{Kind: api.TApp, Args: []api.Term{c("a")}}, c("b")),
		heavy, broad, app(heavy, broad), under(api.TLam, 201, prop()), under(api.TLet, 201, prop()), under(api.TPi, 5000, prop()), wide(3001), wide(9000), node(api.TLam, wide(3000), prop()),
	}
	for _, l := range badLevels() {
		list = append(list, typ(l), c("a", l), c("a", level.Num(0), l))
	}
	for _, s := range noNames() {
		list = append(list, c(s), proj(0, s, prop()))
	}
	return list
}

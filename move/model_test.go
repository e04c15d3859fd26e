package move

import (
	"math"
	"math/rand"
	"slices"
	"strings"
	"testing"

	"imprimatur/api"
	"imprimatur/level"
	"imprimatur/term"
)

// most is the greatest number of variables.
const most = 1 << 40

// outside: numbers that are beyond all bounds.
var outside = []int{math.MinInt, math.MinInt + 1, -1 << 62, -1 << 41, -most - 2, -most - 1, most + 1, most + 2, 1 << 41, 1 << 62, math.MaxInt - 1, math.MaxInt}

// binders: the kinds whose last Arg is inside one more binder.
var binders = []int{api.TLam, api.TPi, api.TLet}

// localKinds: the kinds that are opened and closed.
var localKinds = []int{api.TLam, api.TPi}

// otherKinds: kinds that are neither opened nor closed.
var otherKinds = []int{0, -1, 10, math.MinInt, math.MaxInt, 256 + api.TLam, api.TVar, api.TProp, api.TType, api.TConst, api.TApp, api.TLet, api.TProj}

func v(n int) api.Term { return api.Term{Kind: api.TVar, N: n} }

func prop() api.Term { return api.Term{Kind: api.TProp} }

func typ(l api.Level) api.Term { return api.Term{Kind: api.TType, Levels: []api.Level{l}} }

func c(name string, levels ...api.Level) api.Term {
	return api.Term{Kind: api.TConst, Name: name, Levels: levels}
}

func node(kind int, args ...api.Term) api.Term { return api.Term{Kind: kind, Args: args} }

func proj(n int, name string, part api.Term) api.Term {
	return api.Term{Kind: api.TProj, N: n, Name: name, Args: []api.Term{part}}
}

// binder: a binder of a kind around a body; all that stands outside it is the same term.
func binder(kind int, beside, body api.Term) api.Term {
	if kind == api.TLet {
		return node(kind, beside, beside, body)
	}
	return node(kind, beside, body)
}

// under: a term inside n binders of a kind.
func under(kind, n int, t api.Term) api.Term {
	for range n {
		t = binder(kind, prop(), t)
	}
	return t
}

// wide: a valid term of n nodes, with all variables from 0 to 2.
func wide(n int) api.Term {
	t := v(0)
	for i := 3; i <= n; i += 2 {
		t = node(api.TApp, t, v(i%3))
	}
	if n%2 == 0 {
		return proj(0, "s", t)
	}
	return t
}

// isValid is the chapter's "such a term".
func isValid(t api.Term) bool { return term.Right(t, 4, most) }

// is asks for a term.
func is(t *testing.T, about any, got api.Term, ok bool, want api.Term) {
	t.Helper()
	if !ok || !term.Same(got, want) {
		t.Fatal(about, "got", got, ok, "want", want)
	}
}

// none asks for zero values and false.
func none(t *testing.T, about any, got api.Term, ok bool) {
	t.Helper()
	if ok || !term.Same(got, api.Term{}) {
		t.Fatal(about, "got", got, ok)
	}
}

// as asks for a term, or for zero values and false.
func as(t *testing.T, about any, got api.Term, ok bool, want api.Term, wantOK bool) {
	t.Helper()
	if wantOK {
		is(t, about, got, ok, want)
	} else {
		none(t, about, got, ok)
	}
}

// The model: in a loose term, each variable that no binder of the term binds is a node of a kind of its own, whose N is the outer index, however many binders are around it. So nothing in a loose term needs to be shifted when it comes inside binders.

const outerKind = 77

// loose: the loose term of a term inside so many binders.
func loose(t api.Term, around int) api.Term {
	if t.Kind == api.TVar && t.N >= around {
		return api.Term{Kind: outerKind, N: t.N - around}
	}
	return withArgs(t, func(arg api.Term, more int) api.Term { return loose(arg, around+more) })
}

// tight: the term of a loose one inside so many binders.
func tight(t api.Term, around int) api.Term {
	if t.Kind == outerKind {
		return v(t.N + around)
	}
	return withArgs(t, func(arg api.Term, more int) api.Term { return tight(arg, around+more) })
}

// withArgs: a node with other Args; the closure is told how many more binders are around an Arg.
func withArgs(t api.Term, other func(arg api.Term, more int) api.Term) api.Term {
	var args []api.Term
	for i, arg := range t.Args {
		if i == len(t.Args)-1 && slices.Contains(binders, t.Kind) {
			args = append(args, other(arg, 1))
		} else {
			args = append(args, other(arg, 0))
		}
	}
	t.Args = args
	return t
}

// each: a loose term with other nodes; a node that is replaced by another kind of node has no Args.
func each(t api.Term, other func(api.Term) api.Term) api.Term {
	if s := other(t); s.Kind != t.Kind {
		return s
	}
	t = withArgs(t, func(arg api.Term, _ int) api.Term { return each(arg, other) })
	s := other(t)
	s.Args = t.Args
	return s
}

// checked: a result, if it is a valid term and nothing else was wrong.
func checked(t api.Term, right bool) (api.Term, bool) {
	if !right || !isValid(t) {
		return api.Term{}, false
	}
	return t, true
}

// plainShift is the chapter's Shift.
func plainShift(t api.Term, by, from int) (api.Term, bool) {
	if !isValid(t) || by < -most || by > most || from < 0 || from > most {
		return api.Term{}, false
	}
	right := true
	result := each(loose(t, 0), func(n api.Term) api.Term {
		if n.Kind == outerKind && n.N >= from {
			n.N += by
			right = right && n.N >= from
		}
		return n
	})
	return checked(tight(result, 0), right)
}

// loosePut: args in place of the first outer variables.
func loosePut(t api.Term, args []api.Term) api.Term {
	if t.Kind != outerKind {
		return withArgs(t, func(arg api.Term, _ int) api.Term { return loosePut(arg, args) })
	}
	if t.N >= len(args) {
		return api.Term{Kind: outerKind, N: t.N - len(args)}
	}
	return args[len(args)-1-t.N]
}

// looseAll: the loose terms of terms.
func looseAll(list []api.Term) []api.Term {
	var all []api.Term
	for _, t := range list {
		all = append(all, loose(t, 0))
	}
	return all
}

// plainPut is the chapter's Put.
func plainPut(t api.Term, args ...api.Term) (api.Term, bool) {
	for _, arg := range append(args, t) {
		if !isValid(arg) {
			return api.Term{}, false
		}
	}
	return checked(tight(loosePut(loose(t, 0), looseAll(args)), 0), true)
}

// loosePull: outer variables in place of constants.
func loosePull(t api.Term, names []string) api.Term {
	return each(t, func(n api.Term) api.Term {
		if n.Kind == outerKind {
			n.N += len(names)
		}
		for i, name := range names {
			if n.Kind == api.TConst && len(n.Levels) == 0 && n.Name == name {
				return api.Term{Kind: outerKind, N: len(names) - 1 - i}
			}
		}
		return n
	})
}

// plainPull is the chapter's Pull.
func plainPull(t api.Term, names ...string) (api.Term, bool) {
	if !isValid(t) {
		return api.Term{}, false
	}
	return checked(tight(loosePull(loose(t, 0), names), 0), true)
}

// plainLevels is the chapter's Levels.
func plainLevels(t api.Term, by []api.Level) (api.Term, bool) {
	if !isValid(t) {
		return api.Term{}, false
	}
	right := true
	result := each(t, func(n api.Term) api.Term {
		var levels []api.Level
		for _, l := range n.Levels {
			inst, ok := level.Inst(l, by)
			levels, right = append(levels, inst), right && ok
		}
		n.Levels = levels
		return n
	})
	return checked(result, right)
}

// plainRename is the chapter's Rename.
func plainRename(t api.Term, from, to string) (api.Term, bool) {
	if !isValid(t) || !term.Word(to) {
		return api.Term{}, false
	}
	result := each(t, func(n api.Term) api.Term {
		if (n.Kind == api.TConst || n.Kind == api.TProj) && n.Name == from {
			n.Name = to
		}
		return n
	})
	return checked(result, true)
}

// plainOpen is the chapter's Open.
func plainOpen(t api.Term, kind int, names ...string) ([]Local, api.Term, bool) {
	if !isValid(t) || !slices.Contains(localKinds, kind) {
		return nil, api.Term{}, false
	}
	var consts []api.Term
	var locals []Local
	for i, name := range names {
		if !term.Word(name) || slices.Index(names, name) != i || t.Kind != kind {
			return nil, api.Term{}, false
		}
		locals = append(locals, Local{name, tight(loosePut(loose(t.Args[0], 0), consts), 0)})
		consts = append(consts, c(name))
		t = t.Args[1]
	}
	return locals, tight(loosePut(loose(t, 0), consts), 0), true
}

// plainClose is the chapter's Close.
func plainClose(t api.Term, kind int, locals ...Local) (api.Term, bool) {
	right := isValid(t) && slices.Contains(localKinds, kind)
	var names []string
	for _, l := range locals {
		right = right && isValid(l.Type)
		names = append(names, l.Name)
	}
	if !right {
		return api.Term{}, false
	}
	result := tight(loosePull(loose(t, 0), names), 0)
	for i, l := range slices.Backward(locals) {
		result = node(kind, tight(loosePull(loose(l.Type, 0), names[:i]), 0), result)
	}
	return checked(result, true)
}

// drawn: a valid term drawn at random, for these numbers of parameters and variables; it has about so many nodes.
func drawn(r *rand.Rand, params, vars, nodes int) api.Term {
	if nodes <= 1 {
		return drawnLeaf(r, params, vars)
	}
	part := func(n int, more int) api.Term { return drawn(r, params, vars+more, n) }
	first := 1 + r.Intn(nodes)
	switch r.Intn(7) {
	case 0, 1:
		return node(localKinds[r.Intn(2)], part(first/2, 0), part(nodes-first/2-1, 1))
	case 2:
		return node(api.TLet, part(first/3, 0), part(first/3, 0), part(nodes-first*2/3-1, 1))
	case 3:
		return proj(r.Intn(32), drawnName(r), part(nodes-1, 0))
	}
	return node(api.TApp, part(first, 0), part(nodes-first-1, 0))
}

func drawnLeaf(r *rand.Rand, params, vars int) api.Term {
	switch k := r.Intn(8); {
	case k == 0:
		return prop()
	case k == 1:
		return typ(drawnLevel(r, params))
	case k <= 4 || vars == 0:
		t := c(drawnName(r))
		if r.Intn(3) == 0 {
			for range 1 + r.Intn(4) {
				t.Levels = append(t.Levels, drawnLevel(r, params))
			}
		}
		return t
	case k == 5:
		return v(vars - 1 - r.Intn(min(vars, 3)))
	}
	return v(r.Intn(min(vars, 5)))
}

func drawnLevel(r *rand.Rand, params int) api.Level {
	l := level.Num(r.Intn(5))
	if r.Intn(8) == 0 {
		l = level.Num(r.Intn(101))
	}
	for i := range params {
		if r.Intn(2) == 0 {
			l.Plus[i] = r.Intn(l.Base+2) - 1
		}
	}
	return l
}

// drawnNames are the names in the terms that are drawn.
var drawnNames = []string{"a", "b", "n", "nat.rec", "s", strings.Repeat("q", 32)}

func drawnName(r *rand.Rand) string { return drawnNames[r.Intn(len(drawnNames))] }

// noNames: texts that are no names, a reserved word among them.
func noNames() []string {
	return []string{"", "fun", "Prop", "u0", "in", ".", "a.", ".a", "a..b", "1", "_a", "a b", "\x00", "a\xff", "é", strings.Repeat("q", 33)}
}

// samples: valid terms for 4 parameters and 9 variables, of each form and in each place.
func samples() []api.Term {
	u := level.Param(1, 2)
	leaves := []api.Term{v(0), v(1), v(8), prop(), typ(u), typ(level.Num(0)), c("a"), c("b"), c("a", u), c("a", u, api.Level{}, level.Num(3), u)}
	list := slices.Clone(leaves)
	for _, t := range leaves {
		list = append(list, proj(0, "s", t), proj(31, "a", t), node(api.TApp, t, prop()), node(api.TApp, c("b"), t))
		for _, kind := range binders {
			list = append(list, binder(kind, t, v(0)), binder(kind, prop(), t), binder(kind, t, v(9)), binder(kind, t, binder(api.TPi, v(1), v(2))))
		}
	}
	r := rand.New(rand.NewSource(90))
	for i := range 60 {
		list = append(list, drawn(r, 4, 9, 2+i))
	}
	return list
}

// odd: terms that are valid nowhere, each for a reason of its own, and some of them large.
func odd() []api.Term {
	heavy := c("heavy", make([]api.Level, 5000)...)
	broad := node(api.TApp, slices.Repeat([]api.Term{c("w")}, 4000)...)
	return []api.Term{
		{}, {Kind: -1}, {Kind: 10}, {Kind: math.MinInt}, {Kind: math.MaxInt}, {Kind: outerKind}, {Kind: 10, N: -7, Name: "\xff", Levels: make([]api.Level, 3), Args: []api.Term{v(1), c("x")}},
		v(-1), v(math.MinInt), v(math.MaxInt), v(most), v(most + 7), c(""), c("fun"), c("1"), c("a", level.Num(-1)), c("a", level.Num(101)), c("a", make([]api.Level, 5)...), {Kind: api.TVar, Name: "a"}, {Kind: api.TProp, N: 1}, {Kind: api.TConst, Name: "a", N: 2},
		node(api.TApp), node(api.TApp, c("a")), node(api.TApp, c("a"), c("b"), c("c")), node(api.TLam), node(api.TLam, c("a")), node(api.TPi, c("a"), c("b"), v(0)), node(api.TApp, v(0), v(-1)), node(api.TLam, prop(), v(most+1)),
		node(api.TLet, c("a"), c("b")), node(api.TLet, c("a"), c("b"), v(0), v(1)), node(api.TProj), proj(-1, "s", v(0)), proj(32, "s", v(0)), proj(0, "", v(0)), proj(0, "s", api.Term{}), typ(api.Level{Plus: [4]int{1, 0, 0, 0}}), {Kind: api.TType},
		heavy, broad, node(api.TApp, heavy, broad), node(api.TLam, broad, heavy), node(api.TPi, c("a"), heavy), under(api.TLam, 201, v(0)), under(api.TPi, 5000, v(0)), wide(3001), wide(9000), node(api.TLam, wide(3000), v(0)),
	}
}

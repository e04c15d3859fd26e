package term

import (
	"math"
	"math/rand"
	"reflect"
	"regexp"
	"slices"
	"strconv"
	"strings"

	"imprimatur/api"
	"imprimatur/level"
)

// most is the greatest number of variables.
const most = 1 << 40

// outside: numbers that are no number of parameters, no argument's count and no field's index.
var outside = []int{math.MinInt, math.MinInt + 1, -1 << 40, -3001, -201, -2, -1, 1<<40 + 1000, 1 << 41, 1 << 62, math.MaxInt - 1, math.MaxInt}

// binders: the kinds whose last Arg is inside one more binder.
var binders = []int{api.TLam, api.TPi, api.TLet}

func v(n int) api.Term { return api.Term{Kind: api.TVar, N: n} }

func prop() api.Term { return api.Term{Kind: api.TProp} }

func typ(l api.Level) api.Term { return api.Term{Kind: api.TType, Levels: []api.Level{l}} }

func c(name string, levels ...api.Level) api.Term {
	return api.Term{Kind: api.TConst, Name: name, Levels: levels}
}

func node(kind int, args ...api.Term) api.Term { return api.Term{Kind: kind, Args: args} }

func proj(n int, name string, part api.Term) api.Term {
	return api.Term{Kind: api.TProj, N: n, Name: name, Args: []api.Term{part}}
}

// binder: a binder of a kind around a body; all that stands outside it is the same term.
func binder(kind int, beside, body api.Term) api.Term {
	if kind == api.TLet {
		return node(kind, beside, beside, body)
	}
	return node(kind, beside, body)
}

// under: a term inside n binders of a kind.
func under(kind, n int, t api.Term) api.Term {
	for range n {
		t = binder(kind, prop(), t)
	}
	return t
}

var nameForm = regexp.MustCompile(`^[a-zA-Z][a-zA-Z0-9_]*(\.[a-zA-Z][a-zA-Z0-9_]*)*$`)

// noNames: the words that are not names.
func noNames() []string {
	return strings.Split("Prop, Type, fun, all, let, in, of, with, axiom, def, theorem, family, u0, u1, u2, u3", ", ")
}

// isName is the chapter's "name".
func isName(s string) bool {
	return len(s) <= 32 && nameForm.MatchString(s) && !slices.Contains(noNames(), s)
}

// isValid is the chapter's "valid", sentence by sentence.
func isValid(t api.Term, params, vars int) bool {
	return params >= 0 && params <= 4 && vars >= 0 && vars <= most && size(t) <= 3000 && nested(t) <= 200 && formed(t, params, vars)
}

// size: the nodes of the tree and their Levels.
func size(t api.Term) int {
	n := 1 + len(t.Levels)
	for _, arg := range t.Args {
		n += size(arg)
	}
	return n
}

// inside: how many more binders are around an Arg than around the term.
func inside(t api.Term, at int) int {
	if slices.Contains(binders, t.Kind) && at == len(t.Args)-1 {
		return 1
	}
	return 0
}

// nested: how many binders are inside each other.
func nested(t api.Term) int {
	n := 0
	for i, arg := range t.Args {
		n = max(n, nested(arg)+inside(t, i))
	}
	return n
}

// formed: has each node one of the forms?
func formed(t api.Term, params, vars int) bool {
	for i, arg := range t.Args {
		if !formed(arg, params, vars+inside(t, i)) {
			return false
		}
	}
	for _, l := range t.Levels {
		if !level.Right(l) || level.Width(l) > params {
			return false
		}
	}
	// bare: all fields that are not allowed to be other than zero are zero, but for the number of Args.
	bare := func(n, name, levels bool) bool {
		return (n || t.N == 0) && (name || t.Name == "") && (levels || len(t.Levels) == 0)
	}
	switch args := len(t.Args); t.Kind {
	case api.TVar:
		return t.N >= 0 && t.N < vars && args == 0 && bare(true, false, false)
	case api.TProp:
		return args == 0 && bare(false, false, false)
	case api.TType:
		return len(t.Levels) == 1 && args == 0 && bare(false, false, true)
	case api.TConst:
		return isName(t.Name) && len(t.Levels) <= 4 && args == 0 && bare(false, true, true)
	case api.TApp, api.TLam, api.TPi:
		return args == 2 && bare(false, false, false)
	case api.TLet:
		return args == 3 && bare(false, false, false)
	case api.TProj:
		return t.N >= 0 && t.N <= 31 && isName(t.Name) && args == 1 && bare(true, true, false)
	}
	return false
}

// visit is a node as it is visited.
type visit struct {
	node   api.Term
	around int
}

// listed: all nodes of a term, each before its Args.
func listed(t api.Term) []visit {
	var list []visit
	waiting := []visit{{t, 0}}
	for len(waiting) > 0 {
		at := waiting[len(waiting)-1]
		waiting = waiting[:len(waiting)-1]
		list = append(list, at)
		for i, arg := range slices.Backward(at.node.Args) {
			waiting = append(waiting, visit{arg, at.around + inside(at.node, i)})
		}
	}
	return list
}

// plainConsts is the chapter's Consts.
func plainConsts(t api.Term) []string {
	names := map[string]int{}
	seen := 0
	for _, at := range listed(t) {
		if seen+1+len(at.node.Levels) > 3000 {
			break
		}
		seen += 1 + len(at.node.Levels)
		if at.node.Kind == api.TConst || at.node.Kind == api.TProj {
			names[at.node.Name]++
		}
	}
	var list []string
	for name := range names {
		list = append(list, name)
	}
	slices.Sort(list)
	return list
}

// outer: how often each variable occurs that no binder of the term binds, by its index outside.
func outer(t api.Term) map[int]int {
	counts := map[int]int{}
	for _, at := range listed(t) {
		if at.node.Kind == api.TVar && at.node.N >= at.around {
			counts[at.node.N-at.around]++
		}
	}
	return counts
}

// plain: a term whose empty lists are all nil, for the library's own comparison.
func plain(t api.Term) api.Term {
	p := api.Term{Kind: t.Kind, N: t.N, Name: t.Name}
	for _, l := range t.Levels {
		p.Levels = append(p.Levels, l)
	}
	for _, arg := range t.Args {
		p.Args = append(p.Args, plain(arg))
	}
	return p
}

// equal: two terms that are equal, node by node.
func equal(a, b api.Term) bool { return reflect.DeepEqual(plain(a), plain(b)) }

// equalAll: likewise for lists.
func equalAll(a, b []api.Term) bool { return slices.EqualFunc(a, b, equal) }

// drawn: a valid term drawn at random, for these numbers of parameters and variables; it has about so many nodes.
func drawn(r *rand.Rand, params, vars, nodes int) api.Term {
	if nodes <= 1 {
		return drawnLeaf(r, params, vars)
	}
	part := func(n int, more int) api.Term { return drawn(r, params, vars+more, n) }
	first := 1 + r.Intn(nodes)
	switch r.Intn(6) {
	case 0:
		return node(api.TLam, part(first/2, 0), part(nodes-first/2-1, 1))
	case 1:
		return node(api.TPi, part(first/2, 0), part(nodes-first/2-1, 1))
	case 2:
		return node(api.TLet, part(first/3, 0), part(first/3, 0), part(nodes-first*2/3-1, 1))
	case 3:
		return proj(r.Intn(32), drawnName(r), part(nodes-1, 0))
	}
	return node(api.TApp, part(first, 0), part(nodes-first-1, 0))
}

func drawnLeaf(r *rand.Rand, params, vars int) api.Term {
	switch k := r.Intn(6); {
	case k == 0:
		return prop()
	case k == 1:
		return typ(drawnLevel(r, params))
	case k == 2 || vars == 0:
		t := c(drawnName(r))
		for range r.Intn(5) {
			t.Levels = append(t.Levels, drawnLevel(r, params))
		}
		return t
	case k == 3:
		return v(vars - 1 - r.Intn(min(vars, 3)))
	}
	return v(r.Intn(min(vars, 4)))
}

func drawnLevel(r *rand.Rand, params int) api.Level {
	l := level.Num(r.Intn(101))
	for i := range params {
		if r.Intn(2) == 0 {
			l.Plus[i] = r.Intn(l.Base+2) - 1
		}
	}
	return l
}

func drawnName(r *rand.Rand) string {
	names := []string{"a", "b", "nat", "nat.rec", "Z_9", "u4", "a.u0", strings.Repeat("q", 32), "aa", "B.b.b"}
	return names[r.Intn(len(names))]
}

// spots: each node of a term by its way from the root.
func spots(t api.Term) [][]int {
	list := [][]int{nil}
	for i, arg := range t.Args {
		for _, way := range spots(arg) {
			list = append(list, append([]int{i}, way...))
		}
	}
	return list
}

// changed: a copy of a term with one node changed.
func changed(t api.Term, way []int, do func(*api.Term)) api.Term {
	t = plain(t)
	at := &t
	for _, i := range way {
		at = &at.Args[i]
	}
	do(at)
	return t
}

// change makes another node of a node.
type change struct {
	name string
	do   func(*api.Term)
}

// changes: each of them changes one field of a node alone, if it can.
func changes() []change {
	list := []change{
		{"N up", func(t *api.Term) { t.N++ }},
		{"N down", func(t *api.Term) { t.N-- }},
		{"N far", func(t *api.Term) { t.N += 1 << 32 }},
		{"N least", func(t *api.Term) { t.N = math.MinInt }},
		{"N greatest", func(t *api.Term) { t.N = math.MaxInt }},
		{"name longer", func(t *api.Term) { t.Name += "a" }},
		{"name point", func(t *api.Term) { t.Name += "." }},
		{"name other", func(t *api.Term) { t.Name = strings.ToUpper(t.Name) }},
		{"name none", func(t *api.Term) { t.Name = "" }},
		{"name word", func(t *api.Term) { t.Name = "fun" }},
		{"level more", func(t *api.Term) { t.Levels = append(t.Levels, level.Num(0)) }},
		{"level ahead", func(t *api.Term) { t.Levels = append([]api.Level{level.Num(100)}, t.Levels...) }},
		{"level fewer", func(t *api.Term) { t.Levels = t.Levels[:max(len(t.Levels)-1, 0)] }},
		{"levels none", func(t *api.Term) { t.Levels = nil }},
		{"arg more", func(t *api.Term) { t.Args = append(t.Args, prop()) }},
		{"arg ahead", func(t *api.Term) { t.Args = append([]api.Term{c("new")}, t.Args...) }},
		{"arg fewer", func(t *api.Term) { t.Args = t.Args[:max(len(t.Args)-1, 0)] }},
		{"args none", func(t *api.Term) { t.Args = nil }},
		{"args swapped", func(t *api.Term) { slices.Reverse(t.Args) }},
	}
	for _, kind := range []int{math.MinInt, -1, 0, 1, 2, 3, 4, 5, 6, 7, 8, 9, 10, 256 + 5, math.MaxInt} {
		list = append(list, change{"kind " + strconv.Itoa(kind), func(t *api.Term) { t.Kind = kind }})
	}
	for i := range 4 {
		at := " " + strconv.Itoa(i)
		list = append(list,
			change{"base" + at, changeLevel(i, func(l *api.Level) { l.Base++ })},
			change{"plus" + at, changeLevel(i, func(l *api.Level) { l.Plus[i] = (l.Plus[i]+2)%(l.Base+2) - 1 })},
			change{"wrong" + at, changeLevel(i, func(l *api.Level) { l.Plus[3-i] = -2 })})
	}
	return list
}

// changeLevel changes one of a node's Levels, if it is there.
func changeLevel(at int, do func(*api.Level)) func(*api.Term) {
	return func(t *api.Term) {
		if at < len(t.Levels) {
			do(&t.Levels[at])
		}
	}
}

// samples: valid terms for 4 parameters and 9 variables, of each form and in each place.
func samples() []api.Term {
	u := level.Param(1, 2)
	leaves := []api.Term{v(0), v(8), prop(), typ(u), typ(level.Num(0)), c("a"), c("a.b", u), c("a", u, api.Level{}, level.Num(3), u)}
	list := slices.Clone(leaves)
	for _, t := range leaves {
		list = append(list, proj(0, "s", t), proj(31, "s.t", t), node(api.TApp, t, prop()), node(api.TApp, c("f"), t))
		for _, kind := range binders {
			list = append(list, binder(kind, t, v(0)), binder(kind, prop(), t), binder(kind, t, v(9)))
		}
	}
	r := rand.New(rand.NewSource(80))
	for i := range 40 {
		list = append(list, drawn(r, 4, 9, 2+i))
	}
	return list
}

// odd: terms that are valid nowhere, each for a reason of its own, and some of them large.
func odd() []api.Term {
	heavy := c("heavy", make([]api.Level, 5000)...)
	wide := node(api.TApp, slices.Repeat([]api.Term{c("w")}, 4000)...)
	return []api.Term{
		{}, {Kind: -1}, {Kind: 10}, {Kind: math.MinInt}, {Kind: math.MaxInt}, {Kind: 10, N: -7, Name: "\xff", Levels: make([]api.Level, 3), Args: []api.Term{v(1), c("x")}},
		v(-1), v(math.MinInt), v(math.MaxInt), v(1 << 40), c(""), c("fun"), c("1"), c("a", level.Num(-1)), c("a", level.Num(101)),
		node(api.TApp), node(api.TApp, c("a")), node(api.TApp, c("a"), c("b"), c("c")), node(api.TLam), node(api.TLam, c("a")), node(api.TPi, c("a"), c("b"), v(0)),
		node(api.TLet, c("a"), c("b")), node(api.TLet, c("a"), c("b"), v(0), v(1)), node(api.TProj), proj(-1, "s", v(0)), proj(32, "s", v(0)), proj(0, "", v(0)),
		heavy, wide, node(api.TApp, heavy, wide), node(api.TLam, wide, heavy), node(api.TPi, c("a"), heavy), under(api.TLam, 201, v(0)),
	}
}

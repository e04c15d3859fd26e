package term

import (
	"math"
	"math/rand"
	"slices"
	"strings"
	"testing"

	"imprimatur/api"
	"imprimatur/level"
)

// rightAs asks of Right what is known.
func rightAs(t *testing.T, want bool, x api.Term, params, vars int, about ...any) {
	t.Helper()
	if Right(x, params, vars) != want {
		t.Fatal(append([]any{"not", want, "params", params, "vars", vars}, about...)...)
	}
}

// P8.1: 0 to 4 universe parameters, 0 to 2^40 variables, and numbers beyond both.
func TestRightBounds(t *testing.T) {
	for params := -2; params <= 6; params++ {
		for _, vars := range []int{-2, -1, 0, 1, 2, most - 1, most, most + 1, most + 2} {
			rightAs(t, params >= 0 && params <= 4 && vars >= 0 && vars <= most, prop(), params, vars)
		}
	}
	for _, n := range outside {
		for params := range 5 {
			rightAs(t, false, prop(), params, n)
		}
		for _, vars := range []int{0, 1, most, n} {
			rightAs(t, false, prop(), n, vars)
		}
	}
}

// P8.1: each form, with each other field that is not zero or not empty, with Args and Levels too few or too many.
func TestRightNode(t *testing.T) {
	u := level.Param(1, 0)
	kinds := []int{math.MinInt, -5, -1, 0, 1, 2, 3, 4, 5, 6, 7, 8, 9, 10, 11, 256 + 2, math.MaxInt}
	numbers := []int{math.MinInt, -1, 0, 1, 2, 3, 30, 31, 32, 33, most, math.MaxInt}
	names := []string{"", "a", "a.b", strings.Repeat("q", 32), strings.Repeat("q", 33), "fun", "u0", "1", "a.", "\x00"}
	lists := [][]api.Level{nil, {}, {level.Num(0)}, {u}, {u, u}, {u, u, u}, {u, u, u, u}, {u, u, u, u, u}, {level.Num(-1)}, {u, level.Num(101)}}
	args := slices.Repeat([]api.Term{prop()}, 6)
	right := 0
	for _, kind := range kinds {
		for _, n := range numbers {
			for _, name := range names {
				for _, levels := range lists {
					for count := range 6 {
						x := api.Term{Kind: kind, N: n, Name: name, Levels: levels, Args: args[:count]}
						for _, b := range [][2]int{{2, 3}, {1, 3}, {2, 2}, {2, 0}, {4, most}} {
							want := formed(x, b[0], b[1])
							rightAs(t, want, x, b[0], b[1], x)
							if want {
								right++
							}
						}
					}
				}
			}
		}
	}
	if right < 300 {
		t.Error("only", right)
	}
}

// P8.1: what is allowed of each form, and each thing that is not, written out.
func TestRightKnown(t *testing.T) {
	u, one := level.Param(1, 0), []api.Level{level.Num(0)}
	a := c("a")
	for i, x := range []api.Term{
		v(0), v(2), prop(), typ(u), typ(level.Num(100)), a, c("a", u), c("a", u, u, u, u), node(api.TApp, a, a), node(api.TLam, a, v(3)), node(api.TPi, v(2), v(0)),
		node(api.TLet, v(2), v(2), v(3)), proj(0, "s", a), proj(31, "s.t", v(2)), {Kind: api.TProp, Levels: []api.Level{}, Args: []api.Term{}},
	} {
		rightAs(t, true, x, 2, 3, i)
	}
	for i, x := range []api.Term{
		{}, {Kind: 10}, {Kind: -1}, v(-1), v(3), {Kind: api.TVar, Name: "a"}, {Kind: api.TVar, Levels: one}, {Kind: api.TVar, Args: []api.Term{a}},
		{Kind: api.TProp, N: 1}, {Kind: api.TProp, N: -1}, {Kind: api.TProp, Name: "a"}, {Kind: api.TProp, Levels: one}, {Kind: api.TProp, Args: []api.Term{a}},
		{Kind: api.TType}, {Kind: api.TType, Levels: []api.Level{u, u}}, {Kind: api.TType, N: 1, Levels: one}, {Kind: api.TType, Name: "a", Levels: one}, {Kind: api.TType, Levels: one, Args: []api.Term{a}},
		c(""), c("of"), c("a", u, u, u, u, u), {Kind: api.TConst, Name: "a", N: 1}, {Kind: api.TConst, Name: "a", Args: []api.Term{a}},
		node(api.TApp), node(api.TApp, a), node(api.TApp, a, a, a), {Kind: api.TApp, N: 1, Args: []api.Term{a, a}}, {Kind: api.TApp, Name: "a", Args: []api.Term{a, a}}, {Kind: api.TApp, Levels: one, Args: []api.Term{a, a}},
		node(api.TLam), node(api.TLam, a), node(api.TLam, a, a, a), {Kind: api.TLam, N: 1, Args: []api.Term{a, a}}, {Kind: api.TLam, Name: "x", Args: []api.Term{a, a}}, {Kind: api.TLam, Levels: one, Args: []api.Term{a, a}},
		node(api.TPi), node(api.TPi, a), node(api.TPi, a, a, a), {Kind: api.TPi, N: 1, Args: []api.Term{a, a}}, {Kind: api.TPi, Name: "x", Args: []api.Term{a, a}}, {Kind: api.TPi, Levels: one, Args: []api.Term{a, a}},
		node(api.TLet), node(api.TLet, a, a), node(api.TLet, a, a, a, a), {Kind: api.TLet, N: 1, Args: []api.Term{a, a, a}}, {Kind: api.TLet, Name: "x", Args: []api.Term{a, a, a}}, {Kind: api.TLet, Levels: one, Args: []api.Term{a, a, a}},
		proj(-1, "s", a), proj(32, "s", a), proj(math.MaxInt, "s", a), proj(math.MinInt, "s", a), proj(0, "", a), proj(0, "in", a), proj(0, "s.", a), node(api.TProj), {Kind: api.TProj, Name: "s"}, {Kind: api.TProj, Name: "s", Args: []api.Term{a, a}}, {Kind: api.TProj, Name: "s", Levels: one, Args: []api.Term{a}},
	} {
		rightAs(t, false, x, 2, 3, i)
		for _, kind := range binders {
			rightAs(t, false, binder(kind, x, a), 2, 3, i)
			rightAs(t, false, binder(kind, a, x), 2, 2, i)
		}
		rightAs(t, false, node(api.TApp, x, a), 2, 3, i)
		rightAs(t, false, node(api.TApp, a, x), 2, 3, i)
		rightAs(t, false, proj(0, "s", x), 2, 3, i)
		rightAs(t, false, node(api.TLet, a, x, a), 2, 3, i)
	}
}

// P8.1: Levels that are invalid, or whose width is above the number of parameters, in each node that may have them.
func TestRightLevels(t *testing.T) {
	for _, l := range []api.Level{{}, level.Num(0), level.Num(100), level.Param(0, 0), level.Param(1, 7), level.Param(2, 100), level.Param(3, 1), level.Num(-1), level.Num(101), {Base: 3, Plus: [4]int{4, -1, -1, -1}}, {Base: 3, Plus: [4]int{-2, -1, -1, -1}}, {Base: 3, Plus: [4]int{3, -1, -1, -1}}, {Base: 100, Plus: [4]int{-1, 101, -1, -1}}, {Base: math.MinInt}, {Base: math.MaxInt}} {
		for params := range 5 {
			want := level.Right(l) && level.Width(l) <= params
			rightAs(t, want, typ(l), params, 0, l)
			for at := range 4 {
				for count := at + 1; count <= 4; count++ {
					levels := slices.Repeat([]api.Level{level.Num(1)}, count)
					levels[at] = l
					rightAs(t, want, c("a", levels...), params, 0, l, at, count)
					rightAs(t, want, node(api.TPi, prop(), node(api.TApp, c("a", levels...), v(0))), params, 0, l, at, count)
				}
			}
		}
	}
}

// P8.1: terms of 3,000 and of 3,001 nodes, of several builds, with Levels that count too.
func TestRightSize(t *testing.T) {
	u := level.Num(1)
	// Each of them has an odd number of nodes; below, one node of an odd or even weight is put ahead.
	builds := map[string]func(n int) api.Term{
		"left":  func(n int) api.Term { return App(prop(), slices.Repeat([]api.Term{prop()}, n/2)...) },
		"right": func(n int) api.Term { return grown(n, func(t api.Term) api.Term { return node(api.TApp, prop(), t) }) },
		"pairs": func(n int) api.Term { return paired(n) },
		"types": func(n int) api.Term { return grown(n, func(t api.Term) api.Term { return node(api.TPi, t, v(0)) }) },
	}
	for name, build := range builds {
		for _, n := range []int{1, 3, 2989, 2991, 2993, 2995, 2997, 2999, 3001, 3003, 3501, 9001} {
			x := build(n)
			if size(x) != n {
				t.Fatal(name, n, size(x))
			}
			rightAs(t, n <= 3000, x, 0, 0, name, n)
			for levels := range 5 {
				for _, y := range []api.Term{node(api.TApp, x, c("a", slices.Repeat([]api.Level{u}, levels)...)), node(api.TApp, c("a", slices.Repeat([]api.Level{u}, levels)...), x)} {
					rightAs(t, n+2+levels <= 3000, y, 0, 0, name, n, levels)
				}
			}
			rightAs(t, n+1 <= 3000, proj(3, "s", x), 0, 0, name, n)
			rightAs(t, n+3 <= 3000, node(api.TApp, x, typ(u)), 0, 0, name, n)
			rightAs(t, n+3 <= 3000, node(api.TLet, x, prop(), prop()), 0, 0, name, n)
		}
	}
}

// grown: a term that grows by two nodes until it has n.
func grown(n int, more func(api.Term) api.Term) api.Term {
	t := prop()
	for i := 1; i < n; i += 2 {
		t = more(t)
	}
	return t
}

// paired: applications of applications, with an odd number of nodes.
func paired(n int) api.Term {
	if n == 1 {
		return prop()
	}
	left := (n - 1) / 2
	left -= 1 - left%2
	return node(api.TApp, paired(left), paired(n-1-left))
}

// P8.1: 200 and 201 nested binders, of each kind and of all kinds.
func TestRightDeep(t *testing.T) {
	for _, kind := range binders {
		for _, other := range binders {
			for _, n := range []int{0, 1, 99, 100, 101} {
				x := under(kind, 100, under(other, n, prop()))
				rightAs(t, n <= 100, x, 0, 0, kind, other, n)
				rightAs(t, n <= 100, node(api.TApp, prop(), x), 0, 0, kind, other, n)
				rightAs(t, n <= 100, proj(0, "s", x), 0, 0, kind, other, n)
				rightAs(t, n <= 100, under(kind, 100, node(api.TApp, prop(), under(other, n, v(0)))), 0, 0, kind, other, n)
				rightAs(t, n <= 99, under(other, 1, x), 0, 0, kind, other, n)
			}
		}
		rightAs(t, true, under(kind, 200, prop()), 0, 0, kind)
		rightAs(t, false, under(kind, 201, prop()), 0, 0, kind)
		rightAs(t, false, under(kind, 1000, prop()), 0, 0, kind)
	}
}

// P8.1: binders beside each other are not nested: only the last Arg is inside.
func TestRightBeside(t *testing.T) {
	full := under(api.TPi, 200, prop())
	for _, kind := range binders {
		rightAs(t, true, node(api.TApp, full, full), 0, 0, kind)
		rightAs(t, true, binder(kind, full, prop()), 0, 0, kind)
		rightAs(t, false, binder(kind, prop(), full), 0, 0, kind)
		rightAs(t, false, binder(kind, full, full), 0, 0, kind)
		// Each of these binders stands in the type of the one before it, with one binder of its own kind in its body.
		x := prop()
		for range 400 {
			x = binder(kind, x, prop())
			if kind == api.TLet {
				x.Args[1] = prop()
			}
		}
		rightAs(t, true, x, 0, 0, kind)
		rightAs(t, true, under(api.TLam, 199, x), 0, 0, kind)
		rightAs(t, false, under(api.TLam, 200, x), 0, 0, kind)
	}
	rightAs(t, true, node(api.TLet, prop(), full, prop()), 0, 0)
	rightAs(t, false, node(api.TLet, prop(), prop(), full), 0, 0)
	rightAs(t, true, under(api.TLam, 200, node(api.TApp, v(199), v(0))), 0, 0)
}

// P8.1: a variable that is just inside and just outside, under binders and beside them.
func TestRightVariables(t *testing.T) {
	for _, vars := range []int{0, 1, 2, 5, 1 << 20, most - 1, most} {
		for _, kind := range binders {
			for _, deep := range []int{0, 1, 2, 7, 199, 200} {
				for _, n := range []int{math.MinInt, -1, 0, deep - 1, deep, vars - 1, vars, vars + deep - 1, vars + deep, vars + deep + 1, math.MaxInt} {
					want := n >= 0 && n < vars+deep
					rightAs(t, want, under(kind, deep, v(n)), 0, vars, kind, deep, n)
					if deep == 200 {
						continue
					}
					rightAs(t, want, under(kind, deep, binder(kind, v(n), prop())), 0, vars, kind, deep, n)
					rightAs(t, want, under(kind, deep, node(api.TApp, binder(kind, prop(), v(deep)), v(n))), 0, vars, kind, deep, n)
				}
			}
		}
	}
}

// P8.1: which Arg of a binder is inside: the last one and no other.
func TestRightLastArg(t *testing.T) {
	for _, kind := range binders {
		whole := binder(kind, prop(), prop())
		for at := range whole.Args {
			for _, vars := range []int{0, 3} {
				for n := range 6 {
					x := plain(whole)
					x.Args[at] = v(n)
					inner := 0
					if at == len(x.Args)-1 {
						inner = 1
					}
					rightAs(t, n < vars+inner, x, 0, vars, kind, at, n)
				}
			}
		}
	}
	for _, x := range []api.Term{node(api.TApp, v(0), prop()), node(api.TApp, prop(), v(0)), proj(0, "s", v(0))} {
		rightAs(t, false, x, 0, 0, x)
		rightAs(t, true, x, 0, 1, x)
	}
}

// P8.1: valid terms drawn at random, for their own numbers and for others, and with one field of one node changed.
func TestRightDrawn(t *testing.T) {
	r := rand.New(rand.NewSource(81))
	all := changes()
	right, wrong := 0, 0
	ask := func(x api.Term, params, vars int, about string) {
		want := isValid(x, params, vars)
		rightAs(t, want, x, params, vars, about, x)
		if want {
			right++
		} else {
			wrong++
		}
	}
	for range 20000 {
		params, vars := r.Intn(5), r.Intn(4)
		x := drawn(r, params, vars, 1+r.Intn(30))
		ask(x, params, vars, "as drawn")
		ask(x, r.Intn(7)-1, r.Intn(6)-1, "for others")
		ways := spots(x)
		change := all[r.Intn(len(all))]
		ask(changed(x, ways[r.Intn(len(ways))], change.do), params, vars, change.name)
	}
	if right < 20000 || wrong < 15000 {
		t.Error(right, wrong)
	}
}

// P8.1: each change of each node of the samples.
func TestRightChanged(t *testing.T) {
	for _, x := range samples() {
		rightAs(t, true, x, 4, 9, x)
		for _, way := range spots(x) {
			for _, change := range changes() {
				y := changed(x, way, change.do)
				rightAs(t, isValid(y, 4, 9), y, 4, 9, change.name, y)
				rightAs(t, isValid(y, 2, 8), y, 2, 8, change.name, y)
			}
		}
	}
	for i, x := range odd() {
		rightAs(t, false, x, 4, most, i)
	}
}

package term

import (
	"math"
	"math/rand"
	"slices"
	"testing"

	"imprimatur/api"
	"imprimatur/level"
)

// spineIs asks for a head and arguments.
func spineIs(t *testing.T, x, head api.Term, args ...api.Term) {
	t.Helper()
	h, a := Spine(x)
	if !equal(h, head) || !equalAll(a, args) {
		t.Error(x, "head", h, "args", a)
	}
}

// stripIs asks for types and a body.
func stripIs(t *testing.T, x api.Term, kind int, body api.Term, types ...api.Term) {
	t.Helper()
	l, b := Strip(x, kind)
	if !equal(b, body) || !equalAll(l, types) {
		t.Error(x, kind, "types", l, "body", b)
	}
}

// P8.2: Spine of an application with no, one and many arguments.
func TestSpineKnown(t *testing.T) {
	f, a, b := c("f"), c("a"), v(3)
	spineIs(t, f, f)
	spineIs(t, node(api.TApp, f, a), f, a)
	spineIs(t, node(api.TApp, node(api.TApp, f, a), b), f, a, b)
	spineIs(t, node(api.TApp, f, node(api.TApp, a, b)), f, node(api.TApp, a, b))
	spineIs(t, node(api.TApp, node(api.TApp, f, node(api.TApp, a, b)), node(api.TApp, b, a)), f, node(api.TApp, a, b), node(api.TApp, b, a))
	for _, head := range []api.Term{{}, prop(), v(0), typ(level.Num(3)), c("c", level.Num(1)), node(api.TLam, a, b), node(api.TPi, a, b), node(api.TLet, a, b, f), proj(3, "s", node(api.TApp, a, b)), {Kind: 10, Args: []api.Term{a, b}}, {Kind: -5, Args: []api.Term{a, b}}} {
		spineIs(t, head, head)
		spineIs(t, node(api.TApp, head, a), head, a)
		spineIs(t, node(api.TApp, node(api.TApp, node(api.TApp, head, a), b), head), head, a, b, head)
	}
}

// P8.2: Spine of a TApp that has not two Args, alone and as a head; of one that has two, and is not valid for something else.
func TestSpineOdd(t *testing.T) {
	a, b := c("a"), c("b")
	for _, args := range [][]api.Term{nil, {}, {a}, {a, b, a}, {a, b, a, b}} {
		head := node(api.TApp, args...)
		spineIs(t, head, head)
		spineIs(t, node(api.TApp, head, b), head, b)
		spineIs(t, node(api.TApp, node(api.TApp, head, b), head), head, b, head)
	}
	odd := api.Term{Kind: api.TApp, N: 7, Name: "x", Levels: []api.Level{{}}, Args: []api.Term{a, b}}
	spineIs(t, odd, a, b)
	spineIs(t, node(api.TApp, odd, a), a, b, a)
}

// P8.2: App of none and of many; Spine takes apart what App puts together.
func TestApp(t *testing.T) {
	f, a, b := c("f"), c("a"), v(3)
	for _, x := range []struct{ got, want api.Term }{
		{App(f), f}, {App(api.Term{}), api.Term{}}, {App(f, []api.Term{}...), f}, {App(f, a), node(api.TApp, f, a)}, {App(f, a, b), node(api.TApp, node(api.TApp, f, a), b)},
		{App(node(api.TApp, f, a), b), node(api.TApp, node(api.TApp, f, a), b)}, {App(f, node(api.TApp, a, b)), node(api.TApp, f, node(api.TApp, a, b))},
		{App(f, a, b, a), node(api.TApp, node(api.TApp, node(api.TApp, f, a), b), a)}, {App(api.Term{Kind: 99}, api.Term{N: -1}), node(api.TApp, api.Term{Kind: 99}, api.Term{N: -1})},
	} {
		if !equal(x.got, x.want) {
			t.Error(x.got, x.want)
		}
	}
	r := rand.New(rand.NewSource(85))
	for range 300 {
		args := make([]api.Term, r.Intn(12))
		for i := range args {
			args[i] = drawn(r, 4, 9, 1+r.Intn(12))
		}
		head := c("head")
		x := App(head, args...)
		spineIs(t, x, head, args...)
		h, a := Spine(drawn(r, 4, 9, 1+r.Intn(40)))
		spineIs(t, App(h, a...), h, a...)
	}
	many := slices.Repeat([]api.Term{b}, 5000)
	many[4321] = a
	if x := App(f, many...); size(x) != 10001 || !equal(x.Args[1], b) {
		t.Error(size(x))
	} else {
		spineIs(t, x, f, many...)
	}
}

// P8.2: Bind of none and of many: the first type belongs to the outermost binder.
func TestBind(t *testing.T) {
	a, b, body := c("a"), v(0), v(1)
	for _, kind := range []int{api.TLam, api.TPi} {
		for _, x := range []struct{ got, want api.Term }{
			{Bind(kind, body), body}, {Bind(kind, body, []api.Term{}...), body}, {Bind(kind, body, a), node(kind, a, body)}, {Bind(kind, body, a, b), node(kind, a, node(kind, b, body))},
			{Bind(kind, body, b, a), node(kind, b, node(kind, a, body))}, {Bind(kind, body, a, b, a), node(kind, a, node(kind, b, node(kind, a, body)))}, {Bind(kind, node(kind, a, b), body), node(kind, body, node(kind, a, b))},
			{Bind(kind, api.Term{Kind: 77}, api.Term{N: -1}), node(kind, api.Term{N: -1}, api.Term{Kind: 77})},
		} {
			if !equal(x.got, x.want) {
				t.Error(x.got, x.want)
			}
		}
	}
	// For all a : Prop, for all proofs of a, a.
	if x := Bind(api.TPi, v(1), prop(), v(0)); !equal(x, node(api.TPi, prop(), node(api.TPi, v(0), v(1)))) || !Right(x, 0, 0) {
		t.Error(x)
	}
	types := slices.Repeat([]api.Term{prop()}, 201)
	types[7] = c("seventh")
	stripIs(t, Bind(api.TPi, a, types...), api.TPi, a, types...)
	if !Right(Bind(api.TPi, a, types[1:]...), 0, 0) || Right(Bind(api.TPi, a, types...), 0, 0) {
		t.Error("200 or 201 binders")
	}
}

// P8.2: Strip of the same kind, of another one, and of both.
func TestStripKnown(t *testing.T) {
	a, b, f := c("a"), v(1), c("f")
	for _, k := range [][2]int{{api.TLam, api.TPi}, {api.TPi, api.TLam}} {
		kind, other := k[0], k[1]
		x := node(kind, a, node(kind, b, f))
		stripIs(t, x, kind, f, a, b)
		stripIs(t, x, other, x)
		stripIs(t, f, kind, f)
		stripIs(t, node(other, f, x), kind, node(other, f, x))
		stripIs(t, node(other, f, x), other, x, f)
		stripIs(t, node(kind, a, node(other, b, node(kind, a, f))), kind, node(other, b, node(kind, a, f)), a)
		stripIs(t, node(kind, x, x), kind, f, x, a, b)
		stripIs(t, node(kind, node(other, a, b), node(other, a, b)), kind, node(other, a, b), node(other, a, b))
		for _, none := range []int{0, -1, 10, api.TVar, api.TProp, api.TConst, api.TApp, api.TLet, api.TProj, math.MinInt, math.MaxInt} {
			stripIs(t, x, none, x)
		}
	}
	for _, x := range []api.Term{{}, prop(), v(0), typ(level.Num(3)), node(api.TApp, a, b), node(api.TLet, a, b, f), proj(3, "s", node(api.TPi, a, b))} {
		stripIs(t, x, api.TPi, x)
		stripIs(t, x, api.TLam, x)
		stripIs(t, node(api.TPi, a, x), api.TPi, x, a)
	}
}

// P8.2: Strip of a binder that has not two Args, alone and within others; of one that has two, and is not valid for something else.
func TestStripOdd(t *testing.T) {
	a, b := c("a"), c("b")
	for _, kind := range []int{api.TLam, api.TPi, api.TLet} {
		for _, args := range [][]api.Term{nil, {}, {a}, {a, b, a}, {a, b, a, b}} {
			x := node(kind, args...)
			stripIs(t, x, kind, x)
			stripIs(t, node(kind, b, x), kind, x, b)
			stripIs(t, node(kind, x, node(kind, b, x)), kind, x, x, b)
		}
		stripIs(t, api.Term{Kind: kind, N: 7, Name: "x", Levels: []api.Level{{}}, Args: []api.Term{a, b}}, kind, b, a)
	}
}

// P8.2: Strip takes off what Bind puts around.
func TestBindAndStrip(t *testing.T) {
	r := rand.New(rand.NewSource(86))
	for range 300 {
		types := make([]api.Term, r.Intn(12))
		for i := range types {
			types[i] = drawn(r, 4, 9+i, 1+r.Intn(12))
		}
		kinds := []int{api.TLam, api.TPi}
		r.Shuffle(2, func(i, j int) { kinds[i], kinds[j] = kinds[j], kinds[i] })
		body := App(drawn(r, 4, 9, 5), drawn(r, 4, 9, 5))
		x := Bind(kinds[0], body, types...)
		stripIs(t, x, kinds[0], body, types...)
		if len(types) > 0 {
			stripIs(t, x, kinds[1], x)
		}
		if !isValid(x, 4, 9) {
			t.Fatal(x)
		}
		l, b := Strip(drawn(r, 4, 9, 1+r.Intn(40)), kinds[0])
		stripIs(t, Bind(kinds[0], b, l...), kinds[0], b, l...)
	}
}

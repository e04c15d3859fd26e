package term

import (
	"math"
	"math/rand"
	"reflect"
	"slices"
	"testing"

	"imprimatur/api"
	"imprimatur/level"
)

// P8.1: Nodes of small terms, of ones that are not valid, and of lists that are empty but not nil.
func TestNodesKnown(t *testing.T) {
	u := level.Num(1)
	for _, x := range []struct {
		t    api.Term
		want int
	}{
		{api.Term{}, 1}, {prop(), 1}, {v(5), 1}, {c("a"), 1}, {typ(u), 2}, {c("a", u, u, u, u), 5}, {c("", u, u, u, u, u, u), 7},
		{node(api.TApp, c("a", u), typ(u)), 5}, {node(api.TApp), 1}, {node(api.TApp, prop(), prop(), prop()), 4}, {proj(3, "s", typ(u)), 3},
		{node(api.TLet, prop(), c("a", u), v(0)), 5}, {under(api.TLam, 3, v(9)), 7}, {under(api.TLet, 3, v(9)), 10},
		{api.Term{Kind: 99, N: -1, Name: "\x00", Levels: []api.Level{{Base: -1}}, Args: []api.Term{{}, {Levels: []api.Level{{}, {}}}}}, 6},
		{api.Term{Levels: []api.Level{}, Args: []api.Term{}}, 1},
	} {
		if got := Nodes(x.t); got != x.want {
			t.Error(x.t, got)
		}
	}
	for _, x := range samples() {
		if got := Nodes(x); got != size(x) {
			t.Error(x, got)
		}
	}
}

// P8.1: Nodes of 2,997 to 3,003 nodes and Levels, and far above, wherever they stand.
func TestNodesMany(t *testing.T) {
	levels, args := make([]api.Level, 100000), slices.Repeat([]api.Term{prop()}, 100000)
	for _, n := range []int{4, 5, 2990, 2997, 2998, 2999, 3000, 3001, 3002, 3003, 4000, 6000, 100000} {
		half := n / 2
		for i, x := range []api.Term{
			{Levels: levels[:n-1]},
			{Args: args[:n-1]},
			{Levels: levels[:half], Args: args[:n-1-half]},
			{Args: []api.Term{{Levels: levels[:half]}}, Levels: levels[:n-2-half]},
			{Args: []api.Term{{Args: args[:half]}}, Levels: levels[:n-2-half]},
			{Args: append([]api.Term{{Levels: levels[:half]}}, args[:n-2-half]...)},
		} {
			if got := Nodes(x); got != min(n, 3001) {
				t.Error(n, i, got)
			}
		}
		if got := Nodes(under(77, half, prop())); got != min(2*half+1, 3001) {
			t.Error(n, got)
		}
	}
}

// P8.1: Loose of variables that stand free, under binders and beside them.
func TestLooseKnown(t *testing.T) {
	u := level.Param(3, 0)
	for i, x := range []struct {
		t    api.Term
		want int
	}{
		{prop(), 0}, {c("a"), 0}, {typ(u), 0}, {v(0), 1}, {v(1), 2}, {v(7), 8}, {v(most - 1), most}, {v(most - 2), most - 1}, {v(most), 0}, {v(math.MaxInt), 0}, {v(-1), 0},
		{node(api.TApp, v(3), v(9)), 10}, {node(api.TApp, v(9), v(3)), 10}, {proj(31, "s", v(4)), 5},
		{node(api.TLam, v(0), v(0)), 1}, {node(api.TLam, prop(), v(0)), 0}, {node(api.TLam, prop(), v(1)), 1}, {node(api.TPi, v(2), v(3)), 3}, {node(api.TPi, v(1), v(3)), 3},
		{node(api.TLet, v(5), v(3), v(4)), 6}, {node(api.TLet, v(3), v(5), v(4)), 6}, {node(api.TLet, v(3), v(3), v(6)), 6},
		{under(api.TPi, 200, v(199)), 0}, {under(api.TPi, 200, v(200)), 1}, {under(api.TLam, 7, v(17)), 11},
		{node(api.TLam, prop(), v(most)), most}, {node(api.TLam, prop(), v(most+1)), 0}, {under(api.TLet, 200, v(most+199)), most}, {under(api.TLet, 200, v(most+200)), 0},
		{node(api.TLam, v(most), v(0)), 0}, {node(api.TApp, v(3), node(api.TApp, v(2))), 0}, {node(api.TApp, v(3), c("fun")), 0}, {node(api.TApp, v(3), typ(level.Num(101))), 0},
		{under(api.TPi, 201, v(300)), 0}, {node(api.TApp, v(3), App(v(4), slices.Repeat([]api.Term{v(5)}, 1499)...)), 0}, {App(v(4), slices.Repeat([]api.Term{v(5)}, 1499)...), 6},
		{api.Term{}, 0}, {c("a", u, u, u, u), 0}, {node(api.TApp, c("a", u, u, u, u), v(0)), 1},
	} {
		if got := Loose(x.t); got != x.want {
			t.Error(i, got)
		}
	}
	for i, x := range odd() {
		if Loose(x) != 0 || Loose(node(api.TApp, v(8), x)) != 0 || Loose(node(api.TPi, x, v(8))) != 0 {
			t.Error(i)
		}
	}
}

// P8.1: Loose is the smallest number of variables for which a term is valid.
func TestLooseDrawn(t *testing.T) {
	r := rand.New(rand.NewSource(82))
	for range 5000 {
		vars := []int{0, 1, 3, 40, most - 2, most}[r.Intn(6)]
		x := drawn(r, 4, vars, 1+r.Intn(30))
		got := Loose(x)
		if got < 0 || got > vars || !isValid(x, 4, got) || got > 0 && isValid(x, 4, got-1) {
			t.Fatal(x, got)
		}
	}
}

// P8.1: Uses of each variable, of one that does not occur, of a negative one, under binders.
func TestUsesKnown(t *testing.T) {
	x := node(api.TPi, v(3), node(api.TLam, node(api.TApp, v(4), v(0)), App(v(5), v(0), v(1), v(2), v(5))))
	y := node(api.TLet, v(1), node(api.TApp, v(1), v(0)), node(api.TApp, v(1), v(2)))
	far := under(api.TLet, 200, App(v(most+199), v(most+198), v(199), v(200), v(most+199)))
	for i, c := range []struct {
		t       api.Term
		n, want int
	}{
		{x, 0, 1}, {x, 1, 0}, {x, 2, 0}, {x, 3, 4}, {x, 4, 0}, {x, 5, 0}, {x, -1, 0}, {x, -2, 0}, {x, math.MinInt, 0}, {x, math.MaxInt, 0},
		{y, 0, 2}, {y, 1, 3}, {y, 2, 0}, {y, -1, 0},
		{v(0), 0, 1}, {v(0), 1, 0}, {v(0), -1, 0}, {v(7), 7, 1}, {prop(), 0, 0}, {node(api.TLam, prop(), v(0)), 0, 0}, {node(api.TLam, prop(), v(0)), -1, 0}, {node(api.TLam, prop(), v(1)), 0, 1},
		{far, most - 1, 2}, {far, most - 2, 1}, {far, 0, 1}, {far, -1, 0}, {far, 199, 0}, {far, 200, 0}, {far, most, 0}, {far, most + 199, 0},
		{v(most - 1), most - 1, 1}, {v(most), most, 0}, {v(-1), -1, 0}, {proj(5, "s", v(5)), 5, 1}, {proj(4, "s", v(5)), 4, 0},
		{App(v(0), slices.Repeat([]api.Term{v(0)}, 1499)...), 0, 1500}, {App(v(0), slices.Repeat([]api.Term{v(0)}, 1500)...), 0, 0},
	} {
		if got := Uses(c.t, c.n); got != c.want {
			t.Error(i, got)
		}
	}
	for i, x := range odd() {
		for _, n := range []int{-1, 0, 1, 8} {
			if Uses(x, n) != 0 || Uses(node(api.TApp, v(8), x), n) != 0 || Uses(node(api.TLam, x, v(9)), n) != 0 {
				t.Error(i, n)
			}
		}
	}
}

// P8.1: Uses of all variables of terms drawn at random.
func TestUsesDrawn(t *testing.T) {
	r := rand.New(rand.NewSource(83))
	total := 0
	for range 5000 {
		vars := []int{0, 1, 3, 5, most}[r.Intn(5)]
		x := drawn(r, 4, vars, 1+r.Intn(40))
		counts := outer(x)
		for _, n := range append([]int{-3, -2, -1, 0, 1, 2, 3, 4, 5, 6, 7, most - 3, most - 2, most - 1, most}, outside...) {
			got := Uses(x, n)
			if got != counts[n] {
				t.Fatal(x, n, got)
			}
			total += got
		}
	}
	if total < 10000 {
		t.Error("only", total)
	}
}

// P8.1: names that occur once, often, in TConst and in TProj, and in terms that are not valid.
func TestConstsKnown(t *testing.T) {
	for i, x := range []struct {
		t    api.Term
		want []string
	}{
		{prop(), nil}, {v(0), nil}, {api.Term{}, nil}, {c("a"), []string{"a"}}, {c(""), []string{""}}, {c("fun"), []string{"fun"}}, {c("\xff\x00"), []string{"\xff\x00"}},
		{proj(2, "s", c("z")), []string{"s", "z"}}, {proj(2, "z", c("s")), []string{"s", "z"}}, {proj(2, "s", c("s")), []string{"s"}}, {proj(99, "s", prop()), []string{"s"}},
		{App(c("b"), c("a"), c("c"), c("b"), c("a")), []string{"a", "b", "c"}}, {App(c("a"), c("B"), c("a.b"), c("ab"), c("a_"), c("a0"), c("aB")), []string{"B", "a", "a.b", "a0", "aB", "a_", "ab"}},
		{node(api.TLam, c("t"), node(api.TPi, c("s"), node(api.TLet, c("r"), c("q"), c("p")))), []string{"p", "q", "r", "s", "t"}},
		{api.Term{Kind: api.TVar, Name: "x"}, nil}, {api.Term{Kind: api.TApp, Name: "x", Args: []api.Term{c("y"), c("x"), c("w")}}, []string{"w", "x", "y"}},
		{api.Term{Kind: api.TLam, Name: "x", Args: []api.Term{c("y")}}, []string{"y"}}, {api.Term{Kind: 0, Name: "x", Args: []api.Term{c("y"), {Kind: 10, Name: "z"}}}, []string{"y"}},
		{api.Term{Kind: api.TConst, Name: "x", N: 5, Args: []api.Term{c("y")}}, []string{"x", "y"}}, {node(api.TProj), []string{""}}, {node(api.TConst, node(api.TConst)), []string{""}},
		{api.Term{Kind: api.TProj, Name: "x", Args: []api.Term{c("y"), c("w")}}, []string{"w", "x", "y"}},
		{node(api.TApp, c("a", level.Num(-1)), v(-1)), []string{"a"}}, {under(api.TPi, 300, c("deep")), []string{"deep"}}, {api.Term{Kind: api.TType, Name: "x"}, nil}, {api.Term{Kind: api.TProp, Name: "x"}, nil},
	} {
		if got := Consts(x.t); !slices.Equal(got, x.want) {
			t.Error(i, got)
		}
	}
	for _, x := range append(samples(), odd()...) {
		if got := Consts(x); !slices.Equal(got, plainConsts(x)) {
			t.Error(x, got)
		}
	}
}

// P8.1: the visit ends at the first node that would be more than 3,000, its Levels counted; later ones that would fit are not looked at.
func TestConstsEnd(t *testing.T) {
	u := level.Num(0)
	for _, ahead := range []int{2990, 2993, 2994, 2995, 2996, 2997, 2998, 2999, 3000, 3001, 5000} {
		for levels := range 8 {
			for _, kind := range []int{api.TConst, api.TProj} {
				// The root, so many nodes without a name, one with Levels, and one that is light.
				x := api.Term{Kind: 50, Args: slices.Repeat([]api.Term{prop()}, ahead-1)}
				x.Args = append(x.Args, api.Term{Kind: kind, Name: "b", Levels: slices.Repeat([]api.Level{u}, levels)}, c("a"))
				var want []string
				if seen := ahead + 1 + levels; seen <= 2999 {
					want = []string{"a", "b"}
				} else if seen == 3000 {
					want = []string{"b"}
				}
				if got := Consts(x); !slices.Equal(got, want) || !slices.Equal(got, plainConsts(x)) {
					t.Error(ahead, levels, got)
				}
			}
		}
	}
	heavy := c("heavy", slices.Repeat([]api.Level{u}, 3000)...)
	if got := Consts(heavy); len(got) != 0 {
		t.Error(got)
	}
	heavy.Levels = heavy.Levels[:2999]
	heavy.Args = []api.Term{c("inner")}
	if got := Consts(heavy); !slices.Equal(got, []string{"heavy"}) {
		t.Error(got)
	}
	// A node that has no name ends the visit too.
	x := node(api.TApp, c("a"), api.Term{Kind: api.TType, Levels: slices.Repeat([]api.Level{u}, 3000)}, c("b"))
	if got := Consts(x); !slices.Equal(got, []string{"a"}) {
		t.Error(got)
	}
}

// P8.1: the Args are visited in order, each with all that is in it before the next one.
func TestConstsOrder(t *testing.T) {
	first, second := App(c("f"), slices.Repeat([]api.Term{c("g")}, 1000)...), App(c("s"), slices.Repeat([]api.Term{c("t")}, 1000)...)
	// The root and the first one are 2,002 nodes, and the second one's head stands behind 1,000 TApps.
	if got := Consts(node(api.TApp, first, second, c("z"))); !slices.Equal(got, []string{"f", "g"}) {
		t.Error(got)
	}
	if got := Consts(node(api.TApp, c("z"), second)); !slices.Equal(got, []string{"s", "t", "z"}) {
		t.Error(got)
	}
	for n := 1480; n < 1520; n++ {
		x := c("last")
		for i := range n {
			x = node(api.TApp, c("a"+string(rune('a'+i%26))), x)
		}
		y := node(api.TApp, c("first"), x)
		for _, z := range []api.Term{x, y, proj(0, "p", y), node(api.TLet, c("k"), x, c("never"))} {
			if got := Consts(z); !slices.Equal(got, plainConsts(z)) {
				t.Error(n, got)
			}
		}
	}
}

// P8.1: terms that differ in one field alone, in whichever node, and those that do not.
func TestSameChanged(t *testing.T) {
	same := 0
	for _, x := range samples() {
		if !Same(x, x) || !Same(x, plain(x)) {
			t.Error(x)
		}
		for _, way := range spots(x) {
			for _, change := range changes() {
				y := changed(x, way, change.do)
				want := equal(x, y)
				if Same(x, y) != want || Same(y, x) != want {
					t.Error(change.name, x, y)
				}
				if want {
					same++
				}
			}
		}
	}
	if same < 100 {
		t.Error("only", same)
	}
}

// P8.1: terms of all kinds, held against each other.
func TestSamePairs(t *testing.T) {
	list := append(samples(), odd()...)
	var plains []api.Term
	for _, x := range list {
		plains = append(plains, plain(x))
	}
	for i, x := range list {
		for j, y := range list {
			if Same(x, y) != reflect.DeepEqual(plains[i], plains[j]) {
				t.Error(x, y)
			}
		}
	}
}

// P8.1: nil and empty lists are one; what is no valid term is held against others too.
func TestSameKnown(t *testing.T) {
	a := api.Term{Kind: api.TApp, Args: []api.Term{{Levels: []api.Level{}, Args: []api.Term{}}, c("a", []api.Level{}...)}, Levels: []api.Level{}}
	b := node(api.TApp, api.Term{}, c("a"))
	if !Same(a, b) || !Same(b, a) || !Same(api.Term{}, api.Term{}) {
		t.Error(a, b)
	}
	u := level.Param(0, 1)
	for i, x := range [][2]api.Term{
		{v(0), v(1)}, {v(0), prop()}, {c("a"), c("b")}, {c("a"), c("")}, {c("a"), c("a", u)}, {c("a", u, level.Num(1)), c("a", level.Num(1), u)}, {typ(u), typ(level.Num(1))}, {typ(u), typ(level.Param(1, 1))},
		{node(api.TLam, prop(), v(0)), node(api.TPi, prop(), v(0))}, {node(api.TApp, v(0), v(1)), node(api.TApp, v(1), v(0))}, {node(api.TApp, v(0)), node(api.TApp, v(0), v(0))}, {node(api.TApp), node(api.TApp, api.Term{})},
		{proj(0, "s", v(0)), proj(1, "s", v(0))}, {proj(0, "s", v(0)), proj(0, "t", v(0))}, {proj(0, "s", v(0)), proj(0, "s", v(1))}, {api.Term{}, prop()}, {api.Term{Kind: -1}, api.Term{Kind: 1}}, {v(0), v(1 << 32)},
		{under(api.TPi, 300, v(0)), under(api.TPi, 300, v(1))}, {under(api.TPi, 300, v(0)), under(api.TPi, 301, v(0))},
	} {
		if Same(x[0], x[1]) || Same(x[1], x[0]) || !Same(x[0], plain(x[0])) || !Same(x[1], plain(x[1])) {
			t.Error(i)
		}
	}
}

// P8.1: a copy is equal, of any term.
func TestClone(t *testing.T) {
	for i, x := range append(samples(), odd()...) {
		if y := Clone(x); !equal(x, y) {
			t.Error(i, y)
		}
	}
	r := rand.New(rand.NewSource(84))
	for range 500 {
		x := drawn(r, 4, 9, 1+r.Intn(100))
		if y := Clone(x); !equal(x, y) {
			t.Fatal(x, y)
		}
	}
}

// P1: terms that are nested far more deeply than a valid one may be.
func TestDeep(t *testing.T) {
	const deep = 1 << 16
	for _, kind := range []int{api.TApp, api.TLam, api.TPi, api.TLet, 77} {
		x := under(kind, deep, c("end"))
		y := Clone(x)
		if !Same(x, y) || Nodes(x) != 3001 || Right(x, 4, most) || Loose(x) != 0 || Uses(x, 0) != 0 || len(Consts(x)) != 0 {
			t.Error(kind)
		}
		types, body := Strip(x, kind)
		if kind != api.TLet && (len(types) != deep || !Same(body, c("end"))) || kind == api.TLet && !Same(body, x) {
			t.Error(kind, len(types))
		}
	}
	left := App(c("f"), slices.Repeat([]api.Term{v(2)}, deep)...)
	if head, args := Spine(left); !Same(head, c("f")) || len(args) != deep || !Same(App(head, args...), left) {
		t.Error(head, len(args))
	}
}

// P1: a term whose parts all share one memory is small there, but a tree of 2^27 nodes: what visits at most 3,000 of them ends soon.
func TestShared(t *testing.T) {
	x := c("end")
	for range 26 {
		x = node(api.TApp, x, x)
	}
	for range 1000 {
		if Nodes(x) != 3001 || Right(x, 4, most) || Loose(x) != 0 || Uses(x, 0) != 0 || !slices.Equal(Consts(x), []string{"end"}) {
			t.Fatal()
		}
	}
}

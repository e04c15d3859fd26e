package move

import (
	"math/rand"
	"slices"
	"testing"

	"imprimatur/api"
	"imprimatur/level"
	"imprimatur/term"
)

// putIs asks for a term with args in place of variables.
func putIs(t *testing.T, want, x api.Term, args ...api.Term) {
	t.Helper()
	got, ok := Put(x, args...)
	is(t, []any{x, args}, got, ok, want)
}

// noPut asks for none.
func noPut(t *testing.T, about any, x api.Term, args ...api.Term) {
	t.Helper()
	got, ok := Put(x, args...)
	none(t, about, got, ok)
}

// P9.2: Put of no, one and many args, written out; the chapter's example is the first.
func TestPutKnown(t *testing.T) {
	a, b, d := c("a"), c("b", level.Num(2)), proj(1, "s", c("d"))
	putIs(t, node(api.TApp, a, b), node(api.TApp, v(1), v(0)), a, b)
	putIs(t, node(api.TApp, v(1), v(0)), node(api.TApp, v(1), v(0)))
	putIs(t, node(api.TApp, v(0), a), node(api.TApp, v(1), v(0)), a)
	putIs(t, node(api.TApp, b, d), node(api.TApp, v(1), v(0)), a, b, d)
	putIs(t, term.App(d, b, a, v(0), v(1), d), term.App(v(0), v(1), v(2), v(3), v(4), v(0)), a, b, d)
	for _, x := range []api.Term{prop(), typ(level.Param(3, 1)), a, b, d, node(api.TPi, prop(), v(0)), node(api.TLet, a, b, v(0))} {
		putIs(t, x, x)
		putIs(t, x, x, a)
		putIs(t, x, x, a, b, v(7), d)
		putIs(t, x, v(0), x)
		putIs(t, x, v(1), x, a)
	}
	putIs(t, proj(1, "s", node(api.TApp, a, prop())), proj(1, "s", v(0)), node(api.TApp, a, prop()))
	putIs(t, node(api.TLet, a, b, term.App(v(0), b, a, v(1))), node(api.TLet, v(1), v(0), term.App(v(0), v(1), v(2), v(3))), a, b)
	putIs(t, node(api.TPi, a, node(api.TLam, v(0), term.App(v(0), v(1), a, v(2)))), node(api.TPi, v(0), node(api.TLam, v(0), term.App(v(0), v(1), v(2), v(3)))), a)
}

// P9.2: variables at 0, n - 1, n and above, under no and under many binders.
func TestPutVariables(t *testing.T) {
	for _, n := range []int{0, 1, 2, 5, 300} {
		var args []api.Term
		for i := range n {
			args = append(args, c("x"+string([]byte{byte('a' + i/26), byte('a' + i%26)})))
		}
		for _, kind := range binders {
			for _, deep := range []int{0, 1, 7, 200} {
				for at := range n {
					putIs(t, under(kind, deep, args[n-1-at]), under(kind, deep, v(at+deep)), args...)
				}
				for _, at := range []int{n, n + 1, n + 100, most - 1} {
					putIs(t, under(kind, deep, v(at-n+deep)), under(kind, deep, v(at+deep)), args...)
				}
				for bound := range deep {
					putIs(t, under(kind, deep, v(bound)), under(kind, deep, v(bound)), args...)
				}
			}
		}
	}
}

// P9.2: args with variables of their own, free and bound ones, under no and under many binders: the free ones are shifted.
func TestPutArgsVariables(t *testing.T) {
	for _, kind := range binders {
		for _, deep := range []int{0, 1, 2, 50} {
			for _, arg := range []func(by int) api.Term{
				func(by int) api.Term { return v(by) },
				func(by int) api.Term { return v(6 + by) },
				func(by int) api.Term { return v(most - 1 + by) },
				func(by int) api.Term { return term.App(v(by), v(3+by), c("a")) },
				func(by int) api.Term { return proj(2, "s", v(1+by)) },
				func(by int) api.Term { return binder(kind, v(by), term.App(v(0), v(1+by), v(5+by))) },
				func(by int) api.Term { return under(kind, 149, term.App(v(0), v(148), v(149+by))) },
			} {
				putIs(t, under(kind, deep, arg(deep)), under(kind, deep, v(deep)), arg(0))
				putIs(t, under(kind, deep, term.App(v(deep), arg(deep), c("f"))), under(kind, deep, term.App(v(2+deep), v(1+deep), v(deep))), arg(0), c("f"))
				putIs(t, under(kind, deep, binder(kind, arg(deep), arg(deep+1))), under(kind, deep, binder(kind, v(deep), v(deep+1))), arg(0))
			}
		}
	}
}

// P9.2: terms and args that are not valid, also args that replace nothing.
func TestPutOdd(t *testing.T) {
	for i, x := range odd() {
		noPut(t, i, x)
		noPut(t, i, x, c("a"))
		noPut(t, i, v(0), x)
		noPut(t, i, prop(), x)
		noPut(t, i, v(7), x)
		noPut(t, i, v(0), x, c("a"))
		noPut(t, i, v(0), c("a"), x)
		noPut(t, i, v(1), c("a"), x, c("b"))
	}
}

// P9.2: results of 3,000 and of 3,001 nodes.
func TestPutSize(t *testing.T) {
	for _, n := range []int{1, 2, 3, 500, 998, 999} {
		// Three args of n nodes and two nodes of applications.
		three := term.App(v(0), v(0), v(0))
		got, ok := Put(three, wide(n))
		is(t, n, got, ok, term.App(wide(n), wide(n), wide(n)))
		for extra := max(1, 2990-3*n); extra <= max(4, 3010-3*n); extra++ {
			// All variables of the part beside are above those of the three.
			part, _ := Shift(wide(extra), 1, 0)
			got, ok := Put(node(api.TApp, three, part), wide(n))
			as(t, []any{n, extra}, got, ok, node(api.TApp, term.App(wide(n), wide(n), wide(n)), wide(extra)), 3*n+3+extra <= 3000)
		}
	}
	putIs(t, wide(3000), v(0), wide(3000))
	putIs(t, wide(3000), v(1), wide(3000), wide(3000))
	putIs(t, wide(2999), v(0), wide(2999))
	noPut(t, "one more", proj(0, "s", v(0)), wide(3000))
	noPut(t, "two more", term.App(v(0), c("a")), wide(2999))
	putIs(t, term.App(wide(2998), c("a")), term.App(v(0), c("a")), wide(2998))
	// Levels count too, in the term and in the args.
	u := level.Num(1)
	part, _ := Shift(wide(2989), 1, 0)
	for i, levels := range []int{0, 1, 2, 3, 4} {
		f := c("f", slices.Repeat([]api.Level{u}, levels)...)
		got, ok := Put(term.App(part, v(0), v(0), f), f)
		as(t, i, got, ok, term.App(wide(2989), f, f, f), 2989+3+3*(1+levels) <= 3000)
	}
}

// P9.2: a result that would have millions of nodes is not built.
func TestPutHuge(t *testing.T) {
	x := v(0)
	for range 1490 {
		x = node(api.TApp, x, v(0))
	}
	allocated := testing.AllocsPerRun(1, func() { noPut(t, "huge", x, wide(3000)) })
	if allocated > 200000 {
		t.Error(allocated)
	}
	noPut(t, "large", x, wide(3))
	putIs(t, x, x, v(0))
}

// P9.2: results of 200 and of 201 nested binders.
func TestPutDeep(t *testing.T) {
	for _, kind := range binders {
		for _, other := range binders {
			for _, n := range []int{0, 1, 99, 100, 101, 199, 200} {
				x, arg := under(kind, 100, v(100)), under(other, n, c("a"))
				got, ok := Put(x, arg)
				as(t, []any{kind, other, n}, got, ok, under(kind, 100, under(other, n, c("a"))), n <= 100)
				got, ok = Put(under(kind, n, node(api.TApp, v(n), prop())), binder(other, prop(), v(1)))
				as(t, []any{kind, other, n}, got, ok, under(kind, n, node(api.TApp, binder(other, prop(), v(n+1)), prop())), n <= 199)
				// What stands beside a binder is not inside it.
				got, ok = Put(binder(kind, v(0), v(0)), arg)
				is(t, []any{kind, other, n}, got, ok, binder(kind, arg, v(0)))
			}
		}
	}
}

// P9.2: terms and args drawn at random, against the chapter's words.
func TestPutDrawn(t *testing.T) {
	r := rand.New(rand.NewSource(92))
	puts, wrong := 0, odd()
	for i := range 20000 {
		x := drawn(r, 4, r.Intn(7), 1+r.Intn(30))
		var args []api.Term
		for range r.Intn(6) {
			args = append(args, drawn(r, 4, r.Intn(5), 1+r.Intn(12)))
		}
		if i%40 == 0 && len(args) > 0 {
			args[r.Intn(len(args))] = wrong[r.Intn(len(wrong))]
		}
		got, ok := Put(x, args...)
		want, wantOK := plainPut(x, args...)
		as(t, []any{x, args}, got, ok, want, wantOK)
		if ok {
			puts++
		}
	}
	for _, x := range samples() {
		for i := range 4 {
			args := samples()[i*20 : i*21]
			got, ok := Put(x, args...)
			want, wantOK := plainPut(x, args...)
			as(t, []any{x, args}, got, ok, want, wantOK)
		}
	}
	if puts < 18000 {
		t.Error("only", puts)
	}
}

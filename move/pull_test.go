package move

import (
	"math/rand"
	"slices"
	"testing"

	"imprimatur/api"
	"imprimatur/level"
	"imprimatur/term"
)

// pullIs asks for a term with variables in place of constants.
func pullIs(t *testing.T, want, x api.Term, names ...string) {
	t.Helper()
	got, ok := Pull(x, names...)
	is(t, []any{x, names}, got, ok, want)
}

// P9.2: Pull of no, one and many names, of a name that occurs several times, and of names that do not occur.
func TestPullKnown(t *testing.T) {
	x := term.App(c("a"), c("b"), v(0), c("d"), v(2), c("a"))
	pullIs(t, x, x)
	pullIs(t, term.App(v(0), c("b"), v(1), c("d"), v(3), v(0)), x, "a")
	pullIs(t, term.App(v(1), v(0), v(2), c("d"), v(4), v(1)), x, "a", "b")
	pullIs(t, term.App(v(0), v(1), v(2), c("d"), v(4), v(0)), x, "b", "a")
	pullIs(t, term.App(v(2), v(1), v(3), v(0), v(5), v(2)), x, "a", "b", "d")
	pullIs(t, term.App(v(1), c("b"), v(2), c("d"), v(4), v(1)), x, "a", "a")
	pullIs(t, term.App(v(3), v(2), v(4), c("d"), v(6), v(3)), x, "a", "b", "b", "a")
	pullIs(t, term.App(v(2), v(3), v(4), c("d"), v(6), v(2)), x, "b", "a", "b", "a")
	pullIs(t, term.App(c("a"), c("b"), v(3), c("d"), v(5), c("a")), x, "e", "f", "g")
	pullIs(t, term.App(v(1), c("b"), v(3), c("d"), v(5), v(1)), x, "e", "a", "g")
	pullIs(t, prop(), prop(), "a")
	pullIs(t, v(0), c("a"), "a")
}

// P9.2: Pull under binders of each kind and beside them; bound variables stay.
func TestPullBinders(t *testing.T) {
	for _, kind := range binders {
		pullIs(t, binder(kind, v(1), term.App(v(0), v(2), v(1), v(3), v(4))), binder(kind, c("a"), term.App(v(0), c("a"), c("b"), v(1), v(2))), "a", "b")
		for _, deep := range []int{0, 1, 5, 200} {
			pullIs(t, under(kind, deep, v(deep)), under(kind, deep, c("b")), "a", "b")
			pullIs(t, under(kind, deep, v(deep+1)), under(kind, deep, c("a")), "a", "b")
			pullIs(t, under(kind, deep, c("d")), under(kind, deep, c("d")), "a", "b")
			for n := range deep + 3 {
				want := n
				if n >= deep {
					want = n + 2
				}
				pullIs(t, under(kind, deep, v(want)), under(kind, deep, v(n)), "a", "b")
			}
		}
	}
}

// P9.2: constants with levels whose name is given, and projections of that name, stay.
func TestPullNamed(t *testing.T) {
	for levels := 1; levels <= 4; levels++ {
		x := c("a", slices.Repeat([]api.Level{level.Num(levels)}, levels)...)
		pullIs(t, x, x, "a")
		pullIs(t, term.App(x, v(0), v(1)), term.App(x, c("a"), v(0)), "a")
	}
	pullIs(t, v(0), api.Term{Kind: api.TConst, Name: "a", Levels: []api.Level{}}, "a")
	pullIs(t, proj(1, "a", v(0)), proj(1, "a", c("a")), "a")
	pullIs(t, proj(1, "a", c("b")), proj(1, "a", c("b")), "a")
	pullIs(t, c("a.b"), c("a.b"), "a", "b", "A.b", "a.")
	pullIs(t, node(api.TLam, typ(level.Param(0, 0)), v(0)), node(api.TLam, typ(level.Param(0, 0)), v(0)), "a", "b")
}

// P9.2: names that are no names occur nowhere, and count as the others do.
func TestPullNoNames(t *testing.T) {
	for _, s := range noNames() {
		pullIs(t, term.App(c("a"), v(1), v(4)), term.App(c("a"), v(0), v(3)), s)
		pullIs(t, term.App(v(1), v(3), v(6), prop()), term.App(c("a"), v(0), v(3), prop()), s, "a", s)
	}
	many := slices.Repeat([]string{"x", "fun", "y"}, 1000)
	pullIs(t, term.App(v(3001), v(0), v(3002), v(3000)), term.App(c("x"), c("a"), v(0), c("z")), slices.Concat([]string{"x", "z"}, many[1:], []string{"a"})...)
}

// P9.2: a variable that comes to the greatest index, and to one above it; terms that are not valid.
func TestPullRefused(t *testing.T) {
	names := []string{"a", "b", "d"}
	for _, kind := range binders {
		for _, deep := range []int{0, 1, 200} {
			for n := range 4 {
				pullIs(t, under(kind, deep, v(most-1+deep)), under(kind, deep, v(most-1-n+deep)), names[:n]...)
				for over := range n {
					x := under(kind, deep, v(most-n+over+deep))
					got, ok := Pull(x, names[:n]...)
					none(t, []any{kind, deep, n, over}, got, ok)
				}
			}
		}
	}
	for i, x := range odd() {
		for n := range 4 {
			got, ok := Pull(x, names[:n]...)
			none(t, i, got, ok)
		}
	}
}

// P9.2: terms drawn at random, against the chapter's words.
func TestPullDrawn(t *testing.T) {
	r := rand.New(rand.NewSource(93))
	for range 20000 {
		x := drawn(r, 4, r.Intn(7), 1+r.Intn(30))
		var names []string
		for range r.Intn(6) {
			names = append(names, append(drawnNames, "no", "fun", "")[r.Intn(len(drawnNames)+3)])
		}
		got, ok := Pull(x, names...)
		want, wantOK := plainPull(x, names...)
		as(t, []any{x, names}, got, ok, want, wantOK)
	}
}

// P9.2: Put of the constants in the same order undoes Pull; Pull undoes Put of constants that do not occur.
func TestPutUndoesPull(t *testing.T) {
	r := rand.New(rand.NewSource(94))
	for _, x := range append(samples(), wide(3000), under(api.TLet, 200, c("a")), under(api.TLam, 200, c("b"))) {
		for n := range len(drawnNames) + 1 {
			names := slices.Clone(drawnNames)
			r.Shuffle(len(names), func(i, j int) { names[i], names[j] = names[j], names[i] })
			names = names[:n]
			var consts, others []api.Term
			var otherNames []string
			for i, name := range names {
				consts = append(consts, c(name))
				otherNames = append(otherNames, "other."+string([]byte{byte('a' + i)}))
				others = append(others, c(otherNames[i]))
			}
			pulled, ok := Pull(x, names...)
			if !ok {
				t.Fatal(x, names)
			}
			putIs(t, x, pulled, consts...)
			put, ok := Put(x, others...)
			if !ok {
				t.Fatal(x, others)
			}
			pullIs(t, x, put, otherNames...)
		}
	}
}

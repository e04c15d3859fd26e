package move

import (
	"math/rand"
	"testing"

	"imprimatur/api"
	"imprimatur/level"
	"imprimatur/term"
)

// shiftIs asks for a shifted term.
func shiftIs(t *testing.T, x api.Term, by, from int, want api.Term) {
	t.Helper()
	got, ok := Shift(x, by, from)
	is(t, []any{x, by, from}, got, ok, want)
}

// noShift asks for none.
func noShift(t *testing.T, x api.Term, by, from int) {
	t.Helper()
	got, ok := Shift(x, by, from)
	none(t, []any{x, by, from}, got, ok)
}

// P9.1: ordinary terms, written out: variables from the index on, and none else, under binders of each kind and beside them.
func TestShiftKnown(t *testing.T) {
	u := level.Param(2, 1)
	for _, x := range []api.Term{prop(), typ(u), c("a"), c("a", u, u), proj(3, "s", c("b")), node(api.TLam, prop(), v(0)), node(api.TApp, c("a"), prop())} {
		for _, n := range [][2]int{{0, 0}, {5, 0}, {-5, 0}, {7, 3}, {-most, 0}, {most, most}, {-most, most}} {
			shiftIs(t, x, n[0], n[1], x)
		}
	}
	shiftIs(t, v(4), 3, 0, v(7))
	shiftIs(t, v(4), 3, 4, v(7))
	shiftIs(t, v(4), 3, 5, v(4))
	shiftIs(t, v(4), -4, 0, v(0))
	shiftIs(t, v(4), 0, 0, v(4))
	shiftIs(t, term.App(v(0), v(1), v(2), v(3)), 10, 2, term.App(v(0), v(1), v(12), v(13)))
	shiftIs(t, proj(31, "s", v(2)), 10, 2, proj(31, "s", v(12)))
	x := node(api.TLet, v(1), v(2), term.App(v(0), v(1), v(2), node(api.TPi, v(2), term.App(v(1), v(2), v(3)))))
	shiftIs(t, x, 5, 0, node(api.TLet, v(6), v(7), term.App(v(0), v(6), v(7), node(api.TPi, v(7), term.App(v(1), v(7), v(8))))))
	shiftIs(t, x, 5, 1, node(api.TLet, v(6), v(7), term.App(v(0), v(1), v(7), node(api.TPi, v(7), term.App(v(1), v(2), v(8))))))
	shiftIs(t, x, 5, 2, node(api.TLet, v(1), v(7), term.App(v(0), v(1), v(2), node(api.TPi, v(2), term.App(v(1), v(2), v(3))))))
	shiftIs(t, x, 5, 3, x)
}

// P9.1: by at -2^40, 0 and 2^40 and beyond both, from at 0 and 2^40 and beyond both.
func TestShiftBounds(t *testing.T) {
	for _, by := range append([]int{-most, 1 - most, -1, 0, 1, most - 1, most}, outside...) {
		for _, from := range append([]int{-2, -1, 0, 1, most - 1, most, most + 1}, outside...) {
			if by >= -most && by <= most && from >= 0 && from <= most {
				shiftIs(t, c("a"), by, from, c("a"))
			} else {
				noShift(t, c("a"), by, from)
				noShift(t, v(3), by, from)
				noShift(t, under(api.TPi, 2, v(1)), by, from)
			}
		}
	}
	shiftIs(t, v(most-1), 0, most, v(most-1))
	shiftIs(t, v(most-1), most, most, v(most-1))
	shiftIs(t, v(most-1), -most, most, v(most-1))
	shiftIs(t, v(most-1), 1-most, 0, v(0))
	shiftIs(t, v(0), most-1, 0, v(most-1))
	shiftIs(t, node(api.TLam, prop(), v(most)), 1-most, 0, node(api.TLam, prop(), v(1)))
	noShift(t, v(most-1), -most, 0)
	noShift(t, v(0), most, 0)
	noShift(t, v(0), -most, 0)
}

// P9.1: an outer index that becomes from, and one that would become less; that of a variable that stays may be anything.
func TestShiftBelow(t *testing.T) {
	for _, kind := range binders {
		for _, deep := range []int{0, 1, 3, 200} {
			for from := range 6 {
				for at := range 12 {
					x := under(kind, deep, v(at+deep))
					for by := -8; by <= 3; by++ {
						switch {
						case at < from:
							shiftIs(t, x, by, from, x)
						case at+by < from:
							noShift(t, x, by, from)
						default:
							shiftIs(t, x, by, from, under(kind, deep, v(at+deep+by)))
						}
					}
				}
			}
			noShift(t, node(api.TApp, under(kind, deep, v(deep+5)), v(6)), -2, 4)
			noShift(t, node(api.TApp, v(6), under(kind, deep, v(deep+5))), -2, 4)
			noShift(t, binder(kind, v(5), v(7)), -2, 4)
			noShift(t, binder(kind, v(6), v(6)), -2, 4)
			shiftIs(t, binder(kind, v(6), v(7)), -2, 4, binder(kind, v(4), v(5)))
		}
	}
}

// P9.1: variables just below from, at it and above, under binders and beside them, in each place of a term.
func TestShiftPlaces(t *testing.T) {
	for _, kind := range binders {
		for from := range 4 {
			for at := range 6 {
				moved := at
				if at >= from {
					moved = at + 9
				}
				for _, place := range []func(n int) api.Term{
					func(n int) api.Term { return binder(kind, v(n), v(0)) },
					func(n int) api.Term { return binder(kind, prop(), v(n+1)) },
					func(n int) api.Term { return binder(kind, v(n), v(n+1)) },
					func(n int) api.Term { return binder(kind, binder(kind, v(n), v(n+1)), v(n+1)) },
					func(n int) api.Term { return node(api.TApp, binder(kind, prop(), prop()), v(n)) },
					func(n int) api.Term { return node(api.TApp, v(n), binder(kind, prop(), v(n+1))) },
					func(n int) api.Term { return proj(0, "s", binder(kind, prop(), v(n+1))) },
					func(n int) api.Term { return under(kind, 3, node(api.TApp, v(n+3), v(2))) },
					func(n int) api.Term { return under(kind, 2, binder(api.TLam, v(n+2), v(n+3))) },
				} {
					shiftIs(t, place(at), 9, from, place(moved))
				}
			}
		}
		for n := range 200 {
			shiftIs(t, under(kind, 200, v(n)), 9, 0, under(kind, 200, v(n)))
		}
	}
}

// P9.1: a variable that comes to the greatest index, and to one above it, with and without binders around.
func TestShiftFar(t *testing.T) {
	for _, kind := range binders {
		for _, deep := range []int{0, 1, 2, 200} {
			for _, at := range []int{0, 1, 1 << 39, most - 5, most - 1} {
				x := under(kind, deep, v(at+deep))
				shiftIs(t, x, most-1-at, 0, under(kind, deep, v(most-1+deep)))
				noShift(t, x, most-at, 0)
				noShift(t, x, most-at, at)
				noShift(t, x, most-at+1, 0)
				noShift(t, x, most, 0)
				shiftIs(t, x, most-at, at+1, x)
			}
		}
	}
}

// P9.1: terms that are not valid.
func TestShiftOdd(t *testing.T) {
	for _, x := range odd() {
		noShift(t, x, 0, 0)
		noShift(t, x, 1, 0)
		noShift(t, x, -1, 2)
		noShift(t, x, 0, most)
	}
}

// P9.1: terms of 3,000 nodes and 200 nested binders.
func TestShiftLarge(t *testing.T) {
	x, want := wide(3000), wide(3000)
	got, ok := Shift(x, 4, 0)
	for n := range 3 {
		if term.Uses(got, n+4) != term.Uses(want, n) || term.Uses(want, n) < 400 {
			t.Error(n)
		}
	}
	if !ok || term.Nodes(got) != 3000 || term.Loose(got) != 7 {
		t.Error(ok)
	}
	got, ok = Shift(got, -4, 0)
	is(t, "back", got, ok, want)
}

// P9.1: terms drawn at random and the samples, against the chapter's words.
func TestShiftDrawn(t *testing.T) {
	r := rand.New(rand.NewSource(91))
	shifts, refused := 0, 0
	ask := func(x api.Term, by, from int) {
		got, ok := Shift(x, by, from)
		want, wantOK := plainShift(x, by, from)
		as(t, []any{x, by, from}, got, ok, want, wantOK)
		if !ok {
			refused++
			return
		}
		shifts++
		if by >= 0 {
			back, ok := Shift(got, -by, from)
			is(t, "and back", back, ok, x)
		}
	}
	for _, x := range samples() {
		for by := -3; by <= 3; by++ {
			for from := range 10 {
				ask(x, by, from)
			}
		}
	}
	for range 20000 {
		ask(drawn(r, 4, r.Intn(7), 1+r.Intn(30)), r.Intn(9)-4, r.Intn(6))
	}
	if shifts < 15000 || refused < 3000 {
		t.Error(shifts, refused)
	}
}

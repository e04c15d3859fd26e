package move

import (
	"math/rand"
	"slices"
	"strings"
	"testing"

	"imprimatur/api"
	"imprimatur/level"
	"imprimatur/term"
)

// levelsIs asks for a term with levels in place of universe parameters.
func levelsIs(t *testing.T, want, x api.Term, by ...api.Level) {
	t.Helper()
	got, ok := Levels(x, by)
	is(t, []any{x, by}, got, ok, want)
}

// noLevels asks for none.
func noLevels(t *testing.T, x api.Term, by ...api.Level) {
	t.Helper()
	got, ok := Levels(x, by)
	none(t, []any{x, by}, got, ok)
}

// P9.3: as many levels as a term needs, too many of them, too few, and none.
func TestLevelsKnown(t *testing.T) {
	one, u0, u1, u3 := level.Num(1), level.Param(0, 0), level.Param(1, 2), level.Param(3, 0)
	both := level.Max(u0, u1)
	levelsIs(t, typ(one), typ(u0), one)
	levelsIs(t, typ(level.Num(3)), typ(u1), u0, one)
	levelsIs(t, typ(level.Param(2, 7)), typ(u1), u0, level.Param(2, 5))
	levelsIs(t, typ(level.Max(level.Param(2, 7), u3)), typ(both), u3, level.Param(2, 5))
	levelsIs(t, typ(u3), typ(u3), u0, u0, u0, u3)
	levelsIs(t, typ(u0), typ(u3), u1, u1, u1, u0, u1, u1)
	levelsIs(t, typ(one), typ(one))
	levelsIs(t, typ(one), typ(one), u0, u1)
	levelsIs(t, c("a", one, level.Num(3), u3, one), c("a", one, u1, u0, one), u3, one)
	levelsIs(t, c("a"), c("a"), one)
	noLevels(t, typ(u0))
	noLevels(t, typ(u1), one)
	noLevels(t, typ(u3), one, one, one)
	noLevels(t, typ(both), one)
	noLevels(t, c("a", one, one, one, u1), one)
	noLevels(t, c("a", u1, one), one)
	// Each parameter is replaced once, by what stands at its place.
	levelsIs(t, c("a", u1, u0, both), c("a", level.Param(0, 2), level.Param(1, 0), level.Max(level.Param(0, 2), level.Param(1, 0))), level.Param(1, 0), u0)
}

// P9.3: levels in each place of a term, under binders, and terms without any.
func TestLevelsPlaces(t *testing.T) {
	u, l := level.Param(0, 1), level.Param(2, 3)
	for _, x := range []struct{ before, after api.Term }{
		{typ(u), typ(level.Param(2, 4))}, {c("a", u), c("a", level.Param(2, 4))}, {c("a", u, u, u, u), c("a", slices.Repeat([]api.Level{level.Param(2, 4)}, 4)...)},
	} {
		for _, place := range []func(api.Term) api.Term{
			func(y api.Term) api.Term { return y },
			func(y api.Term) api.Term { return node(api.TApp, y, v(3)) },
			func(y api.Term) api.Term { return node(api.TApp, v(3), y) },
			func(y api.Term) api.Term { return node(api.TLam, y, y) },
			func(y api.Term) api.Term { return node(api.TPi, y, node(api.TApp, v(0), y)) },
			func(y api.Term) api.Term { return node(api.TLet, y, y, y) },
			func(y api.Term) api.Term { return proj(4, "s", y) },
			func(y api.Term) api.Term { return under(api.TLet, 200, y) },
		} {
			levelsIs(t, place(x.after), place(x.before), l)
			noLevels(t, place(x.before))
		}
	}
	for _, x := range []api.Term{prop(), v(7), c("a"), proj(3, "s", c("b")), node(api.TLam, v(1), v(0)), wide(3000), under(api.TPi, 200, v(199))} {
		levelsIs(t, x, x)
		levelsIs(t, x, x, l, l, l, l, l)
	}
}

// P9.3: levels that Inst refuses, because of what is given and because of what comes of it; where there is no level, no Inst refuses anything.
func TestLevelsRefused(t *testing.T) {
	one := level.Num(1)
	for _, bad := range []api.Level{level.Num(-1), level.Num(101), {Base: 1, Plus: [4]int{2, -1, -1, -1}}, {Base: 1, Plus: [4]int{-2, -1, -1, -1}}} {
		for _, x := range []api.Term{typ(one), typ(level.Param(0, 0)), c("a", one), node(api.TApp, c("a"), typ(one)), under(api.TLam, 20, c("a", one, one))} {
			noLevels(t, x, bad)
			noLevels(t, x, bad, one)
			noLevels(t, x, one, bad)
			noLevels(t, x, one, one, one, one, one, bad)
		}
		levelsIs(t, c("a"), c("a"), bad)
		levelsIs(t, node(api.TLam, prop(), v(0)), node(api.TLam, prop(), v(0)), one, bad)
	}
	for plus := range 101 {
		for _, base := range []int{0, 1, 40, 99, 100} {
			x := node(api.TPi, typ(one), typ(level.Param(1, plus)))
			if plus+base <= 100 {
				levelsIs(t, node(api.TPi, typ(one), typ(level.Num(plus+base))), x, one, level.Num(base))
				levelsIs(t, node(api.TPi, typ(one), typ(level.Param(3, plus+base))), x, one, level.Param(3, base))
			} else {
				noLevels(t, x, one, level.Num(base))
				noLevels(t, x, one, level.Param(3, base))
			}
		}
	}
	for _, x := range odd() {
		noLevels(t, x)
		noLevels(t, x, one, one, one, one)
	}
}

// P9.3: terms and levels drawn at random, against the chapter's words.
func TestLevelsDrawn(t *testing.T) {
	r := rand.New(rand.NewSource(95))
	right := 0
	for range 20000 {
		x := drawn(r, r.Intn(5), r.Intn(5), 1+r.Intn(20))
		var by []api.Level
		for range r.Intn(6) {
			by = append(by, drawnLevel(r, 4))
		}
		if len(by) > 0 && r.Intn(30) == 0 {
			by[r.Intn(len(by))].Base -= 4
		}
		got, ok := Levels(x, by)
		want, wantOK := plainLevels(x, by)
		as(t, []any{x, by}, got, ok, want, wantOK)
		if ok {
			right++
		}
	}
	own := []api.Level{level.Param(0, 0), level.Param(1, 0), level.Param(2, 0), level.Param(3, 0)}
	for _, x := range samples() {
		levelsIs(t, x, x, own...)
	}
	if right < 8000 || right > 19000 {
		t.Error(right)
	}
}

// renameIs asks for a term with another name.
func renameIs(t *testing.T, want, x api.Term, from, to string) {
	t.Helper()
	got, ok := Rename(x, from, to)
	is(t, []any{x, from, to}, got, ok, want)
}

// P9.3: Rename in TConst and in TProj, each of them in each place; to a name that occurs already, to itself, and from one that does not occur.
func TestRenameKnown(t *testing.T) {
	u := level.Param(1, 0)
	most := strings.Repeat("z", 32)
	for _, place := range []func(s string) api.Term{
		func(s string) api.Term { return c(s) },
		func(s string) api.Term { return c(s, u, u) },
		func(s string) api.Term { return proj(31, s, v(0)) },
		func(s string) api.Term { return proj(0, s, c("b")) },
		func(s string) api.Term { return proj(7, "b", c(s)) },
		func(s string) api.Term { return proj(7, s, c(s)) },
		func(s string) api.Term { return proj(7, s, proj(8, "b", proj(9, s, prop()))) },
		func(s string) api.Term { return term.App(c(s), c("b"), c(s, u), c("aa"), c("a.a"), c("A"), v(1)) },
		func(s string) api.Term { return node(api.TLam, c(s), c(s)) },
		func(s string) api.Term { return node(api.TPi, proj(0, s, c("b")), proj(1, s, v(0))) },
		func(s string) api.Term { return node(api.TLet, c(s), c(s), term.App(v(0), c(s), v(5))) },
		func(s string) api.Term { return under(api.TPi, 200, c(s)) },
	} {
		for _, to := range []string{"z", "b", "a", "a.b", "aa", most, "u4"} {
			renameIs(t, place(to), place("a"), "a", to)
			renameIs(t, place("a"), place("a"), "none", to)
			renameIs(t, place("a"), place("a"), "", to)
			renameIs(t, place("a"), place("a"), "fun", to)
			renameIs(t, place("a"), place(most), most, "a")
		}
	}
	for _, x := range []api.Term{prop(), v(3), typ(u), node(api.TApp, prop(), v(0)), c("b"), proj(1, "b", prop())} {
		for _, from := range append(noNames(), "a", "bb", "B", "b.b") {
			renameIs(t, x, x, from, "z")
		}
	}
}

// P9.3: to what is no name, also where from does not occur or is the same; from what is no name.
func TestRenameRefused(t *testing.T) {
	for _, bad := range noNames() {
		for _, x := range []api.Term{c("a"), proj(0, "a", prop()), prop(), v(0), c("b")} {
			for _, from := range []string{"a", "b", bad} {
				got, ok := Rename(x, from, bad)
				none(t, []any{x, from, bad}, got, ok)
			}
			renameIs(t, x, x, bad, "z")
		}
	}
	for i, x := range odd() {
		for _, from := range []string{"a", "", "fun", "heavy", "w", "s"} {
			got, ok := Rename(x, from, "z")
			none(t, i, got, ok)
		}
	}
}

// P9.3: terms drawn at random, against the chapter's words; a name that does not occur, and back.
func TestRenameDrawn(t *testing.T) {
	r := rand.New(rand.NewSource(96))
	names := append(slices.Clone(drawnNames), "no", "nat", "rec", "q", "", "let", "a.")
	for range 20000 {
		x := drawn(r, 4, r.Intn(7), 1+r.Intn(30))
		from, to := names[r.Intn(len(names))], names[r.Intn(len(names))]
		got, ok := Rename(x, from, to)
		want, wantOK := plainRename(x, from, to)
		as(t, []any{x, from, to}, got, ok, want, wantOK)
		there, ok := Rename(x, drawnNames[0], "new.name")
		if !ok {
			t.Fatal(x)
		}
		renameIs(t, x, there, "new.name", drawnNames[0])
	}
}

package scope

import (
	"math"
	"math/rand"
	"strconv"
	"strings"
	"testing"

	"imprimatur/api"
	"imprimatur/level"
	"imprimatur/parse"
	"imprimatur/term"
)

// P14.1: names and what they become, written out.
func TestNames(t *testing.T) {
	a, b := c("a"), c("b")
	for text, want := range map[string]api.Term{
		"Prop":    prop(),
		"a":       a,
		"(a)":     a,
		"nat.rec": c("nat.rec"),
		"u4":      c("u4"),
		"a b":     app(a, b),
		// A name that no binder binds.
		"fun (a : Prop), b":               lam(prop(), b),
		"all (a : Prop), A":               pi(prop(), c("A")),
		"let a : Prop := b in b":          let(prop(), b, b),
		"fun (a : Prop), a.b":             lam(prop(), c("a.b")),
		"fun (a.b : Prop), a b":           lam(prop(), app(a, b)),
		"(fun (a : Prop), a) a":           app(lam(prop(), v(0)), a),
		"a (fun (a : Prop), a)":           app(a, lam(prop(), v(0))),
		"f (let a : b := b in a) a":       app(c("f"), let(b, b, v(0)), a),
		"f (all (a : Prop), b) a (a b) b": app(c("f"), pi(prop(), b), a, app(a, b), b),
		// A name that one binder binds.
		"fun (a : Prop), a":              lam(prop(), v(0)),
		"all (a : Prop), a":              pi(prop(), v(0)),
		"let a : Prop := b in a":         let(prop(), b, v(0)),
		"fun (a : Prop), fun (b : a), a": lam(prop(), lam(v(0), v(1))),
		// The example of the chapter.
		"fun (a : Prop), fun (b : a), a b":                                   lam(prop(), lam(v(0), app(v(1), v(0)))),
		"fun (a.b : Prop), a.b (a.b a)":                                      lam(prop(), app(v(0), app(v(0), a))),
		"fun (f : all (a : Prop), a), all (a : Prop), let y : a := f a in y": lam(pi(prop(), v(0)), pi(prop(), let(v(0), app(v(1), v(0)), v(0)))),
		// A name that several binders bind: the innermost one counts.
		"fun (a : Prop), fun (a : a), a":                            lam(prop(), lam(v(0), v(0))),
		"all (a : b), let a : a := a in a":                          pi(b, let(v(0), v(0), v(0))),
		"let a : a := a in fun (a : a), a":                          let(a, a, lam(v(0), v(0))),
		"fun (a : b), fun (b : a), fun (a : b), a b":                lam(b, lam(v(0), lam(v(0), app(v(0), v(1))))),
		"fun (a : b), fun (b : a), fun (b : a), a b":                lam(b, lam(v(0), lam(v(1), app(v(2), v(0))))),
		"fun (a : b), (all (a : a), a) a":                           lam(b, app(pi(v(0), v(0)), v(0))),
		"fun (a : b), fun (b : a), (fun (a : a), a) a":              lam(b, lam(v(0), app(lam(v(1), v(0)), v(1)))),
		"let a : b := b in let b : a := a in let a : b := b in a b": let(b, b, let(v(0), v(0), let(v(0), v(0), app(v(0), v(1))))),
		// The type and the value of a binder are outside it.
		"fun (a : a), b":                         lam(a, b),
		"all (a : a), a":                         pi(a, v(0)),
		"fun (a : all (a : a), a), a":            lam(pi(a, v(0)), v(0)),
		"let a : a := b in b":                    let(a, b, b),
		"let a : b := a in b":                    let(b, a, b),
		"let a : a := a in a":                    let(a, a, v(0)),
		"fun (b : a), let a : a b := b a in a b": lam(a, let(app(a, v(0)), app(v(0), a), app(v(0), v(1)))),
		"all (a : Prop), all (b : all (a : a), a), all (a : b), a b": pi(prop(), pi(pi(v(0), v(0)), pi(v(0), app(v(0), v(1))))),
		"fun (a : fun (b : fun (c : a b c), a b c), a b c), a b c":   lam(lam(lam(app(a, b, c("c")), app(a, b, v(0))), app(a, v(0), c("c"))), app(v(0), b, c("c"))),
		// The binders of what stands ahead are not around.
		"let x : fun (a : b), fun (b : a), a b := fun (b : b), a b in a b x":                    let(lam(b, lam(v(0), app(v(1), v(0)))), lam(b, app(a, v(0))), app(a, b, v(0))),
		"fun (a : b), fun (b : b), fun (c : b), fun (d : (fun (a : b), a) (fun (b : b), b)), d": lam(b, lam(b, lam(v(0), lam(app(lam(v(1), v(0)), lam(v(1), v(0))), v(0))))),
		// The family of a projection is not resolved.
		"[3 of a a]":                                           proj(3, "a", a),
		"fun (a : Prop), [31 of a a]":                          lam(prop(), proj(31, "a", v(0))),
		"let s : b := b in [0 of s [1 of b s]]":                let(b, b, proj(0, "s", proj(1, "b", v(0)))),
		"fun (a : Prop), all (b : [2 of a a]), [4 of b (a b)]": lam(prop(), pi(proj(2, "a", v(0)), proj(4, "b", app(v(1), v(0))))),
		// Names with levels that nothing binds.
		"a{0}":                           c("a", lev(0)),
		"fun (a : a{3}), b{0, 1} a":      lam(c("a", lev(3)), app(c("b", lev(0), lev(1)), v(0))),
		"let a : a{1} := a{2} in b{3}":   let(c("a", lev(1)), c("a", lev(2)), c("b", lev(3))),
		"(fun (a : b), a) a{0}":          app(lam(b, v(0)), c("a", lev(0))),
		"fun (a : b), [0 of a b{0|1}]":   lam(b, proj(0, "a", c("b", lev(1)))),
		"fun (a : b), Type 3 (Type 0) a": lam(b, app(typ(lev(3)), typ(lev(0)), v(0))),
	} {
		for params := range 5 {
			is(t, text, params, want)
		}
	}
}

// frames: texts with a hole for an atom or a term, so that each kind of node with Args is around the hole in each place.
func frames(names ...string) []string {
	list := []string{"$ a", "b $", "[5 of a $]"}
	for _, name := range names {
		for _, frame := range []string{"fun (# : $), a", "fun (# : b), $", "all (# : $), b", "all (# : a), $", "let # : $ := a in b", "let # : a := $ in a", "let # : b := b in $"} {
			list = append(list, strings.ReplaceAll(frame, "#", name))
		}
	}
	return list
}

// P14.1: every kind of raw term inside every other, in each of its places, up to three around a leaf; with names that no binder, one or several bind, with and without levels, and with levels that are too wide.
func TestKindsInsideKinds(t *testing.T) {
	terms, errors := 0, 0
	check := func(leaf string, around ...string) {
		for _, frame := range around {
			leaf = strings.Replace(frame, "$", "("+leaf+")", 1)
		}
		for _, params := range []int{0, 1, 4} {
			if reads(t, leaf, params) {
				terms++
			} else {
				errors++
			}
		}
	}
	for _, leaf := range []string{"Prop", "Type 3", "Type u0", "a", "b", "a b", "a{0}", "c{0, u1}", "b{u1, 0}"} {
		check(leaf)
		for _, f1 := range frames("a", "b") {
			check(leaf, f1)
			for _, f2 := range frames("a", "b") {
				check(leaf, f1, f2)
				for _, f3 := range frames("a", "b") {
					check(leaf, f1, f2, f3)
				}
			}
		}
	}
	if terms < 100000 || errors < 30000 {
		t.Error(terms, errors)
	}
}

// P14.1: texts drawn at random.
func TestDrawn(t *testing.T) {
	r := rand.New(rand.NewSource(143))
	count := map[api.Errno]int{}
	for i := range 5000 {
		d := drawer{r, r.Intn(5), []int{1, 5, 60, 1000}[i%4]}
		text := d.term(1 + r.Intn(80))
		for _, params := range []int{d.params - 1, d.params, d.params + 1} {
			_, _, e := ReadTerm(text, params)
			count[e]++
			reads(t, text, params)
		}
	}
	for _, e := range []api.Errno{api.OK, api.ErrForm, api.ErrLevel, api.ErrRange} {
		if count[e] < 900 {
			t.Error(e, count[e])
		}
	}
}

// widths: the text of a level of each width, and the level.
func widths() map[string]api.Level {
	return map[string]api.Level{"0": lev(0), "100": lev(100), "u0": lev(0, 0), "u1": lev(0, -1, 0), "u2+100": lev(100, -1, -1, 100), "u3+2": lev(2, -1, -1, -1, 2), "5|u0|u3": lev(5, 0, -1, -1, 0), "u0+1|u1": lev(1, 1, 0), "u2|u0": lev(0, 0, -1, 0)}
}

// P14.1: levels of a width of params and of one more, in each place.
func TestWidths(t *testing.T) {
	for text, l := range widths() {
		for params := range 5 {
			for form, want := range map[string]api.Term{
				"Type($)":                                typ(l),
				"f{$}":                                   c("f", l),
				"f{$,0}":                                 c("f", l, lev(0)),
				"f{0,$}":                                 c("f", lev(0), l),
				"f{0,$,1,2}":                             c("f", lev(0), l, lev(1), lev(2)),
				"f{0,1,2,$}":                             c("f", lev(0), lev(1), lev(2), l),
				"f{$,$,$,$}":                             c("f", l, l, l, l),
				"a Type($)":                              app(c("a"), typ(l)),
				"fun (a : Prop), f{1,$} a":               lam(prop(), app(c("f", lev(1), l), v(0))),
				"let a : Type($) := b in a":              let(typ(l), c("b"), v(0)),
				"[0 of s f{$}]":                          proj(0, "s", c("f", l)),
				"all (a : b), all (b : c{0}), a Type($)": pi(c("b"), pi(c("c", lev(0)), app(v(1), typ(l)))),
			} {
				whole := strings.ReplaceAll(form, "$", text)
				if level.Width(l) <= params {
					is(t, whole, params, want)
					continue
				}
				// The name with the level begins where the last name or Type ahead of the hole does.
				at := max(strings.Index(form, "Type("), strings.Index(form, "f{"))
				fails(t, whole, params, at, api.ErrLevel)
			}
		}
	}
}

// P14.1: params that are out of range, whatever else is wrong.
func TestParams(t *testing.T) {
	bad := []int{-1, 5, -5, 6, 100, 260, 256, 1 << 32, 1<<32 + 1, math.MinInt, math.MaxInt}
	deep := strings.Repeat("fun (a : Prop), ", 201) + "a"
	for _, text := range []string{"Prop", "a", "Type u0", "Type u3", "fun (a : Prop), a", "fun (a : Prop), a{0}", "fun (a : Prop), a{u3}", "f{u3} (fun (a : b), a{0})", deep} {
		for _, params := range bad {
			fails(t, text, params, 0, api.ErrRange)
			got, at, e := Term(raw(t, text), params)
			answers(t, short(text), params, got, at, e, api.Term{}, 0, api.ErrRange)
		}
		for params := range 5 {
			reads(t, text, params)
		}
	}
	for _, params := range bad {
		for _, r := range []parse.Raw{{}, {Kind: -1, At: 7}, {Kind: api.TVar, At: 7}, {Kind: api.TConst, At: 9}, {Kind: api.TApp}} {
			got, at, e := Term(r, params)
			answers(t, r, params, got, at, e, api.Term{}, 0, api.ErrRange)
		}
	}
	is(t, "Type u3", 4, typ(lev(0, -1, -1, -1, 0)))
	is(t, "Type 0", 0, typ(lev(0)))
}

// nested: a text with so many binders around it, of kinds that a number tells, each with a name of its own number of letters.
func nested(n int, kinds func(i int) int, text string) string {
	var all strings.Builder
	for i := range n {
		name := []string{"a", "b", "c"}[i%3]
		switch kinds(i) {
		case api.TLam:
			all.WriteString("fun (" + name + " : Prop), ")
		case api.TPi:
			all.WriteString("all (" + name + " : Prop), ")
		default:
			all.WriteString("let " + name + " : Prop := p in ")
		}
	}
	return all.String() + text
}

// P14.1: a binder inside 199, 200 and more others, of each kind and of all three; the type and the value of a binder are not inside it.
func TestDeep(t *testing.T) {
	r := rand.New(rand.NewSource(144))
	for choice := range 4 {
		kinds := func(int) int { return binders[choice%3] }
		if choice > 2 {
			kinds = func(int) int { return binders[r.Intn(3)] }
		}
		for _, n := range []int{198, 199, 200} {
			ahead := len(nested(n, func(int) int { return api.TLam }, ""))
			same := func(int) int { return api.TLam }
			for text, deep := range map[string]int{
				"a": 0, "Prop": 0, "a b c": 0, "[0 of s a]": 0,
				"fun (x : a), x": 1, "all (x : a), b": 1, "let x : a := b in c": 1,
				"fun (x : a), all (y : b), c": 2, "let x : a := b in let y : b := a in x y": 2,
				"fun (x : fun (y : fun (z : a), z), y), x": 1, "all (x : all (y : a), y), a": 1, "let x : let y : a := b in a := let z : c := fun (w : a), w in z in x": 1,
			} {
				whole := nested(n, same, text)
				if n+deep <= 200 {
					if !reads(t, whole, 0) {
						t.Error(n, text)
					}
				} else {
					// All of these are binders themselves; the second one inside the first is one too many where 199 are around.
					at := ahead
					if n == 199 {
						at += strings.Index(text, ", ") + 2
						if strings.HasPrefix(text, "let") {
							at = ahead + strings.Index(text, " in ") + 4
						}
					}
					fails(t, whole, 0, at, api.ErrMany)
				}
				reads(t, nested(n, kinds, text), 0)
			}
		}
		for _, n := range []int{201, 202, 250} {
			whole := nested(n, kinds, "a")
			at := -1
			for range 201 {
				at += 1 + min(index(whole[at+1:], "fun ("), index(whole[at+1:], "all ("), index(whole[at+1:], "let "))
			}
			fails(t, whole, 0, at, api.ErrMany)
		}
	}
	if got, at, e := ReadTerm(nested(200, func(int) int { return api.TPi }, "a b c p"), 0); e != 0 || at != 0 || term.Nodes(got) != 407 {
		t.Error(at, e)
	}
}

// index: where a text has another; far behind it, if it has not.
func index(text, piece string) int {
	if at := strings.Index(text, piece); at >= 0 {
		return at
	}
	return 1 << 30
}

// P14.1: the type of a binder is not inside it, however often that is so.
func TestDeepBeside(t *testing.T) {
	for _, n := range []int{200, 201, 400} {
		for _, forms := range [][]string{{"fun (a : ", "), a"}, {"all (a : ", "), a"}, {"let a : ", " := b in a"}, {"let a : b := ", " in a"}} {
			if !reads(t, strings.Repeat(forms[0], n)+"a"+strings.Repeat(forms[1], n), 0) {
				t.Error(n, forms)
			}
		}
	}
	// 200 around the whole of it.
	whole := nested(200, func(int) int { return api.TLam }, "(fun (a : b), c)")
	fails(t, whole, 0, len(whole)-len("fun (a : b), c)"), api.ErrMany)
	whole = nested(200, func(int) int { return api.TLet }, "a b [0 of s (let a : b := b in c)]")
	fails(t, whole, 0, len(whole)-len("let a : b := b in c)]"), api.ErrMany)
}

// P14.1: of several errors the first is told: nodes stand before their Args, in order, each with its checks in their order.
func TestFirstError(t *testing.T) {
	const fun, deep = "fun (a : b), ", "fun (x : b), "
	for _, x := range []struct {
		text string
		at   int
		e    api.Errno
	}{
		// On one node.
		{"fun (a : b), a{u0}", 13, api.ErrForm},
		{"fun (a : b), a{0, 1, u0}", 13, api.ErrForm},
		{"fun (a : b), (a){0}", 16, api.ErrForm},
		// On the head and on the argument.
		{"fun (a : b), a{0} (Type u0)", 13, api.ErrForm},
		{"fun (a : b), Type u0 a{0}", 13, api.ErrLevel},
		{"fun (a : b), f{u0} a{0} a{1}", 13, api.ErrLevel},
		{"fun (a : b), f a{0} f{u0}", 15, api.ErrForm},
		{"fun (a : b), f f{u0} a{0}", 15, api.ErrLevel},
		{"fun (a : b), f (f a{0}) f{u0}", 18, api.ErrForm},
		{"fun (a : b), ((f)) (f{u0} (a{0}))", 20, api.ErrLevel},
		// In the type, the value and the body.
		{"fun (a : Type u0), a{0}", 9, api.ErrLevel},
		{"all (a : b), all (b : a{0}), Type u0", 22, api.ErrForm},
		{"all (a : b), all (b : Type u0), a{0}", 22, api.ErrLevel},
		{"all (a : b), let x : a{0} := Type u0 in f{u1}", 21, api.ErrForm},
		{"all (a : b), let x : Type u0 := a{0} in f{u1}", 21, api.ErrLevel},
		{"all (a : b), let x : b := a{0} in f{u1}", 26, api.ErrForm},
		{"all (a : b), let x : b := Type u0 in a{0}", 26, api.ErrLevel},
		{"all (a : b), let x : b := c in [0 of s a{0}] Type u0", 39, api.ErrForm},
		{"let a : a{u0} := a{0} in a{0}", 8, api.ErrLevel},
		{"let a : a{0} := a{u0} in a{0}", 16, api.ErrLevel},
		{"let a : a{0} := a{0} in a{0}", 24, api.ErrForm},
		// A binder too many ahead of and behind the others.
		{fun + strings.Repeat(deep, 200) + "a{0}", 13 * 200, api.ErrMany},
		{fun + strings.Repeat(deep, 200) + "Type u0", 13 * 200, api.ErrMany},
		{fun + strings.Repeat(deep, 199) + "f a{0} (" + deep + "x)", 13*200 + 2, api.ErrForm},
		{fun + strings.Repeat(deep, 199) + "f (" + deep + "x) a{0}", 13*200 + 3, api.ErrMany},
		{fun + strings.Repeat(deep, 199) + "f Type u0 (" + deep + "x)", 13*200 + 2, api.ErrLevel},
		{fun + strings.Repeat(deep, 199) + "f (" + deep + "x) Type u0", 13*200 + 3, api.ErrMany},
		{fun + strings.Repeat(deep, 199) + "fun (x : a{0}), x", 13 * 200, api.ErrMany},
		{fun + strings.Repeat(deep, 199) + "fun (x : Type u0), x", 13 * 200, api.ErrMany},
		{fun + strings.Repeat(deep, 198) + "fun (x : a{0}), fun (x : b), x", 13*199 + 9, api.ErrForm},
		{fun + strings.Repeat(deep, 198) + "fun (x : Type u0), fun (x : b), x", 13*199 + 9, api.ErrLevel},
		{fun + strings.Repeat(deep, 198) + "fun (x : b), let y : a{0} := b in x", 13 * 200, api.ErrMany},
		{"fun (x : Type u0), " + strings.Repeat(deep, 200) + "x", 9, api.ErrLevel},
		{"(fun (a : b), a{0}) (" + strings.Repeat(deep, 201) + "x)", 14, api.ErrForm},
		{"(" + strings.Repeat(deep, 201) + "x) (fun (a : b), a{0})", 1 + 13*200, api.ErrMany},
	} {
		fails(t, x.text, 0, x.at, x.e)
	}
}

// P14.1: each two errors in each two places, ahead of which nothing is wrong.
func TestTwoErrors(t *testing.T) {
	const form = "all (a : $), let b : f $ ($ a) := [0 of s $] in (fun (x : $ a), $) $ (all (y : $), fun (z : b), $)"
	deep := strings.Repeat("fun (x : b), ", 201) + "x"
	wrong := []string{"a{0}", "b{u3,u0}", "Type u1", "(" + deep + ")", "a", "(f{0} Type u0)"}
	places := strings.Count(form, "$")
	count := map[string]int{}
	for first := range places {
		for second := first + 1; second < places; second++ {
			for i, w1 := range wrong {
				for k, w2 := range wrong {
					text := form
					for place := range places {
						fill := "c"
						if place == first {
							fill = w1
						} else if place == second {
							fill = w2
						}
						text = strings.Replace(text, "$", fill, 1)
					}
					_, _, e := ReadTerm(text, 1)
					count[strconv.Itoa(i)+strconv.Itoa(k)+" "+strconv.Itoa(int(e))]++
					reads(t, text, 1)
				}
			}
		}
	}
	if len(count) < 45 {
		t.Error(len(count), count)
	}
}

// P14.1: neither what stands behind the first error nor brackets, spaces and comments ahead of it change what is told, but for the offset.
func TestOffsets(t *testing.T) {
	for text, at := range map[string]int{"Type u0": 0, "f Type u0": 2, "fun (a : b), a{0}": 13, "fun (a : b), (((a{0})))": 16, "[0 of s Type u0]": 8, "(f) (g f{u0})": 7} {
		want := api.ErrForm
		if strings.Contains(text, "u0") {
			want = api.ErrLevel
		}
		for _, around := range [][]string{{"", ""}, {" ", " --"}, {"\n\n", "\n"}, {"-- a{0}\n", ""}, {"(", ")"}, {"((", ") )"}, {"( (\n", "))"}, {"f (", ") Type u0"}, {"fun (x : ", "), x{0}"}} {
			fails(t, around[0]+text+around[1], 0, len(around[0])+at, want)
		}
	}
}

// Ways: names are visited from the last to the first, and no further than asked.
func TestOutward(t *testing.T) {
	names := []string{"a", "b", "a", "c"}
	for stop := range 5 {
		seen, next := "", 0
		for n, name := range outward(names) {
			if n != next {
				t.Error(n, next)
			}
			next++
			if n == stop {
				break
			}
			seen += name
		}
		if seen != "caba"[:stop] {
			t.Error(stop, seen)
		}
	}
	for range outward(nil) {
		t.Error("a name")
	}
}

package code

import (
	"bytes"
	"slices"
	"strings"
	"testing"

	"imprimatur/api"
	"imprimatur/level"
	"imprimatur/term"
)

// row: bytes put together of numbers and texts.
func row(parts ...any) []byte {
	var b []byte
	for _, part := range parts {
		switch x := part.(type) {
		case int:
			b = append(b, byte(x))
		case string:
			b = append(b, x...)
		case []byte:
			b = append(b, x...)
		}
	}
	return b
}

// noTerm asks that no term is taken.
func noTerm(t *testing.T, b []byte) {
	t.Helper()
	if x, rest, ok := TakeTerm(b); ok || !term.Same(x, api.Term{}) || len(rest) != 0 {
		t.Fatal(b, "got", x, rest, ok)
	}
}

// noBytes asks that a term has no encoding.
func noBytes(t *testing.T, about any, x api.Term) {
	t.Helper()
	got, ok := Term(x)
	answers(t, about, got, ok, nil, false)
}

// knownTerms: terms and their bytes, written out.
func knownTerms() map[*api.Term][]byte {
	u := api.Level{Base: 7, Plus: [4]int{-1, 0, 7, 3}}
	most32 := strings.Repeat("q", 32)
	known := map[*api.Term][]byte{}
	add := func(x api.Term, parts ...any) { known[&x] = row(parts...) }
	add(v(0), 1, 0)
	add(v(1), 1, 1, 1)
	add(v(255), 1, 1, 255)
	add(v(256), 1, 2, 1, 0)
	add(v(65536), 1, 3, 1, 0, 0)
	add(v(most-1), 1, 5, 255, 255, 255, 255, 255)
	add(prop(), 2)
	add(typ(level.Num(0)), 3, 0, 0, 0, 0, 0)
	add(typ(level.Num(100)), 3, 100, 0, 0, 0, 0)
	add(typ(u), 3, 7, 0, 1, 8, 4)
	add(typ(api.Level{Base: 100, Plus: [4]int{100, 0, -1, 100}}), 3, 100, 101, 1, 0, 101)
	add(c("a"), 4, 1, 1, "a", 0)
	add(c("nat.rec", u), 4, 1, 7, "nat.rec", 1, 7, 0, 1, 8, 4)
	add(c(most32, u, level.Num(0), level.Num(1), level.Num(2)), 4, 1, 32, most32, 4, 7, 0, 1, 8, 4, 0, 0, 0, 0, 0, 1, 0, 0, 0, 0, 2, 0, 0, 0, 0)
	add(node(api.TApp, v(0), prop()), 5, 1, 0, 2)
	add(node(api.TApp, node(api.TApp, c("f"), v(3)), prop()), 5, 5, 4, 1, 1, "f", 0, 1, 1, 3, 2)
	add(node(api.TLam, prop(), v(most)), 6, 2, 1, 6, 1, 0, 0, 0, 0, 0)
	add(node(api.TPi, prop(), node(api.TPi, v(0), v(1))), 7, 2, 7, 1, 0, 1, 1, 1)
	add(node(api.TLet, prop(), c("b"), v(most)), 8, 2, 4, 1, 1, "b", 0, 1, 6, 1, 0, 0, 0, 0, 0)
	add(proj(0, "s", prop()), 9, 0, 1, 1, "s", 2)
	add(proj(31, most32, proj(1, "t.u", v(2))), 9, 1, 31, 1, 32, most32, 9, 1, 1, 1, 3, "t.u", 1, 1, 2)
	return known
}

// P10.1, P10.2: each Kind, written out; every beginning, and bytes behind.
func TestTermKnown(t *testing.T) {
	for at, b := range knownTerms() {
		x := *at
		got, ok := Term(x)
		answers(t, x, got, ok, b, true)
		for _, behind := range [][]byte{nil, {0}, {2}, {1, 0}, bytes.Repeat([]byte{255}, 300)} {
			back, rest, ok := TakeTerm(slices.Concat(b, behind))
			if !ok || !term.Same(back, x) || !bytes.Equal(rest, behind) {
				t.Error(x, "got", back, rest, ok)
			}
		}
		for cut := range b {
			noTerm(t, b[:cut])
			noTerm(t, slices.Clone(b[:cut]))
		}
	}
}

// P10.1: terms that have no encoding, alone and within others.
func TestTermRefused(t *testing.T) {
	for i, x := range odd() {
		noBytes(t, i, x)
		noBytes(t, i, node(api.TApp, prop(), x))
		noBytes(t, i, proj(3, "s", x))
		for _, d := range []api.Decl{axiom("a", 4, x), def("a", 4, x, prop()), def("a", 4, prop(), x), opaque("a", 4, prop(), x), family("a", 4, prop(), 0, api.Ctor{Name: "b", Type: x})} {
			got, ok := Decl(d)
			answers(t, i, got, ok, nil, false)
			if Formed(d) {
				t.Error(i)
			}
		}
	}
}

// P10.1, P10.2: a variable at the edges, outside and inside binders: those above 2^40 have no encoding, valid or not.
func TestVariables(t *testing.T) {
	for _, n := range slices.Concat([]int{0, 1, 2, 199, 200, 254, 255, 256, 257, 65535, 65536, 1<<24 - 1, 1 << 24, 1 << 32, most - 2, most - 1, most, most + 1, most + 2, most + 198, most + 199, most + 200}, outside) {
		for _, deep := range []int{0, 1, 2, 200} {
			for _, kind := range binders {
				x := under(kind, deep, v(n))
				if want := n >= 0 && n < most+deep && n <= most; hasTerm(x) != want {
					t.Fatal(n, deep, kind)
				}
				termIs(t, x)
				termIs(t, node(api.TApp, x, prop()))
				termIs(t, node(api.TApp, prop(), x))
				if deep < 200 {
					termIs(t, under(kind, deep, node(kind, v(n), v(n))))
					termIs(t, under(kind, deep, node(api.TLet, prop(), v(n), v(n))))
				}
			}
		}
	}
	noTerm(t, row(1, 6, 1, 0, 0, 0, 0, 0))
	noTerm(t, row(6, 1, 6, 1, 0, 0, 0, 0, 0, 2))
	noTerm(t, row(6, 2, 1, 6, 1, 0, 0, 0, 0, 1))
}

// P10.1, P10.2, P10.3: every byte in each place of a level, beside others.
func TestLevels(t *testing.T) {
	right := 0
	for at := range 4 {
		for base := range 256 {
			for plus := range 256 {
				b := row(3, base, 0, 0, 0, 0)
				b[2+at] = byte(plus)
				if takeTermIs(t, b) {
					right++
				}
				if other := (at + 1) % 4; base < 102 {
					b[2+other] = byte(base + 1)
					takeTermIs(t, b)
				}
			}
		}
	}
	// To a Base, each Plus from -1 up to it.
	if want := 4 * 101 * 104 / 2; right != want {
		t.Error(right, want)
	}
	for _, base := range []int{-256, -1, 0, 1, 99, 100, 101, 255, 256, 356} {
		for _, plus := range []int{-257, -2, -1, 0, 1, 99, 100, 101, 254, 255, 256, 356} {
			for at := range 4 {
				l := level.Num(base)
				l.Plus[at] = plus
				termIs(t, typ(l))
				termIs(t, c("a", l))
				termIs(t, c("a", level.Num(3), l, level.Num(4)))
			}
		}
	}
}

// P10.1, P10.2: names of each length, within a constant and a projection; lengths beyond the end, in more bytes than they need, and of no bytes.
func TestNames(t *testing.T) {
	for _, s := range append(names(), noNames()...) {
		termIs(t, c(s))
		termIs(t, proj(31, s, c(s, level.Num(0))))
		for _, b := range [][]byte{plainTerm(c(s)), plainTerm(proj(0, s, prop()))} {
			if took := takeTermIs(t, b); took != term.Word(s) {
				t.Errorf("%q", s)
			}
			takeTermIs(t, b[:len(b)-1])
		}
	}
	for length := range 300 {
		for _, have := range []int{0, 1, 31, 32, 33, 299} {
			s := strings.Repeat("q", have)
			takeTermIs(t, row(4, plainNum(length), s, 0))
			takeTermIs(t, row(9, 0, plainNum(length), s, 2))
		}
	}
	for _, length := range [][]byte{{1, 0}, {2, 0, 1}, {3, 0, 0, 1}, {6, 0, 0, 0, 0, 0, 1}, {2, 1, 0}, {3, 1, 0, 0}, {5, 1, 0, 0, 0, 0}, {6, 1, 0, 0, 0, 0, 0}, {6, 1, 0, 0, 0, 0, 1}, {7, 1, 0, 0, 0, 0, 0, 0}, {8, 255, 255, 255, 255, 255, 255, 255, 255}, {8, 128, 0, 0, 0, 0, 0, 0, 0}} {
		noTerm(t, row(4, length, "a", 0))
		noTerm(t, row(9, 0, length, "a", 2))
		if d, rest, ok := TakeDecl(row(1, length, "a", 0, 2)); ok || !sameDecl(d, api.Decl{}) || len(rest) != 0 {
			t.Error(length, d, rest)
		}
	}
}

// P10.1, P10.2: each number of a constant's Levels, each field of a projection, each Kind.
func TestTermParts(t *testing.T) {
	for count := range 256 {
		x := c("a", slices.Repeat([]api.Level{level.Param(1, 0)}, count)...)
		termIs(t, x)
		if took := takeTermIs(t, plainTerm(x)); took != (count <= 4) {
			t.Error(count)
		}
		for have := range 6 {
			takeTermIs(t, row(4, 1, 1, "a", count, make([]byte, 5*have)))
			takeTermIs(t, row(4, 1, 1, "a", count, make([]byte, 5*have+4)))
		}
		termIs(t, proj(count, "s", prop()))
		if took := takeTermIs(t, row(9, plainNum(count), 1, 1, "s", 2)); took != (count < 32) {
			t.Error(count)
		}
		if took := takeTermIs(t, row(count, 1, 1, "s", 0, 0, 1, 0, 0, 2)); took != (count == 1 || count == 2 || count == 4) {
			t.Error(count, took)
		}
		for _, behind := range [][]byte{nil, {0}, {2}, {2, 2, 2}, {1, 1, 1, 1, 1}, {5, 2, 2, 2}, {0, 1, 1, 'a', 2, 2}} {
			takeTermIs(t, row(count, behind))
			takeTermIs(t, row(5, count, behind, 2))
		}
	}
	noTerm(t, row(9, 1, 32, 1, 1, "s", 2))
	noTerm(t, row(9, 1, 0, 1, 1, "s", 2))
	noTerm(t, row(10, 2, 2))
	noTerm(t, row(0))
}

// P10.1, P10.2: terms of 3,000 nodes and of 3,001, with Levels that count too; Args without an end.
func TestSize(t *testing.T) {
	for _, n := range []int{2990, 2995, 2998, 2999, 3000, 3001, 3002, 3010, 6001} {
		for levels := range 5 {
			x := wide(n)
			more := c("a", slices.Repeat([]api.Level{level.Num(1)}, levels)...)
			for _, y := range []api.Term{x, node(api.TApp, x, more), node(api.TPi, more, x), node(api.TLet, more, x, v(0))} {
				size := term.Nodes(y)
				termIs(t, y)
				if took := takeTermIs(t, plainTerm(y)); took != (size <= 3000) {
					t.Error(n, levels, size)
				}
			}
		}
	}
	full := plainTerm(wide(3000))
	for _, cut := range []int{0, 1, 2, 1000, len(full) - 2, len(full) - 1} {
		noTerm(t, full[:cut])
	}
	for _, kind := range []int{api.TApp, api.TLam, api.TPi, api.TLet} {
		// So many could not even be gone into.
		endless := bytes.Repeat([]byte{byte(kind)}, 1<<24)
		if x, rest, ok := TakeTerm(endless); ok || !term.Same(x, api.Term{}) || len(rest) != 0 {
			t.Error(kind)
		}
		noTerm(t, row(bytes.Repeat([]byte{byte(kind)}, 3000), bytes.Repeat([]byte{2}, 6001)))
	}
	noTerm(t, bytes.Repeat([]byte{9, 0, 1, 1, 's'}, 1<<18))
	// More Levels than a term may have nodes.
	heavy := slices.Repeat([]api.Level{level.Num(1)}, 4)
	x := c("a", heavy...)
	for n := range 700 {
		x = node(api.TApp, x, c("a", heavy...))
		if n > 490 && n < 510 {
			termIs(t, x)
		}
	}
	noBytes(t, "heavy", x)
	noTerm(t, plainTerm(x))
}

// P10.1, P10.2: 200 and 201 nested binders, of each kind.
func TestNested(t *testing.T) {
	for _, kind := range binders {
		for _, deep := range []int{0, 1, 2, 199, 200, 201, 202, 900} {
			for _, x := range []api.Term{under(kind, deep, prop()), under(kind, deep, v(max(deep-1, 0))), node(api.TApp, under(kind, deep, v(0)), under(kind, deep, prop()))} {
				termIs(t, x)
				if took := takeTermIs(t, plainTerm(x)); took != (deep <= 200) {
					t.Error(kind, deep)
				}
			}
		}
	}
}

// P10.1, P10.2, P10.3: the samples, with every beginning of their bytes.
func TestTermSamples(t *testing.T) {
	seen := map[string]api.Term{}
	for _, x := range samples() {
		termIs(t, x)
		b, _ := Term(x)
		if other, twice := seen[string(b)]; twice && !term.Same(other, x) {
			t.Fatal(other, x)
		}
		seen[string(b)] = x
		for cut := range b {
			noTerm(t, b[:cut])
		}
	}
	for _, x := range odd() {
		termIs(t, x)
		takeTermIs(t, plainTerm(x))
	}
}

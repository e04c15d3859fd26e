package term

import (
	"math"
	"math/rand"
	"slices"
	"testing"

	"imprimatur/api"
	"imprimatur/level"
)

// anything: any term at all, most of them of a kind that there is.
func anything(r *rand.Rand, nodes int) api.Term {
	t := api.Term{Kind: r.Intn(12) - 1, N: r.Intn(4) - 1}
	if r.Intn(8) == 0 {
		t.Kind, t.N = int(r.Uint64()), int(r.Uint64())
	}
	if r.Intn(2) == 0 {
		t.Name = []string{"a", "", "fun", "a..b", "\xff", "nat.rec", "0"}[r.Intn(7)]
	}
	for range r.Intn(3) * r.Intn(4) {
		l := level.Num(r.Intn(103) - 1)
		if r.Intn(3) == 0 {
			l.Plus[r.Intn(4)] = r.Intn(104) - 2
		}
		t.Levels = append(t.Levels, l)
	}
	for nodes > 1 && r.Intn(6) > 0 {
		part := 1 + r.Intn(nodes-1)
		t.Args = append(t.Args, anything(r, part))
		nodes -= part
	}
	return t
}

// P1, P8.1, P8.2: any arguments: each answer is the one that the chapter's words ask for.
func TestAnyArguments(t *testing.T) {
	r := rand.New(rand.NewSource(87))
	numbers := append([]int{0, 1, 2, 3, 4, 5, most, most + 1}, outside...)
	number := func() int { return numbers[r.Intn(len(numbers))] }
	for range 30000 {
		x, y := anything(r, 1+r.Intn(20)), anything(r, 1+r.Intn(4))
		if r.Intn(3) == 0 {
			x = drawn(r, 4, 3, 1+r.Intn(20))
		}
		params, vars, n, kind := number(), number(), number(), r.Intn(12)-1
		if Right(x, params, vars) != isValid(x, params, vars) || Nodes(x) != size(x) || Same(x, y) != equal(x, y) || !equal(Clone(x), x) || !slices.Equal(Consts(x), plainConsts(x)) {
			t.Fatal(x, y, params, vars)
		}
		loose, uses := 0, 0
		if isValid(x, 4, most) {
			counts := outer(x)
			uses = counts[n]
			for k := range counts {
				loose = max(loose, k+1)
			}
		}
		if Loose(x) != loose || Uses(x, n) != uses {
			t.Fatal(x, n, Loose(x), Uses(x, n))
		}
		head, args := Spine(x)
		types, body := Strip(x, kind)
		if len(args) > 0 != (x.Kind == api.TApp && len(x.Args) == 2) || len(types) > 0 != (x.Kind == kind && len(x.Args) == 2) {
			t.Fatal(x, kind, args, types)
		}
		spineIs(t, App(head, args...), head, args...)
		stripIs(t, Bind(kind, body, types...), kind, body, types...)
	}
}

// P1: any text.
func TestAnyWord(t *testing.T) {
	r := rand.New(rand.NewSource(88))
	names := 0
	for range 200000 {
		b := make([]byte, r.Intn(40))
		for i := range b {
			b[i] = "abzAZ019_.u3"[r.Intn(12)]
			if r.Intn(300) == 0 {
				b[i] = byte(r.Intn(256))
			}
		}
		if len(b) > 0 && r.Intn(2) == 0 {
			b[0] = 'x'
		}
		s := string(b)
		if Word(s) != isName(s) {
			t.Fatalf("%q", s)
		}
		if Word(s) {
			names++
		}
	}
	if names < 2000 {
		t.Error("only", names)
	}
	if Word(string([]byte{0})) || Word(string(rune(math.MaxInt32))) {
		t.Error("taken")
	}
}

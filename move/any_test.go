package move

import (
	"math/rand"
	"testing"

	"imprimatur/api"
	"imprimatur/level"
	"imprimatur/term"
)

// anything: any term at all, most of them of a kind that there is.
func anything(r *rand.Rand, nodes int) api.Term {
	t := api.Term{Kind: r.Intn(12) - 1, N: r.Intn(4) - 1}
	if r.Intn(8) == 0 {
		t.Kind, t.N = int(r.Uint64()), int(r.Uint64())
	}
	if r.Intn(2) == 0 {
		t.Name = []string{"a", "", "fun", "a..b", "\xff", "nat.rec", "0"}[r.Intn(7)]
	}
	for range r.Intn(3) * r.Intn(4) {
		t.Levels = append(t.Levels, anyLevel(r))
	}
	for nodes > 1 && r.Intn(6) > 0 {
		part := 1 + r.Intn(nodes-1)
		t.Args = append(t.Args, anything(r, part))
		nodes -= part
	}
	return t
}

func anyLevel(r *rand.Rand) api.Level {
	l := level.Num(r.Intn(103) - 1)
	if r.Intn(3) == 0 {
		l.Plus[r.Intn(4)] = r.Intn(104) - 2
	}
	return l
}

// mutated: a copy of a valid term with one field of one node changed.
func mutated(r *rand.Rand, t api.Term) api.Term {
	t = term.Clone(t)
	at := &t
	for len(at.Args) > 0 && r.Intn(4) > 0 {
		at = &at.Args[r.Intn(len(at.Args))]
	}
	switch r.Intn(6) {
	case 0:
		at.Kind = r.Intn(12) - 1
	case 1:
		at.N += []int{1, -1, 40, most, -most, 1 << 62}[r.Intn(6)]
	case 2:
		at.Name += []string{"", "a", ".", "fun"}[r.Intn(4)]
	case 3:
		at.Levels = append(at.Levels, anyLevel(r))
	case 4:
		at.Args = append(at.Args, prop())
	case 5:
		at.Args = at.Args[:max(len(at.Args)-1, 0)]
	}
	return t
}

// P1, P9.1 to P9.4: any arguments: each answer is the one that the chapter's words ask for.
func TestAnyArguments(t *testing.T) {
	r := rand.New(rand.NewSource(99))
	numbers := append([]int{-most, -3, -2, -1, 0, 1, 2, 3, 4, most - 1, most}, outside...)
	number := func() int { return numbers[r.Intn(len(numbers))] }
	texts := append(noNames(), "a", "b", "n", "x", "y", "nat.rec")
	text := func() string { return texts[r.Intn(len(texts))] }
	some := func(nodes int) api.Term {
		switch x := drawn(r, 4, r.Intn(4), 1+r.Intn(nodes)); r.Intn(8) {
		case 0:
			return anything(r, 1+r.Intn(nodes))
		case 1:
			return mutated(r, x)
		default:
			return x
		}
	}
	results := map[string]int{}
	ask := func(about string, got api.Term, ok bool, want api.Term, wantOK bool) {
		as(t, about, got, ok, want, wantOK)
		if ok {
			results[about]++
		}
	}
	for range 20000 {
		x, by, from, kind := some(20), number(), number(), r.Intn(12)-1
		if r.Intn(2) == 0 {
			kind = x.Kind
		}
		var args []api.Term
		var names []string
		var levels []api.Level
		var locals []Local
		for range r.Intn(4) {
			args, names, levels, locals = append(args, some(4)), append(names, text()), append(levels, anyLevel(r)), append(locals, Local{text(), some(4)})
		}
		got, ok := Shift(x, by, from)
		want, wantOK := plainShift(x, by, from)
		ask("Shift", got, ok, want, wantOK)
		got, ok = Put(x, args...)
		want, wantOK = plainPut(x, args...)
		ask("Put", got, ok, want, wantOK)
		got, ok = Pull(x, names...)
		want, wantOK = plainPull(x, names...)
		ask("Pull", got, ok, want, wantOK)
		got, ok = Levels(x, levels)
		want, wantOK = plainLevels(x, levels)
		ask("Levels", got, ok, want, wantOK)
		a, b := text(), text()
		got, ok = Rename(x, a, b)
		want, wantOK = plainRename(x, a, b)
		ask("Rename", got, ok, want, wantOK)
		got, ok = Close(x, kind, locals...)
		want, wantOK = plainClose(x, kind, locals...)
		ask("Close", got, ok, want, wantOK)
		l, got, ok := Open(x, kind, names...)
		wantL, want, wantOK := plainOpen(x, kind, names...)
		ask("Open", got, ok, want, wantOK)
		if !sameLocals(l, wantL) {
			t.Fatal(x, kind, names, l)
		}
	}
	for _, about := range []string{"Shift", "Put", "Pull", "Levels", "Rename", "Close", "Open"} {
		if results[about] < 700 {
			t.Error(about, results[about])
		}
	}
}

// P1: a panic that does not tell that something cannot be built is no answer.
func TestOtherPanics(t *testing.T) {
	defer func() {
		if why := recover(); why != "other" {
			t.Error(why)
		}
	}()
	built(func() int { panic("other") })
	t.Error("built")
}

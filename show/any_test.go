package show

import (
	"math/rand"
	"slices"
	"testing"

	"imprimatur/api"
	"imprimatur/level"
	"imprimatur/term"
)

// anything: any term at all, most of them of a kind that there is.
func anything(r *rand.Rand, nodes int) api.Term {
	t := api.Term{Kind: r.Intn(12) - 1, N: r.Intn(4) - 1}
	if r.Intn(8) == 0 {
		t.Kind, t.N = int(r.Uint64()), int(r.Uint64())
	}
	if r.Intn(2) == 0 {
		t.Name = []string{"a", "", "fun", "a..b", "\xff", "nat.rec", "0", "x0"}[r.Intn(8)]
	}
	for range r.Intn(3) * r.Intn(4) {
		t.Levels = append(t.Levels, anyLevel(r))
	}
	for nodes > 1 && r.Intn(6) > 0 {
		part := 1 + r.Intn(nodes-1)
		t.Args = append(t.Args, anything(r, part))
		nodes -= part
	}
	return t
}

func anyLevel(r *rand.Rand) api.Level {
	l := level.Num(r.Intn(103) - 1)
	if r.Intn(3) == 0 {
		l.Plus[r.Intn(4)] = r.Intn(104) - 2
	}
	return l
}

// mutated: a copy of a term with one field of one node changed.
func mutated(r *rand.Rand, t api.Term) api.Term {
	t = term.Clone(t)
	at := &t
	for len(at.Args) > 0 && r.Intn(4) > 0 {
		at = &at.Args[r.Intn(len(at.Args))]
	}
	switch r.Intn(6) {
	case 0:
		at.Kind = r.Intn(12) - 1
	case 1:
		at.N += []int{1, -1, 40, 1 << 40, -1 << 40, 1 << 62}[r.Intn(6)]
	case 2:
		at.Name += []string{"", "a", ".", "fun"}[r.Intn(4)]
	case 3:
		at.Levels = append(at.Levels, anyLevel(r))
	case 4:
		at.Args = append(at.Args, prop())
	case 5:
		at.Args = at.Args[:max(len(at.Args)-1, 0)]
	}
	return t
}

// some: a term, most often one that has a text.
func some(r *rand.Rand, params, nodes int) api.Term {
	switch x := drawn(r, params, 0, 1+r.Intn(nodes)); r.Intn(8) {
	case 0:
		return anything(r, 1+r.Intn(nodes))
	case 1, 2:
		return mutated(r, x)
	default:
		return x
	}
}

// mutatedDecl: a well-formed declaration with one field changed.
func mutatedDecl(r *rand.Rand) api.Decl {
	d := drawnDecl(r, 6)
	switch r.Intn(8) {
	case 0:
		d.Kind = r.Intn(6)
	case 1:
		d.Params += r.Intn(7) - 3
	case 2:
		d.Name = []string{"", "x0", "let", ".", "a.b"}[r.Intn(5)]
	case 3:
		d.Type = some(r, 4, 6)
	case 4:
		d.Value = some(r, 4, 6)
	case 5:
		d.Fixed += r.Intn(40) - 20
	case 6:
		d.Ctors = append(d.Ctors, api.Ctor{Name: drawnName(r), Type: some(r, 4, 6)})
	case 7:
		d.Ctors = append(d.Ctors, api.Ctor{Name: "a..b", Type: prop()})
	}
	return d
}

// P1, P13.1: any arguments: each answer is the one that the chapter's words ask for.
func TestAnyArguments(t *testing.T) {
	r := rand.New(rand.NewSource(139))
	texts, none := 0, 0
	count := func(ok bool) {
		if ok {
			texts++
		} else {
			none++
		}
	}
	for range 20000 {
		count(termIs(t, some(r, 4, 20)))
		count(declIs(t, mutatedDecl(r)))
	}
	for range 500 {
		var list []api.Decl
		for range r.Intn(5) {
			list = append(list, mutatedDecl(r))
		}
		count(libraryIs(t, list))
	}
	if texts < 10000 || none < 5000 {
		t.Error(texts, none)
	}
}

// P1, P13.1: each change of one field of the samples, as often as there is room for it.
func TestMutated(t *testing.T) {
	r := rand.New(rand.NewSource(140))
	for _, x := range samples() {
		for range 60 {
			termIs(t, mutated(r, x))
		}
	}
}

// P1: a term that contains itself.
func TestEndless(t *testing.T) {
	for _, kind := range []int{-1, 0, api.TVar, api.TProp, api.TApp, api.TLam, api.TPi, api.TLet, api.TProj, 10} {
		for args := 1; args < 4; args++ {
			x := api.Term{Kind: kind, Args: make([]api.Term, args)}
			if kind == api.TProj {
				x.Name = "s"
			}
			for i := range x.Args {
				for j := range x.Args {
					x.Args[j] = prop()
				}
				x.Args[i] = x
				noTerm(t, x)
				noDecl(t, axiom("a", 0, x))
				noDecl(t, def("a", 0, prop(), x))
				noDecl(t, api.Decl{Kind: api.DAxiom, Name: "a", Type: prop(), Value: x})
				noDecl(t, family("a", 0, prop(), 0, api.Ctor{Name: "c", Type: x}))
			}
		}
	}
}

// P1, P13.2: any names.
func TestAnyNames(t *testing.T) {
	r := rand.New(rand.NewSource(141))
	for range 20000 {
		taken := make([]string, r.Intn(12))
		for i := range taken {
			b := make([]byte, r.Intn(4))
			for j := range b {
				b[j] = "x0123X_ \xff"[r.Intn(9)]
			}
			taken[i] = string(b)
			if r.Intn(2) == 0 {
				taken[i] = xn(r.Intn(15))
			}
		}
		freshIs(t, r.Intn(30)-2, taken...)
		freshIs(t, int(r.Uint64()), taken...)
	}
	if got := Fresh(5, slices.Repeat([]string{"x2", "\x00", "x4"}, 10000)...); !slices.Equal(got, []string{"x0", "x1", "x3", "x5", "x6"}) {
		t.Error(got)
	}
}

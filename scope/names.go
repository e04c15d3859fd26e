package scope

import (
	"iter"
	"slices"
	"strings"

	"imprimatur/api"
	"imprimatur/level"
	"imprimatur/parse"
)

// place is where a node stands: the number of universe parameters, and the names of the binders around it, the innermost one last.
type place struct {
	params int
	around []string
}

// term: the term of a raw one that has the form of layer 12's.
func (p place) term(r parse.Raw) api.Term {
	n, bound := p.variable(r)
	need(!bound || len(r.Levels) == 0, r, api.ErrForm)
	need(!slices.ContainsFunc(r.Levels, p.tooWide), r, api.ErrLevel)
	need(!isBinder(r.Kind) || len(p.around) < api.MaxDeep, r, api.ErrMany)
	if bound {
		return api.Term{Kind: api.TVar, N: n}
	}
	t := api.Term{Kind: r.Kind, N: r.N, Levels: slices.Clone(r.Levels)}
	if !isBinder(r.Kind) {
		t.Name = strings.Clone(r.Name)
	}
	for i, arg := range r.Args {
		if i == len(r.Args)-1 && isBinder(r.Kind) {
			// Only now: what is ahead may have binders of its own, whose names would be written to the same place.
			p.around = append(p.around, r.Name)
		}
		t.Args = append(t.Args, p.term(arg))
	}
	return t
}

func (p place) tooWide(l api.Level) bool { return level.Width(l) > p.params }

// need ends the resolving at a node if something does not hold that must.
func need(holds bool, r parse.Raw, e api.Errno) {
	if !holds {
		panic(fault{r.At, e})
	}
}

// variable: which variable a node is, and true; 0 and false if it is no name that a binder around it binds.
func (p place) variable(r parse.Raw) (int, bool) {
	// The name of a projection is a family's, and that of a binder is the one that it binds.
	if r.Kind != api.TConst {
		return 0, false
	}
	for n, name := range outward(p.around) {
		if name == r.Name {
			return n, true
		}
	}
	return 0, false
}

// outward: names from the last one to the first, each with the number of those behind it.
func outward(names []string) iter.Seq2[int, string] {
	return func(yield func(int, string) bool) {
		for n := range names {
			if !yield(n, names[len(names)-1-n]) {
				return
			}
		}
	}
}

// isBinder: does a node of a kind bind its name in the last of its Args?
func isBinder(kind int) bool {
	return kind == api.TLam || kind == api.TPi || kind == api.TLet
}

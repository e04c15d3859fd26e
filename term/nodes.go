package term

import (
	"iter"
	"slices"

	"imprimatur/api"
)

// nodes: the nodes of a term, each ahead of its Args, with the number of binders around it. Any term may be visited, so whoever ranges over one that may be too large has to stop.
func nodes(t api.Term) iter.Seq2[api.Term, int] {
	return func(yield func(api.Term, int) bool) {
		var visit func(t api.Term, around int) bool
		visit = func(t api.Term, around int) bool {
			if !yield(t, around) {
				return false
			}
			last := len(t.Args) - 1
			for i, arg := range t.Args {
				inside := around
				if i == last && isBinder(t.Kind) {
					inside++
				}
				if !visit(arg, inside) {
					return false
				}
			}
			return true
		}
		visit(t, 0)
	}
}

// isBinder: is the last of a kind's Args inside one more binder?
func isBinder(kind int) bool {
	return kind == api.TLam || kind == api.TPi || kind == api.TLet
}

// weight: for how many nodes a node counts, without its Args.
func weight(node api.Term) int { return 1 + len(node.Levels) }

// Nodes: how many nodes it has.
func Nodes(t api.Term) int {
	count := 0
	for node := range nodes(t) {
		count += weight(node)
		if count > api.MaxNodes {
			return api.MaxNodes + 1
		}
	}
	return count
}

// Consts: the names in it.
func Consts(t api.Term) []string {
	var names []string
	left := api.MaxNodes
	for node := range nodes(t) {
		left -= weight(node)
		if left < 0 {
			break
		}
		if node.Kind == api.TConst || node.Kind == api.TProj {
			names = append(names, node.Name)
		}
	}
	slices.Sort(names)
	return slices.Compact(names)
}

// Loose: how many variables it needs.
func Loose(t api.Term) int {
	if !Right(t, api.MaxParams, maxVars) {
		return 0
	}
	need := 0
	for node, around := range nodes(t) {
		if node.Kind == api.TVar {
			need = max(need, node.N-around+1)
		}
	}
	return need
}

// Uses: how often a variable stands in it.
func Uses(t api.Term, n int) int {
	// A variable that a binder of the term binds would have a negative index outside.
	if n < 0 || !Right(t, api.MaxParams, maxVars) {
		return 0
	}
	count := 0
	for node, around := range nodes(t) {
		if node.Kind == api.TVar && node.N-around == n {
			count++
		}
	}
	return count
}

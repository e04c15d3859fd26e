package move

import (
	"slices"

	"imprimatur/api"
	"imprimatur/term"
)

// built: what a closure builds, and true; zero values and false if it cannot be built.
func built[T any](build func() T) (result T, ok bool) {
	defer func() {
		switch why := recover().(type) {
		case nil:
		case api.Errno:
			// The closure did not come to its end, so that the results are zero values still.
		default:
			panic(why)
		}
	}()
	return build(), true
}

// need ends what is being built if something that it needs does not hold.
func need(holds bool, why api.Errno) {
	if !holds {
		panic(why)
	}
}

// valid: a term, which has to be valid.
func valid(t api.Term) api.Term {
	need(term.Right(t, api.MaxParams, maxVars), api.ErrForm)
	return t
}

// swap decides what replaces a node. It is given a copy of the node, without its Args, and the number of binders around it; for a leaf it may answer any term.
type swap func(node api.Term, around int) api.Term

// rebuilt: a term in new memory, with other nodes.
func rebuilt(t api.Term, by swap) api.Term { return rebuiltInside(t, 0, by) }

// rebuiltInside: likewise, where so many binders are around it.
func rebuiltInside(t api.Term, around int, by swap) api.Term {
	args := t.Args
	t.Args = nil
	result := by(term.Clone(t), around)
	if len(args) == 0 {
		return result
	}
	result.Args = make([]api.Term, len(args))
	for i, arg := range args {
		inside := around
		if i == len(args)-1 && isBinder(t.Kind) {
			inside++
		}
		result.Args[i] = rebuiltInside(arg, inside, by)
	}
	return result
}

// isBinder: is the last of a kind's Args inside one more binder?
func isBinder(kind int) bool { return takesLocals(kind) || kind == api.TLet }

// takesLocals: do a kind's binders stand for locals, when they are opened and closed?
func takesLocals(kind int) bool { return kind == api.TLam || kind == api.TPi }

// The functions below take, beside valid terms, what stands inside the binders of one: it may speak of more variables than a valid term, so that layer 9's own functions would refuse it.

// shifted: by added to the variables from an outer index on.
func shifted(t api.Term, by, from int) api.Term {
	return rebuilt(t, func(node api.Term, around int) api.Term {
		if node.Kind == api.TVar && node.N-around >= from {
			node.N += by
			need(node.N-around >= from, api.ErrRange)
		}
		return node
	})
}

// replaced: args in place of the first variables, the last arg in place of the index 0.
func replaced(t api.Term, args []api.Term) api.Term {
	// A few nodes can become millions, so that they are counted ahead of being built.
	room := api.MaxNodes - term.Nodes(t)
	return rebuilt(t, func(node api.Term, around int) api.Term {
		at := len(args) - 1 - (node.N - around)
		if node.Kind != api.TVar || at >= len(args) {
			return node
		}
		if at < 0 {
			node.N -= len(args)
			return node
		}
		room -= term.Nodes(args[at]) - 1
		need(room >= 0, api.ErrMany)
		return shifted(args[at], around, 0)
	})
}

// pulled: variables in place of the constants of names, the first name's variable outermost.
func pulled(t api.Term, names ...string) api.Term {
	return rebuilt(t, func(node api.Term, around int) api.Term {
		switch node.Kind {
		case api.TVar:
			if node.N >= around {
				node.N += len(names)
			}
		case api.TConst:
			if at := slices.Index(names, node.Name); at >= 0 && len(node.Levels) == 0 {
				return api.Term{Kind: api.TVar, N: len(names) - 1 - at + around}
			}
		}
		return node
	})
}

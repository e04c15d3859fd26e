package move

import (
	"slices"

	"imprimatur/api"
	"imprimatur/term"
)

// Local is a constant of a name, without levels, that stands for a variable of a type.
type Local struct {
	Name string
	Type api.Term
}

// opened is what a term is opened to.
type opened struct {
	locals []Local
	body   api.Term
}

// Close: binders over a body.
func Close(t api.Term, kind int, locals ...Local) (api.Term, bool) {
	return built(func() api.Term {
		need(takesLocals(kind), api.ErrForm)
		// More binders would be nested too deep whatever is in them, and each type is searched for all names ahead of it.
		need(len(locals) <= api.MaxDeep, api.ErrMany)
		var names []string
		var types []api.Term
		for _, l := range locals {
			types = append(types, pulled(valid(l.Type), names...))
			names = append(names, l.Name)
		}
		return valid(term.Bind(kind, pulled(valid(t), names...), types...))
	})
}

// Open: a term's first binders as locals, and its body.
func Open(t api.Term, kind int, names ...string) ([]Local, api.Term, bool) {
	result, ok := built(func() opened {
		need(takesLocals(kind), api.ErrForm)
		types, body := term.Strip(valid(t), kind)
		need(len(names) <= len(types), api.ErrNone)
		body = term.Bind(kind, body, types[len(names):]...)
		// What is built has no more nodes and variables than the term has, so that it is valid.
		consts := constants(names)
		locals := make([]Local, len(names))
		for i, name := range names {
			locals[i] = Local{name, replaced(types[i], consts[:i])}
		}
		return opened{locals, replaced(body, consts)}
	})
	return result.locals, result.body, ok
}

// constants: the constants of names, of which no two are equal.
func constants(names []string) []api.Term {
	list := make([]api.Term, len(names))
	for i, name := range names {
		need(term.Word(name) && !slices.Contains(names[:i], name), api.ErrForm)
		list[i] = api.Term{Kind: api.TConst, Name: name}
	}
	return list
}

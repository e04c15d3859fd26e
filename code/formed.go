package code

import (
	"imprimatur/api"
	"imprimatur/term"
)

const (
	maxCtors = 8  // of a family
	maxFixed = 16 // the greatest Fixed of a family
)

// Formed: is a declaration well formed?
func Formed(d api.Decl) bool {
	// No term is valid for Params that are out of bounds.
	if !term.Word(d.Name) || !term.Right(d.Type, d.Params, 0) {
		return false
	}
	switch d.Kind {
	case api.DAxiom:
		return noValue(d) && noFamily(d)
	case api.DDef, api.DOpaque:
		return term.Right(d.Value, d.Params, 0) && noFamily(d)
	case api.DFamily:
		return noValue(d) && isFamily(d)
	}
	return false
}

// noValue: is the Value zero?
func noValue(d api.Decl) bool { return term.Same(d.Value, api.Term{}) }

// noFamily: is what only a family has zero?
func noFamily(d api.Decl) bool { return d.Fixed == 0 && len(d.Ctors) == 0 }

// isFamily: is what only a family has as it must be?
func isFamily(d api.Decl) bool {
	if d.Fixed < 0 || d.Fixed > maxFixed || len(d.Ctors) > maxCtors {
		return false
	}
	for _, c := range d.Ctors {
		if !term.Word(c.Name) || !term.Right(c.Type, d.Params, 0) {
			return false
		}
	}
	return true
}

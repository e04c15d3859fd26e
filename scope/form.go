package scope

import (
	"slices"

	"imprimatur/api"
	"imprimatur/level"
	"imprimatur/parse"
	"imprimatur/term"
)

const (
	maxLevels = 4  // of a name
	maxField  = 31 // the greatest index of a field that a projection may name
)

// checkForm ends the resolving at the first node that layer 12 would not have made so.
func checkForm(r parse.Raw) {
	left := api.MaxNodes
	var visit func(r parse.Raw)
	visit = func(r parse.Raw) {
		need(formed(r), r, api.ErrForm)
		// The nodes are counted on the way, as a raw term that contains itself has no end.
		left -= 1 + len(r.Levels)
		need(left >= 0, r, api.ErrForm)
		for _, arg := range r.Args {
			visit(arg)
		}
	}
	visit(r)
}

// shape: what the nodes of a kind have.
type shape struct {
	named        bool // a Name
	below        int  // N is less than this
	fewest, most int  // Levels
	args         int
}

// shapeOf: the shape of a kind's nodes. There is no N below 0, so that no node has the shape of an unknown kind, nor of a variable, as layer 12 leaves names unresolved.
func shapeOf(kind int) shape {
	switch kind {
	case api.TProp:
		return shape{below: 1}
	case api.TType:
		return shape{below: 1, fewest: 1, most: 1}
	case api.TConst:
		return shape{named: true, below: 1, most: maxLevels}
	case api.TApp:
		return shape{below: 1, args: 2}
	case api.TLam, api.TPi:
		return shape{named: true, below: 1, args: 2}
	case api.TLet:
		return shape{named: true, below: 1, args: 3}
	case api.TProj:
		return shape{named: true, below: maxField + 1, args: 1}
	}
	return shape{}
}

// formed: is a node as layer 12 makes those of its kind, whatever its Args are?
func formed(r parse.Raw) bool {
	s := shapeOf(r.Kind)
	if r.N < 0 || r.N >= s.below || len(r.Args) != s.args {
		return false
	}
	if len(r.Levels) < s.fewest || len(r.Levels) > s.most || slices.ContainsFunc(r.Levels, isWrong) {
		return false
	}
	if s.named != term.Word(r.Name) || !s.named && r.Name != "" {
		return false
	}
	return r.At >= 0 && r.At < api.MaxText
}

func isWrong(l api.Level) bool { return !level.Right(l) }

// hasValue: has a declaration a Value? Layer 12 leaves that of an axiom and of a family blank.
func hasValue(d parse.Decl) bool {
	return d.Kind == api.DDef || d.Kind == api.DOpaque || !isBlank(d.Value)
}

// isBlank: is a raw term the one that stands where there is none?
func isBlank(r parse.Raw) bool {
	return r.Kind == 0 && r.N == 0 && r.At == 0 && r.Name == "" && len(r.Levels) == 0 && len(r.Args) == 0
}

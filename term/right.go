package term

import (
	"imprimatur/api"
	"imprimatur/level"
)

const (
	maxVars   = 1 << 40 // the greatest number of variables
	maxLevels = 4       // of a constant
	fields    = 32      // more than the greatest N of a projection
)

// Right: is a term right?
func Right(t api.Term, params, vars int) bool {
	if params < 0 || params > api.MaxParams || vars < 0 || vars > maxVars {
		return false
	}
	count := 0
	for node, around := range nodes(t) {
		count += weight(node)
		// A binder too many shows in its body, around which there are too many; one that has no body does not fit in any case.
		if count > api.MaxNodes || around > api.MaxDeep || !fits(node, params, vars+around) {
			return false
		}
	}
	return true
}

// shape: what the nodes of a kind have.
type shape struct {
	below        int  // N is less than this
	named        bool // it has a Name
	fewest, most int  // Levels
	args         int
}

// shapeOf: the shape of a kind's nodes, where there are so many variables. There is no N below 0, so that nothing fits the shape of an unknown kind.
func shapeOf(kind, vars int) shape {
	switch kind {
	case api.TVar:
		return shape{below: vars}
	case api.TProp:
		return shape{below: 1}
	case api.TType:
		return shape{below: 1, fewest: 1, most: 1}
	case api.TConst:
		return shape{below: 1, named: true, most: maxLevels}
	case api.TApp, api.TLam, api.TPi:
		return shape{below: 1, args: 2}
	case api.TLet:
		return shape{below: 1, args: 3}
	case api.TProj:
		return shape{below: fields, named: true, args: 1}
	}
	return shape{}
}

// fits: has a node the form of its kind, whatever its Args are?
func fits(node api.Term, params, vars int) bool {
	s := shapeOf(node.Kind, vars)
	if node.N < 0 || node.N >= s.below || len(node.Args) != s.args {
		return false
	}
	if len(node.Levels) < s.fewest || len(node.Levels) > s.most {
		return false
	}
	for _, l := range node.Levels {
		if !level.Right(l) || level.Width(l) > params {
			return false
		}
	}
	if s.named {
		return Word(node.Name)
	}
	return node.Name == ""
}

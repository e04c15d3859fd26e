package parse

import (
	"slices"

	"imprimatur/api"
	"imprimatur/level"
	"imprimatur/term"
)

// maxField: the greatest index of a field that a projection may name.
const maxField = 31

// whole: a term that is inside no other one. How large it is comes out at its end only, so that an error inside it comes first.
func (p *parser) whole() Raw {
	at := p.at()
	r := p.term()
	if Nodes(r) > api.MaxNodes {
		panic(fault{at, api.ErrMany})
	}
	return r
}

func (p *parser) term() Raw {
	at := p.at()
	switch {
	case p.accept("fun"):
		return p.binder(api.TLam, at)
	case p.accept("all"):
		return p.binder(api.TPi, at)
	case p.accept("let"):
		return p.let(at)
	}
	return p.application()
}

// binder: what follows the word fun or all.
func (p *parser) binder(kind, at int) Raw {
	p.expect("(")
	name := p.name()
	p.expect(":")
	bound := p.term()
	p.expect(")")
	p.expect(",")
	return Raw{Kind: kind, At: at, Name: name, Args: []Raw{bound, p.term()}}
}

// let: what follows the word let.
func (p *parser) let(at int) Raw {
	name := p.name()
	p.expect(":")
	bound := p.term()
	p.expect(":=")
	value := p.term()
	p.expect("in")
	return Raw{Kind: api.TLet, At: at, Name: name, Args: []Raw{bound, value, p.term()}}
}

func (p *parser) application() Raw {
	at := p.at()
	r := p.atom()
	for beginsAtom(p.text()) {
		r = Raw{Kind: api.TApp, At: at, Args: []Raw{r, p.atom()}}
	}
	return r
}

// beginsAtom: does an atom begin with a token of these bytes?
func beginsAtom(text string) bool {
	return slices.Contains([]string{"Prop", "Type", "(", "["}, text) || term.Word(text)
}

func (p *parser) atom() Raw {
	at := p.at()
	switch {
	case p.accept("Prop"):
		return Raw{Kind: api.TProp, At: at}
	case p.accept("Type"):
		return Raw{Kind: api.TType, At: at, Levels: []api.Level{p.typeLevel()}}
	case p.accept("["):
		return p.projection(at)
	case p.accept("("):
		r := p.term()
		p.expect(")")
		return r
	}
	r := Raw{Kind: api.TConst, At: at, Name: p.name()}
	if p.accept("{") {
		r.Levels = p.levels()
	}
	return r
}

// projection: what follows its opening bracket.
func (p *parser) projection(at int) Raw {
	n := p.numberTo(maxField)
	p.expect("of")
	family := p.name()
	r := Raw{Kind: api.TProj, N: n, At: at, Name: family, Args: []Raw{p.atom()}}
	p.expect("]")
	return r
}

// typeLevel: the level behind the word Type.
func (p *parser) typeLevel() api.Level {
	if !p.accept("(") {
		return p.part(false)
	}
	l := p.level()
	p.expect(")")
	return l
}

// levels: the levels behind a name and an opening bracket.
func (p *parser) levels() []api.Level {
	list := []api.Level{p.level()}
	for len(list) < api.MaxParams && p.accept(",") {
		list = append(list, p.level())
	}
	p.expect("}")
	return list
}

func (p *parser) level() api.Level {
	parts := []api.Level{p.part(true)}
	for p.accept("|") {
		parts = append(parts, p.part(true))
	}
	return level.Max(parts...)
}

// part: a part of a level; sums tells whether a number may be added to a parameter.
func (p *parser) part(sums bool) api.Level {
	at := p.at()
	index := slices.Index([]string{"u0", "u1", "u2", "u3"}, p.text())
	if index < 0 {
		return right(level.Num(p.number()), at)
	}
	p.take()
	plus := 0
	if sums && p.accept("+") {
		plus = p.number()
	}
	return right(level.Param(index, plus), at)
}

// right: a part that begins at an offset. The only levels of parts that are not valid are those whose number is too great.
func right(part api.Level, at int) api.Level {
	if !level.Right(part) {
		panic(fault{at, api.ErrLevel})
	}
	return part
}

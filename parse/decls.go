package parse

import "imprimatur/api"

const (
	maxFixed = 16 // the greatest number behind of
	maxCtors = 8  // a family has no more constructors
)

func (p *parser) source() []Decl {
	var list []Decl
	for !p.ended() {
		if len(list) == api.MaxDecls {
			panic(fault{p.at(), api.ErrMany})
		}
		list = append(list, p.decl())
	}
	return list
}

func (p *parser) decl() Decl {
	d := Decl{Kind: declKind(p.text()), At: p.at()}
	p.need(d.Kind > 0)
	p.take()
	d.Name = p.name()
	if p.accept("@") {
		d.Params = p.numberTo(api.MaxParams)
	}
	if d.Kind == api.DFamily {
		p.expect("of")
		d.Fixed = p.numberTo(maxFixed)
	}
	p.expect(":")
	d.Type = p.whole()
	switch d.Kind {
	case api.DDef, api.DOpaque:
		p.expect(":=")
		d.Value = p.whole()
	case api.DFamily:
		if p.accept("with") {
			d.Ctors = p.ctors()
		}
	}
	p.expect(";")
	return d
}

// declKind: the kind of the declarations that begin with a word; 0 if none does.
func declKind(word string) int {
	switch word {
	case "axiom":
		return api.DAxiom
	case "def":
		return api.DDef
	case "theorem":
		return api.DOpaque
	case "family":
		return api.DFamily
	}
	return 0
}

// ctors: the constructors behind the word with.
func (p *parser) ctors() []Ctor {
	list := []Ctor{p.ctor()}
	for p.accept("|") {
		p.need(len(list) < maxCtors)
		list = append(list, p.ctor())
	}
	return list
}

func (p *parser) ctor() Ctor {
	at, name := p.at(), p.name()
	p.expect(":")
	return Ctor{Name: name, At: at, Type: p.whole()}
}

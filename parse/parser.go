package parse

import (
	"imprimatur/api"
	"imprimatur/lex"
	"imprimatur/term"
)

// parser takes tokens off the beginning of a list. Behind those of the text stands one without any bytes, which nothing of the grammar fits, so that there always is a next token.
type parser struct {
	rest []lex.Token
}

// text: the next token's bytes. They tell a word, a number and a sign from each other, so that kinds need not be asked.
func (p *parser) text() string { return p.rest[0].Text }

// at: where the next token stands, or where the text ends.
func (p *parser) at() int { return p.rest[0].At }

// ended: is there no token any more?
func (p *parser) ended() bool { return p.text() == "" }

// take: the next token's bytes, after which comes the token behind it.
func (p *parser) take() string {
	text := p.text()
	p.rest = p.rest[1:]
	return text
}

// need ends the reading at the next token if that does not fit.
func (p *parser) need(fits bool) {
	if !fits {
		panic(fault{p.at(), api.ErrForm})
	}
}

// accept takes the next token if it is a certain one, and tells whether it was.
func (p *parser) accept(text string) bool {
	if p.text() != text {
		return false
	}
	p.take()
	return true
}

// expect takes a token that must come next.
func (p *parser) expect(text string) { p.need(p.accept(text)) }

func (p *parser) name() string {
	p.need(term.Word(p.text()))
	return p.take()
}

func (p *parser) number() int {
	n, ok := lex.Number(p.text())
	p.need(ok)
	p.take()
	return n
}

// numberTo: a number with a bound; one above it does not fit.
func (p *parser) numberTo(most int) int {
	n, _ := lex.Number(p.text())
	p.need(n <= most)
	return p.number()
}

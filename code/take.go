package code

import (
	"bytes"

	"imprimatur/api"
	"imprimatur/term"
)

// TakeNum: the number at the beginning of bytes.
func TakeNum(b []byte) (int, []byte, bool) {
	return taken(b, func(r *reader) int { return r.num() })
}

// TakeTerm: the term at the beginning of bytes.
func TakeTerm(b []byte) (api.Term, []byte, bool) {
	return taken(b, func(r *reader) api.Term {
		t := r.term()
		need(term.Right(t, api.MaxParams, maxNum))
		return t
	})
}

// TakeDecl: the declaration at the beginning of bytes.
func TakeDecl(b []byte) (api.Decl, []byte, bool) {
	return taken(b, func(r *reader) api.Decl { return r.decl() })
}

// TakeLibrary: the library of bytes.
func TakeLibrary(b []byte) ([]api.Decl, bool) {
	list, _, ok := taken(b, func(r *reader) []api.Decl {
		count := r.num()
		need(count <= api.MaxDecls)
		list := make([]api.Decl, count)
		for i := range list {
			list[i] = r.decl()
		}
		need(len(r.rest) == 0)
		return list
	})
	return list, ok
}

// taken: what a closure decodes of bytes, a copy of those that it leaves, and true; zero values and false if they cannot be decoded.
func taken[T any](b []byte, decode func(*reader) T) (value T, rest []byte, ok bool) {
	defer func() {
		why := recover()
		if _, undecodable := why.(api.Errno); why != nil && !undecodable {
			panic(why)
		}
		// What could not be decoded has set no result, so that they are zero values still.
	}()
	r := reader{rest: b}
	value = decode(&r)
	return value, bytes.Clone(r.rest), true
}

// need ends what is being decoded if something that it needs does not hold.
func need(holds bool) {
	if !holds {
		panic(api.ErrForm)
	}
}

// reader takes values off the beginning of bytes. They have the form of an encoding, but may not be valid.
type reader struct {
	rest []byte // what has not been taken
	room int    // how many nodes the term that is being taken may still have
}

// cut: so many bytes, in the memory of those that are read.
func (r *reader) cut(n int) []byte {
	need(n <= len(r.rest))
	b := r.rest[:n]
	r.rest = r.rest[n:]
	return b
}

// small: a number of one byte.
func (r *reader) small() int { return int(r.cut(1)[0]) }

func (r *reader) num() int {
	digits := r.cut(r.small())
	n := 0
	for i, digit := range digits {
		// No byte more than needed; and before a number could outgrow an int, it is too great.
		need(i > 0 || digit > 0)
		n = n<<8 | int(digit)
		need(n <= maxNum)
	}
	return n
}

func (r *reader) text() string { return string(r.cut(r.num())) }

func (r *reader) level() api.Level {
	l := api.Level{Base: r.small()}
	for i := range l.Plus {
		l.Plus[i] = r.small() - 1
	}
	return l
}

func (r *reader) term() api.Term {
	r.room = api.MaxNodes
	return r.node()
}

// node: a node with its Args. A term that is too large ends here already, so that it cannot nest without a bound.
func (r *reader) node() api.Term {
	need(r.room > 0)
	r.room--
	// A Kind that there is not is taken as one without anything, which is not valid.
	t := api.Term{Kind: r.small()}
	levels, args := 0, 0
	switch t.Kind {
	case api.TVar:
		t.N = r.num()
	case api.TType:
		levels = 1
	case api.TConst:
		t.Name, levels = r.text(), r.small()
	case api.TApp, api.TLam, api.TPi:
		args = 2
	case api.TLet:
		args = 3
	case api.TProj:
		t.N, t.Name, args = r.num(), r.text(), 1
	}
	for range levels {
		t.Levels = append(t.Levels, r.level())
	}
	for range args {
		t.Args = append(t.Args, r.node())
	}
	return t
}

// decl: a declaration, which has to be well formed.
func (r *reader) decl() api.Decl {
	d := api.Decl{Kind: r.small(), Name: r.text(), Params: r.small(), Type: r.term()}
	switch d.Kind {
	case api.DDef, api.DOpaque:
		d.Value = r.term()
	case api.DFamily:
		d.Fixed = r.small()
		for range r.small() {
			d.Ctors = append(d.Ctors, api.Ctor{Name: r.text(), Type: r.term()})
		}
	}
	need(Formed(d))
	return d
}

package parse

import (
	"math/rand"
	"slices"
	"strconv"
	"strings"

	"imprimatur/api"
)

// shown: a raw term with its offsets.
func shown(r Raw) string {
	s := strings.Split("? Var Prop Type Const App Lam Pi Let Proj", " ")[min(max(r.Kind, 0), 9)] + "@" + strconv.Itoa(r.At)
	if r.Name != "" {
		s += " " + r.Name
	}
	if r.N != 0 {
		s += " " + strconv.Itoa(r.N)
	}
	for _, l := range r.Levels {
		s += " {" + strconv.Itoa(l.Base)
		for i, plus := range l.Plus {
			if plus >= 0 {
				s += " u" + strconv.Itoa(i) + "+" + strconv.Itoa(plus)
			}
		}
		s += "}"
	}
	for i, arg := range r.Args {
		s += []string{" (", ", "}[min(i, 1)] + shown(arg)
	}
	if len(r.Args) > 0 {
		s += ")"
	}
	return s
}

// written is a term's text together with the raw term that it is, whose offsets count from the text's start; atom tells that it is an atom.
type written struct {
	text string
	raw  Raw
	atom bool
}

// moved: a raw term so much further on.
func moved(r Raw, by int) Raw {
	r.At += by
	r.Levels = append([]api.Level(nil), r.Levels...)
	var args []Raw
	for _, arg := range r.Args {
		args = append(args, moved(arg, by))
	}
	r.Args = args
	return r
}

// around: pieces of text with terms between them, and the terms as they stand there.
func around(pieces []string, terms ...written) (string, []Raw) {
	text, args := pieces[0], []Raw{}
	for i, w := range terms {
		args = append(args, moved(w.raw, len(text)))
		text += w.text + pieces[i+1]
	}
	return text, args
}

func leaf(kind int, text, name string, levels ...api.Level) written {
	return written{text, Raw{Kind: kind, Name: name, Levels: levels}, true}
}

func bracketed(w written, gap string) written {
	text, args := around([]string{"(" + gap, gap + ")"}, w)
	return written{text, args[0], true}
}

// asAtom: a term as an atom, in brackets if it is none.
func asAtom(w written) written {
	if w.atom {
		return w
	}
	return bracketed(w, "")
}

func bound(kind int, name string, parts ...written) written {
	pieces := map[int][]string{
		api.TLam: {"fun (" + name + " : ", "), ", ""},
		api.TPi:  {"all (" + name + " : ", "), ", ""},
		api.TLet: {"let " + name + " : ", " := ", " in ", ""},
	}[kind]
	text, args := around(pieces, parts...)
	return written{text, Raw{Kind: kind, Name: name, Args: args}, false}
}

// applied: the text of an application of atoms.
func applied(atoms ...written) written {
	w := atoms[0]
	for _, arg := range atoms[1:] {
		text, args := around([]string{"", " ", ""}, w, arg)
		w = written{text, Raw{Kind: api.TApp, Args: args}, false}
	}
	return w
}

func projected(n int, family string, arg written) written {
	text, args := around([]string{"[" + strconv.Itoa(n) + " of " + family + " ", "]"}, arg)
	return written{text, Raw{Kind: api.TProj, N: n, Name: family, Args: args}, true}
}

// lev: a level of a number and of what is added to parameters; -1 is none.
func lev(base int, plus ...int) api.Level {
	l := api.Level{Base: base, Plus: [4]int{-1, -1, -1, -1}}
	copy(l.Plus[:], plus)
	return l
}

// leaves: terms without a term inside.
func leaves() []written {
	return []written{
		leaf(api.TProp, "Prop", ""),
		leaf(api.TType, "Type 0", "", lev(0)),
		leaf(api.TType, "Type 100", "", lev(100)),
		leaf(api.TType, "Type u3", "", lev(0, -1, -1, -1, 0)),
		leaf(api.TType, "Type (u0+1 | 3|u1)", "", lev(3, 1, 0)),
		leaf(api.TConst, "a", "a"),
		leaf(api.TConst, "nat.rec", "nat.rec"),
		leaf(api.TConst, "u4", "u4"),
		leaf(api.TConst, "f{0}", "f", lev(0)),
		leaf(api.TConst, "f{u1+7, 2 | u1, u0 | u0+1}", "f", lev(7, -1, 7), lev(2, -1, 0), lev(1, 1)),
		leaf(api.TConst, "g {0,1,2,u2+100}", "g", lev(0), lev(1), lev(2), lev(100, -1, -1, 100)),
	}
}

// someName: a name, a long one now and then.
func someName(r *rand.Rand) string {
	names := []string{"x", "y", "A", "nat", "nat.succ", "a.b.c", "Pro", "prop", "functor", "u", "u4", "u00", "In", "x_1", strings.Repeat("n", 32)}
	return names[r.Intn(len(names))]
}

// someTerm: any term with so many terms inside it, more or less.
func someTerm(r *rand.Rand, size int) written {
	if size <= 0 {
		return leaves()[r.Intn(len(leaves()))]
	}
	inner := func() written { return someTerm(r, r.Intn(size)) }
	var w written
	switch r.Intn(7) {
	case 0:
		w = bound(api.TLam, someName(r), inner(), inner())
	case 1:
		w = bound(api.TPi, someName(r), inner(), inner())
	case 2:
		w = bound(api.TLet, someName(r), inner(), inner(), inner())
	case 3:
		w = projected(r.Intn(32), someName(r), asAtom(inner()))
	case 4:
		w = bracketed(inner(), []string{"", " ", "\n", "--(\n"}[r.Intn(4)])
	default:
		atoms := []written{asAtom(inner()), asAtom(inner())}
		for range r.Intn(3) {
			atoms = append(atoms, asAtom(inner()))
		}
		w = applied(atoms...)
	}
	return w
}

// someDecl: any declaration, with offsets as in someTerm.
func someDecl(r *rand.Rand, size int) (string, Decl) {
	d := Decl{Kind: 1 + r.Intn(4), Name: someName(r)}
	text := []string{"", "axiom ", "def ", "theorem ", "family "}[d.Kind] + d.Name
	if r.Intn(2) == 0 {
		d.Params = r.Intn(5)
		text += " @ " + strconv.Itoa(d.Params)
	}
	if d.Kind == api.DFamily {
		d.Fixed = r.Intn(17)
		text += " of " + strconv.Itoa(d.Fixed)
	}
	add := func(w written) Raw {
		raw := moved(w.raw, len(text))
		text += w.text
		return raw
	}
	text += " : "
	d.Type = add(someTerm(r, size))
	switch d.Kind {
	case api.DDef, api.DOpaque:
		text += " := "
		d.Value = add(someTerm(r, size))
	case api.DFamily:
		for i := range r.Intn(9) {
			text += []string{" with ", " | "}[min(i, 1)]
			c := Ctor{Name: someName(r), At: len(text)}
			text += c.Name + ":"
			c.Type = add(someTerm(r, size))
			d.Ctors = append(d.Ctors, c)
		}
	}
	return text + ";", d
}

// movedDecl: a declaration so much further on.
func movedDecl(d Decl, by int) Decl {
	d.At += by
	d.Type = moved(d.Type, by)
	if d.Value.Kind > 0 {
		d.Value = moved(d.Value, by)
	}
	d.Ctors = slices.Clone(d.Ctors)
	for i := range d.Ctors {
		d.Ctors[i].At += by
		d.Ctors[i].Type = moved(d.Ctors[i].Type, by)
	}
	return d
}

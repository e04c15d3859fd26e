package show

import (
	"strconv"
	"strings"

	"imprimatur/api"
	"imprimatur/level"
	"imprimatur/term"
)

// writer is a text that comes to be. It takes only what has a text.
type writer struct {
	strings.Builder
	names []string // of the binders of the term that is being written, by the number of binders around each
}

// put writes texts, one directly behind the other.
func (w *writer) put(texts ...string) {
	for _, text := range texts {
		w.WriteString(text)
	}
}

func (w *writer) decl(d api.Decl) {
	w.put(keyword(d.Kind), " ", d.Name)
	if d.Params != 0 {
		w.put(" @", strconv.Itoa(d.Params))
	}
	if d.Kind == api.DFamily {
		w.put(" of ", strconv.Itoa(d.Fixed))
	}
	w.put(" : ")
	w.whole(d.Type)
	if d.Kind == api.DDef || d.Kind == api.DOpaque {
		w.put(" := ")
		w.whole(d.Value)
	}
	ahead := " with "
	for _, c := range d.Ctors {
		w.put(ahead, c.Name, " : ")
		w.whole(c.Type)
		ahead = " | "
	}
	w.put(";")
}

// keyword: the word that the declarations of a kind begin with.
func keyword(kind int) string {
	switch kind {
	case api.DAxiom:
		return "axiom"
	case api.DDef:
		return "def"
	case api.DOpaque:
		return "theorem"
	}
	return "family"
}

// whole writes a term that is inside no other one.
func (w *writer) whole(t api.Term) {
	// The binders around a binder have exactly the free names ahead of its own, so that their number tells which one that is.
	w.names = Fresh(api.MaxDeep, term.Consts(t)...)
	w.term(t, 0)
}

// term writes a term with so many binders around it.
func (w *writer) term(t api.Term, around int) {
	switch t.Kind {
	case api.TLam:
		w.binder("fun", t, around)
	case api.TPi:
		w.binder("all", t, around)
	case api.TLet:
		w.let(t, around)
	default:
		w.application(t, around)
	}
}

// binder writes a TLam or a TPi, which begins with a word.
func (w *writer) binder(word string, t api.Term, around int) {
	w.put(word, " (", w.names[around], " : ")
	w.term(t.Args[0], around)
	w.put("), ")
	w.term(t.Args[1], around+1)
}

func (w *writer) let(t api.Term, around int) {
	w.put("let ", w.names[around], " : ")
	w.term(t.Args[0], around)
	w.put(" := ")
	w.term(t.Args[1], around)
	w.put(" in ")
	w.term(t.Args[2], around+1)
}

// application writes one or more atoms.
func (w *writer) application(t api.Term, around int) {
	if t.Kind != api.TApp {
		w.atom(t, around)
		return
	}
	w.application(t.Args[0], around)
	w.put(" ")
	w.atom(t.Args[1], around)
}

func (w *writer) atom(t api.Term, around int) {
	switch t.Kind {
	case api.TVar:
		w.put(w.names[around-1-t.N])
	case api.TProp:
		w.put("Prop")
	case api.TType:
		w.put("Type ", typeLevel(t.Levels[0]))
	case api.TConst:
		w.put(t.Name, levels(t.Levels))
	case api.TProj:
		w.put("[", strconv.Itoa(t.N), " of ", t.Name, " ")
		w.atom(t.Args[0], around)
		w.put("]")
	default:
		w.put("(")
		w.term(t, around)
		w.put(")")
	}
}

// typeLevel: the text of a level behind the word Type.
func typeLevel(l api.Level) string {
	text := level.String(l)
	if strings.ContainsAny(text, "+|") {
		return "(" + text + ")"
	}
	return text
}

// levels: the text of the levels behind a name.
func levels(list []api.Level) string {
	if len(list) == 0 {
		return ""
	}
	texts := make([]string, len(list))
	for i, l := range list {
		texts[i] = level.String(l)
	}
	return "{" + strings.Join(texts, ", ") + "}"
}

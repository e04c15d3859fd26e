package parse

import (
	"reflect"
	"slices"
	"strconv"
	"strings"
	"testing"

	"imprimatur/api"
	"imprimatur/lex"
	"imprimatur/term"
)

// The chapter's words written once more. The grammar stands as a table; an error is where no way through it goes on (plainError). What a text without an error says is found by its brackets (plainTree, plainDecl).

// grammar: what each part may be. A part in capitals has a line of its own; name, number, param and to.. are kinds of tokens; a word with an underscore ahead is no token: there something is looked at.
func grammar() map[string][][]string {
	rules := map[string][]string{
		"SOURCE": {"", "DECL SOURCE"},
		"DECL":   {"axiom HEAD ;", "def HEAD := WHOLE ;", "theorem HEAD := WHOLE ;", "family name PARAMS of to16 : WHOLE WITH ;"},
		"HEAD":   {"name PARAMS : WHOLE"},
		"PARAMS": {"", "@ to4"},
		"WITH":   {"", "with CTOR MORE7"},
		"CTOR":   {"name : WHOLE"},
		"MORE0":  {"", "| none"},
		"WHOLE":  {"TERM _whole"},
		"TERM":   {"fun ( name : TERM ) , TERM", "all ( name : TERM ) , TERM", "let name : TERM := TERM in TERM", "ATOM ATOMS"},
		"ATOMS":  {"", "ATOM ATOMS"},
		"ATOM":   {"Prop", "Type SORT", "name", "name { LEVEL NEXT3 }", "( TERM )", "[ to31 of name ATOM ]"},
		"SORT":   {"NUMBER", "param", "( LEVEL )"},
		"LEVEL":  {"PART PARTS"},
		"PARTS":  {"", "| PART PARTS"},
		"PART":   {"NUMBER", "param", "SUM"},
		"NUMBER": {"number _part"},
		"SUM":    {"param + number _part"},
		"NEXT0":  {""},
	}
	for n := 1; n < 8; n++ {
		rules["MORE"+strconv.Itoa(n)] = []string{"", "| CTOR MORE" + strconv.Itoa(n-1)}
		rules["NEXT"+strconv.Itoa(n)] = []string{"", ", LEVEL NEXT" + strconv.Itoa(n-1)}
	}
	parts := map[string][][]string{}
	for part, choices := range rules {
		for _, choice := range choices {
			parts[part] = append(parts[part], strings.Fields(choice))
		}
	}
	return parts
}

// rules: the grammar, made once for all tests.
var rules = grammar()

// fits: is a token of this kind of the grammar?
func fits(kind string, token lex.Token) bool {
	n, err := strconv.Atoi(token.Text)
	number := err == nil
	switch {
	case kind == "name":
		return term.Word(token.Text)
	case kind == "number":
		return number
	case kind == "param":
		return len(token.Text) == 2 && strings.Contains(" u0 u1 u2 u3 ", " "+token.Text+" ")
	case kind == "none":
		return false
	case strings.HasPrefix(kind, "to"):
		most, _ := strconv.Atoi(kind[2:])
		return number && n <= most || kind == token.Text
	}
	return kind == token.Text
}

// way: what is still to come on a way through the grammar, the next thing first; from tells with which token the part that it is of began.
type way struct {
	what string
	from int
	then *way
}

// ahead: the ways on from one, up to the next token that each asks for; ended: the first token of a whole term that ended on it, or -1.
type ahead struct {
	at    *way
	ended int
}

type walker struct {
	list  []lex.Token
	wrong int // the first token of a part whose number is too great, or -1
}

func (w *walker) on(a ahead, i int) []ahead {
	if a.at == nil || rules[a.at.what] == nil && a.at.what[0] != '_' {
		return []ahead{a}
	}
	top := a.at
	switch top.what {
	case "_whole":
		return w.on(ahead{top.then, top.from}, i)
	case "_part":
		if n, _ := strconv.Atoi(w.list[i-1].Text); n > 100 {
			w.wrong = top.from
		}
		return w.on(ahead{top.then, a.ended}, i)
	}
	var all []ahead
	for _, parts := range rules[top.what] {
		next := top.then
		for k := len(parts) - 1; k >= 0; k-- {
			next = &way{parts[k], i, next}
		}
		all = append(all, w.on(ahead{next, a.ended}, i)...)
	}
	return all
}

// plainError: the first error of tokens, by the grammar.
func plainError(start string, list []lex.Token, end int) (int, api.Errno) {
	w := &walker{list, -1}
	ways := []*way{{what: start}}
	semicolons := 0
	for i := 0; i <= len(list); i++ {
		var all []ahead
		for _, one := range ways {
			all = append(all, w.on(ahead{one, -1}, i)...)
		}
		if w.wrong >= 0 {
			return list[w.wrong].At, api.ErrLevel
		}
		if start == "SOURCE" && i < len(list) && semicolons == 64 {
			return list[i].At, api.ErrMany
		}
		var inside, behind []*way
		done, whole := false, -1
		for _, a := range all {
			if a.ended >= 0 {
				whole = a.ended
			}
			switch {
			case a.at == nil:
				done = done || i == len(list)
			case i < len(list) && fits(a.at.what, list[i]) && a.ended < 0:
				inside = append(inside, a.at.then)
			case i < len(list) && fits(a.at.what, list[i]):
				behind = append(behind, a.at.then)
			}
		}
		ways = inside
		if len(inside) == 0 {
			if whole >= 0 && plainNodes(plainTree(list[whole:i])) > 3000 {
				return list[whole].At, api.ErrMany
			}
			ways = behind
		}
		switch {
		case done:
			return 0, api.OK
		case i == len(list):
			return end, api.ErrForm
		case len(ways) == 0:
			return list[i].At, api.ErrForm
		}
		if list[i].Text == ";" {
			semicolons++
		}
	}
	panic("no end")
}

// shut: where the bracket is closed that is opened at a place.
func shut(list []lex.Token, at int) int {
	depth := 0
	for i := at; ; i++ {
		switch list[i].Text {
		case "(", "[", "{":
			depth++
		case ")", "]", "}":
			depth--
		}
		if depth == 0 {
			return i
		}
	}
}

// part: where a token stands that ends a part that begins at a place; each let that begins in between has such a token of its own. At the list's end, if there is none.
func part(list []lex.Token, from int, text string) int {
	lets := 0
	for i := from; i < len(list); i++ {
		switch {
		case list[i].Text == "let":
			lets++
		case list[i].Text == text && lets == 0:
			return i
		case list[i].Text == text:
			lets--
		}
	}
	return len(list)
}

// plainTree: the raw term of tokens that are one.
func plainTree(list []lex.Token) Raw {
	first := list[0]
	switch first.Text {
	case "fun", "all":
		end := shut(list, 1)
		kind := map[string]int{"fun": api.TLam, "all": api.TPi}[first.Text]
		return Raw{Kind: kind, At: first.At, Name: list[2].Text, Args: []Raw{plainTree(list[4:end]), plainTree(list[end+2:])}}
	case "let":
		middle := part(list, 3, ":=")
		end := part(list, middle+1, "in")
		return Raw{Kind: api.TLet, At: first.At, Name: list[1].Text, Args: []Raw{plainTree(list[3:middle]), plainTree(list[middle+1 : end]), plainTree(list[end+1:])}}
	}
	var r Raw
	for i := 0; i < len(list); {
		end := i + 1
		if list[i].Text == "Type" {
			end++
		}
		last := end - 1
		if list[last].Text == "(" || list[last].Text == "[" {
			end = shut(list, last) + 1
		} else if last == i && end < len(list) && list[end].Text == "{" {
			end = shut(list, end) + 1
		}
		atom := plainAtom(list[i:end])
		if i == 0 {
			r = atom
		} else {
			r = Raw{Kind: api.TApp, At: first.At, Args: []Raw{r, atom}}
		}
		i = end
	}
	return r
}

func plainAtom(list []lex.Token) Raw {
	first, last := list[0], len(list)-1
	switch first.Text {
	case "Prop":
		return Raw{Kind: api.TProp, At: first.At}
	case "Type":
		return Raw{Kind: api.TType, At: first.At, Levels: plainLevels(list[1:])}
	case "(":
		return plainTree(list[1:last])
	case "[":
		n, _ := strconv.Atoi(list[1].Text)
		return Raw{Kind: api.TProj, N: n, At: first.At, Name: list[3].Text, Args: []Raw{plainAtom(list[4:last])}}
	}
	return Raw{Kind: api.TConst, At: first.At, Name: first.Text, Levels: plainLevels(list[1:])}
}

// plainLevels: the levels of tokens, whatever brackets stand around them.
func plainLevels(list []lex.Token) []api.Level {
	var levels []api.Level
	fresh, param, n := true, -1, 0
	for i, token := range list {
		if strings.Contains("( { ,", token.Text) {
			fresh = true
			continue
		}
		if strings.Contains(") } | +", token.Text) {
			continue
		}
		if fresh {
			levels = append(levels, api.Level{Plus: [4]int{-1, -1, -1, -1}})
			fresh = false
		}
		l := &levels[len(levels)-1]
		if token.Text[0] == 'u' {
			param, n = int(token.Text[1]-'0'), 0
		} else {
			n, _ = strconv.Atoi(token.Text)
			if i == 0 || list[i-1].Text != "+" {
				param = -1
			}
		}
		l.Base = max(l.Base, n)
		if param >= 0 {
			l.Plus[param] = max(l.Plus[param], n)
		}
	}
	return levels
}

// plainDecl: the declaration of tokens that are one, without the semicolon.
func plainDecl(list []lex.Token) Decl {
	d := Decl{Kind: map[string]int{"axiom": 1, "def": 2, "theorem": 3, "family": 4}[list[0].Text], At: list[0].At, Name: list[1].Text}
	i := 2
	for ; list[i].Text != ":"; i += 2 {
		n, _ := strconv.Atoi(list[i+1].Text)
		if list[i].Text == "@" {
			d.Params = n
		} else {
			d.Fixed = n
		}
	}
	rest := list[i+1:]
	middle := part(rest, 0, ":=")
	if with := slices.IndexFunc(rest, func(token lex.Token) bool { return token.Text == "with" }); with >= 0 {
		middle = with
	}
	d.Type = plainTree(rest[:middle])
	if middle == len(rest) {
		return d
	}
	if rest[middle].Text == ":=" {
		d.Value = plainTree(rest[middle+1:])
		return d
	}
	for rest = rest[middle:]; len(rest) > 0; {
		end := 1
		for end < len(rest) && rest[end].Text != "|" {
			if strings.Contains("([{", rest[end].Text) {
				end = shut(rest, end)
			}
			end++
		}
		d.Ctors = append(d.Ctors, Ctor{rest[1].Text, rest[1].At, plainTree(rest[3:end])})
		rest = rest[end:]
	}
	return d
}

func plainNodes(r Raw) int {
	n := 0
	for rest := []Raw{r}; len(rest) > 0; {
		last := rest[len(rest)-1]
		rest = append(rest[:len(rest)-1], last.Args...)
		n += len(last.Levels) + 1
	}
	return n
}

func plainTerm(text string) (Raw, int, api.Errno) {
	list, at, e := lex.Scan(text)
	if e == 0 {
		at, e = plainError("WHOLE", list, len(text))
	}
	if e != 0 {
		return Raw{}, at, e
	}
	return plainTree(list), 0, 0
}

func plainSource(text string) ([]Decl, int, api.Errno) {
	list, at, e := lex.Scan(text)
	if e == 0 {
		at, e = plainError("SOURCE", list, len(text))
	}
	if e != 0 {
		return nil, at, e
	}
	var all []Decl
	for len(list) > 0 {
		end := 0
		for list[end].Text != ";" {
			end++
		}
		all = append(all, plainDecl(list[:end]))
		list = list[end+1:]
	}
	return all, 0, 0
}

func short(text string) string {
	if len(text) > 300 {
		return text[:200] + " .. " + text[len(text)-100:]
	}
	return text
}

// reads: Term and Source answer what the chapter's words say.
func reads(t *testing.T, text string) {
	t.Helper()
	r, at, e := Term(text)
	wantR, wantAt, wantE := plainTerm(text)
	if at != wantAt || e != wantE || !reflect.DeepEqual(r, wantR) {
		t.Fatalf("Term of %q: at %d, error %d, not at %d, %d\n%v\n%v", short(text), at, e, wantAt, wantE, shown(r), shown(wantR))
	}
	list, at, e := Source(text)
	wantList, wantAt, wantE := plainSource(text)
	if at != wantAt || e != wantE || !reflect.DeepEqual(list, wantList) {
		t.Fatalf("Source of %q: at %d, error %d, not at %d, %d", short(text), at, e, wantAt, wantE)
	}
}

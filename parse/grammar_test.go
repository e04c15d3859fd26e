package parse

import (
	"math/rand"
	"slices"
	"strings"
	"testing"

	"imprimatur/api"
	"imprimatur/lex"
	"imprimatur/term"
)

// alphabet: tokens that stand for all others.
func alphabet() []string {
	return strings.Fields("Prop Type fun all let in of with axiom def theorem family u0 u3 u4 x a.b x. 0 4 5 16 17 31 32 100 101 ( ) [ ] { } , ; | + @ : :=")
}

// sentences: each production of the grammar, in terms and in sources.
func sentences() []string {
	return []string{
		"axiom p @ 1 : fun ( x : a ) , all ( y : b ) , c ;",
		"def p : let x : a := b in c := let x : a := let y : a := b in c in d ;",
		"theorem p : Prop := [ 3 of s ( f x ) ] Type ( u0 + 1 | 3 ) y ; axiom q : a ;",
		"family n @ 2 of 1 : a with c : b { 0 , u1 | 2 , u2 + 3 , 4 } | d : Type 0 | e : Type u0 ( a ) ;",
		"fun ( x : all ( y : ( a ) b ) , ( c ) ) , let z : [ 0 of s a { 0 } ] := Type u3 in f ( Type 9 ) ( fun ( x : a ) , b ) c",
	}
}

// P12.1: after each beginning of each production, every token, and what follows it.
func TestEveryTokenEverywhere(t *testing.T) {
	for _, sentence := range sentences() {
		reads(t, sentence)
		tokens := strings.Fields(sentence)
		for i := range len(tokens) + 1 {
			before := strings.Join(tokens[:i], " ")
			reads(t, before)
			for _, token := range alphabet() {
				reads(t, before+" "+token)
				reads(t, before+" "+token+" "+strings.Join(tokens[i:], " "))
				if i < len(tokens) {
					reads(t, before+"  "+token+" "+strings.Join(tokens[i+1:], "\n"))
				}
			}
		}
	}
}

// P12.1: every token after every short beginning that fits.
func TestEveryShortText(t *testing.T) {
	letters := strings.Fields("Prop Type fun let in u0 x x. 0 101 ( ) [ ] { } , | + : :=")
	var walk func(start, text string, depth int)
	walk = func(start, text string, depth int) {
		reads(t, text)
		if depth == 0 || !goesOn(start, text) {
			return
		}
		for _, token := range letters {
			walk(start, text+" "+token, depth-1)
		}
	}
	walk("WHOLE", "", 5)
	walk("SOURCE", "axiom p :", 3)
	walk("SOURCE", "family n of 0 : a with c : a", 3)
	walk("SOURCE", "theorem p @ 4", 3)
}

// goesOn: is there no error in a text, but perhaps for what is missing?
func goesOn(start, text string) bool {
	list, _, _ := lex.Scan(text)
	at, e := plainError(start, list, len(text))
	return e == api.OK || at == len(text)
}

// changed: tokens of which some were lost, doubled, swapped, or became others.
func changed(r *rand.Rand, tokens []string) []string {
	tokens = append([]string(nil), tokens...)
	for range 1 + r.Intn(2) {
		i, j := r.Intn(len(tokens)), r.Intn(len(tokens))
		switch r.Intn(6) {
		case 0:
			tokens[i] = alphabet()[r.Intn(len(alphabet()))]
		case 1:
			tokens[i] += " " + alphabet()[r.Intn(len(alphabet()))]
		case 2:
			tokens[i] = ""
		case 3:
			tokens[i], tokens[j] = tokens[j], tokens[i]
		case 4:
			tokens[i] += " " + tokens[j]
		default:
			tokens = tokens[:i+1]
		}
	}
	return tokens
}

// P12.1: texts that are wrong in one place or two.
func TestChangedTexts(t *testing.T) {
	r := rand.New(rand.NewSource(3))
	for range 6000 {
		text := someTerm(r, r.Intn(5)).text
		if r.Intn(2) == 0 {
			text, _ = someDecl(r, r.Intn(3))
			more, _ := someDecl(r, 1)
			text += more
		}
		list, _, _ := lex.Scan(text)
		var tokens []string
		for _, token := range list {
			tokens = append(tokens, token.Text)
		}
		reads(t, strings.Join(changed(r, tokens), []string{" ", "  ", "\n", " --:\n"}[r.Intn(4)]))
	}
}

// P12.1: a word is a name exactly if layer 8 says so, wherever one is asked.
func TestNames(t *testing.T) {
	words := strings.Fields("Prop Type fun all let in of with axiom def theorem family u0 u1 u2 u3 u4 u u00 U0 prop PROP Fun x.fun fun.x Prop.a in.in a. a.. a..b a.b.c a.1 a.b1 a._b a_ a_.b_ x1 a.b. Z z")
	for _, n := range []int{1, 31, 32, 33, 34, 1000} {
		words = append(words, strings.Repeat("n", n), "a."+strings.Repeat("n", n), strings.Repeat("n", n)+".a")
	}
	onlyNames := []string{"fun ($ : a), b", "all ($ : a), b", "let $ : a := b in c", "[0 of $ a]", "axiom $ : a;", "def $ : a := b;", "theorem $ @1 : a := b;", "family $ of 1 : a;", "family n of 1 : a with $ : b;", "family n of 1 : a with c : a | $ : b;"}
	terms := []string{"$", "f $", "f $ x", "($)", "${0}", "fun (x : $), b", "fun (x : a), $", "let x : a := $ in b", "[0 of s $]", "axiom p : $;", "def p : $ := b;", "def p : a := $;", "family n of 1 : a with c : $;"}
	for _, word := range words {
		for i, frame := range append(onlyNames, terms...) {
			text, at := strings.Replace(frame, "$", word, 1), strings.Index(frame, "$")
			reads(t, text)
			if i >= len(onlyNames) && slices.Contains(strings.Fields("Prop Type fun all let"), word) {
				continue // a term may begin with it
			}
			_, wrongAt, e := Term(text)
			if strings.HasSuffix(frame, ";") {
				_, wrongAt, e = Source(text)
			}
			if want := map[bool]int{true: 0, false: at}[term.Word(word)]; wrongAt != want || (e == api.OK) != term.Word(word) || e != api.OK && e != api.ErrForm {
				t.Errorf("%q: at %d, error %d", text, wrongAt, e)
			}
		}
	}
}

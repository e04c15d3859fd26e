package parse

import (
	"math/rand"
	"strings"
	"testing"

	"imprimatur/api"
)

// anyText: bytes of all kinds, or tokens in any order.
func anyText(r *rand.Rand) string {
	switch r.Intn(4) {
	case 0:
		b := make([]byte, r.Intn(50))
		r.Read(b)
		return string(b)
	case 1:
		b := make([]byte, r.Intn(50))
		for i := range b {
			b[i] = byte(32 + r.Intn(95))
		}
		return string(b)
	default:
		var tokens []string
		for range r.Intn(12) {
			tokens = append(tokens, alphabet()[r.Intn(len(alphabet()))])
		}
		return strings.Join(tokens, []string{"", " ", "\n"}[r.Intn(3)])
	}
}

// P1: each function answers as its chapter says, whatever it is given.
func TestAnyArguments(t *testing.T) {
	r := rand.New(rand.NewSource(4))
	for range 30000 {
		reads(t, anyText(r))
	}
}

// anyRaw: a raw term with fields of all kinds.
func anyRaw(r *rand.Rand, size int) Raw {
	raw := Raw{Kind: r.Intn(12) - 1, N: int(r.Uint64()), At: int(r.Uint64()), Name: anyText(r)}
	for range r.Intn(4) {
		raw.Levels = append(raw.Levels, api.Level{Base: int(r.Uint64())})
	}
	for size > 0 && r.Intn(4) > 0 {
		inner := r.Intn(size)
		raw.Args = append(raw.Args, anyRaw(r, inner))
		size -= inner + 1
	}
	return raw
}

// P1: Nodes counts whatever it is given.
func TestAnyNodes(t *testing.T) {
	r := rand.New(rand.NewSource(5))
	for range 5000 {
		raw := anyRaw(r, r.Intn(40))
		if got := Nodes(raw); got != plainNodes(raw) {
			t.Fatal(got, shown(raw))
		}
	}
}

// P1: brackets, binders, applications and levels as deep and as long as a text allows.
func TestDeep(t *testing.T) {
	fill := func(piece string) string { return strings.Repeat(piece, 65536/len(piece)) }
	for _, piece := range []string{"(", "a(", "((a)", "fun(x:", "fun(x:a),", "all(x:", "all(x:a),", "let x:", "let x:a:=", "let x:a:=b in ", "[0of s", "[0of s ", "f[0of s(", "[0of s(", "Type(", "a{", "(Type 0"} {
		text := fill(piece)
		_, at, e := Term(text)
		wantAt, wantE := len(text), api.ErrForm
		switch piece {
		case "Type(":
			wantAt = 5
		case "a{":
			wantAt = 2
		}
		if at != wantAt || e != wantE {
			t.Error(piece, at, e)
		}
		source := "axiom p:" + text[:65000/len(piece)*len(piece)]
		if _, at, e := Source(source); at != min(len(source), wantAt+8) || e != wantE {
			t.Error(piece, at, e)
		}
	}
	half := strings.Repeat("(", 32767)
	if r, at, e := Term(half + "a" + strings.Repeat(")", 32767)); at != 0 || e != 0 || shown(r) != "Const@32767 a" {
		t.Error(at, e)
	}
	noTerm(t, half+"a"+strings.Repeat(")", 32768), 65535, api.ErrForm)
	noTerm(t, half+"a"+strings.Repeat(")", 32766), 65534, api.ErrForm)
	noTerm(t, half+strings.Repeat(")", 32767), 32767, api.ErrForm)
	noTerm(t, fill("a "), 0, api.ErrMany)
	noTerm(t, fill("a ")[:65535]+")", 0, api.ErrMany)
	// As large as a term may be.
	for text, nodes := range map[string]int{strings.Repeat("fun(x:a),", 1499) + "a": 2999, strings.Repeat("fun(x:", 1499) + "a" + strings.Repeat("),a", 1499): 2999, strings.Repeat("a(", 1499) + "a" + strings.Repeat(")", 1499): 2999, strings.Repeat("[0of s(", 2999) + "a" + strings.Repeat(")]", 2999): 3000} {
		if r, at, e := Term(text); at != 0 || e != 0 || Nodes(r) != nodes {
			t.Error(short(text), at, e)
		}
	}
	for _, piece := range []string{"|0", "|u0+1", "|101"} {
		text := "Type(0" + strings.Repeat(piece, 65000/len(piece)) + ")"
		r, at, e := Term(text)
		if piece == "|101" {
			noTerm(t, text, 7, api.ErrLevel)
		} else if at != 0 || e != 0 || Nodes(r) != 2 {
			t.Error(piece, at, e)
		}
	}
}

package lex

import (
	"math/rand"
	"strings"
	"testing"

	"imprimatur/api"
)

// P11.1: the kinds have these numbers.
func TestKinds(t *testing.T) {
	if Word != 1 || NumberKind != 2 || Sign != 3 {
		t.Error(Word, NumberKind, Sign)
	}
}

// P11.1: ordinary texts.
func TestScanOrdinary(t *testing.T) {
	tokens(t, "def a := x", w("def", 0), w("a", 4), s(":=", 6), w("x", 9))
	tokens(t, "")
	tokens(t, " \n  \n\n ")
	tokens(t, "all (a : Prop), a", w("all", 0), s("(", 4), w("a", 5), s(":", 7), w("Prop", 9), s(")", 13), s(",", 14), w("a", 16))
	tokens(t, "x{u0+1|20}\n@2;[0 of p f]",
		w("x", 0), s("{", 1), w("u0", 2), s("+", 4), n("1", 5), s("|", 6), n("20", 7), s("}", 9),
		s("@", 11), n("2", 12), s(";", 13), s("[", 14), n("0", 15), w("of", 17), w("p", 20), w("f", 22), s("]", 23))
	tokens(t, " a -- what a is := 007 \n:b--", w("a", 1), s(":", 24), w("b", 25))
}

// P11.1: a word is a letter, followed by letters, digits, underscores and points, as many as there are.
func TestScanWords(t *testing.T) {
	for _, text := range []string{
		"a", "z", "A", "Z", "m", "M", "ab", "aB", "a0", "a9", "a_", "a.", "a..", "a._", "a_.0", "nat.rec", "x1.2_y.", "Type", "u0", "fun",
		"abcdefghijklmnopqrstuvwxyzABCDEFGHIJKLMNOPQRSTUVWXYZ0123456789_.", "a0000000", "a1234567", strings.Repeat("w", 33), strings.Repeat("w.", 1<<15),
	} {
		tokens(t, text, w(text, 0))
		tokens(t, text[:len(text)-1]+"x", w(text[:len(text)-1]+"x", 0))
		scans(t, text+":")
		scans(t, ")"+text)
	}
	tokens(t, "a b.c d. e", w("a", 0), w("b.c", 2), w("d.", 6), w("e", 9))
	tokens(t, "a--b", w("a", 0))
	for _, text := range []string{"_", "_a", ".", ".a", "__", "..", "_0"} {
		fails(t, text, 0)
		fails(t, "a "+text, 2)
		fails(t, "7"+text, 1)
		fails(t, ":"+text, 1)
	}
}

// P11.1: a number has at most 6 digits and no leading zeros; a sequence of digits that is none is an error at its start.
func TestScanNumbers(t *testing.T) {
	for _, text := range []string{"0", "1", "9", "10", "90", "99", "100", "101", "12345", "100000", "123456", "900000", "999999"} {
		tokens(t, text, n(text, 0))
		tokens(t, "+"+text+" ", s("+", 0), n(text, 1))
		tokens(t, text+" "+text, n(text, 0), n(text, len(text)+1))
		tokens(t, text+"x1", n(text, 0), w("x1", len(text)))
		tokens(t, "x"+text, w("x"+text, 0))
		tokens(t, text+"+"+text, n(text, 0), s("+", len(text)), n(text, len(text)+1))
		fails(t, text+"_", len(text))
		fails(t, text+".", len(text))
	}
	for _, text := range []string{"00", "01", "09", "000", "007", "0123456", "000000", "012345", "1000000", "1234567", "9999999", "12345678", "0000001", strings.Repeat("1", 20), strings.Repeat("0", 65536)} {
		fails(t, text, 0)
		if len(text) < 100 {
			fails(t, text+"x", 0)
			fails(t, "a := "+text+" ;", 5)
			fails(t, "0 1\n"+text+";", 4)
			tokens(t, "x"+text, w("x"+text, 0))
			tokens(t, "--"+text)
		}
	}
	tokens(t, "0x7", n("0", 0), w("x7", 1))
	tokens(t, "1e5 2", n("1", 0), w("e5", 1), n("2", 4))
}

// P11.1: each sign alone and beside each other, with and without a gap.
func TestScanSigns(t *testing.T) {
	for _, a := range signs {
		tokens(t, a, s(a, 0))
		tokens(t, "x"+a+"y", w("x", 0), s(a, 1), w("y", 1+len(a)))
		tokens(t, "7"+a+"8", n("7", 0), s(a, 1), n("8", 1+len(a)))
		tokens(t, a+"--"+a, s(a, 0))
		for _, b := range signs {
			tokens(t, a+b, s(a, 0), s(b, len(a)))
			tokens(t, a+" "+b, s(a, 0), s(b, len(a)+1))
			tokens(t, a+"\n"+b, s(a, 0), s(b, len(a)+1))
			tokens(t, a+"--\n"+b, s(a, 0), s(b, len(a)+3))
		}
		if a != ":" {
			fails(t, a+"=", len(a))
		}
		fails(t, "="+a, 0)
		fails(t, a+" = ", len(a)+1)
	}
	tokens(t, "::", s(":", 0), s(":", 1))
	tokens(t, "::=", s(":", 0), s(":=", 1))
	tokens(t, ":=:", s(":=", 0), s(":", 2))
	fails(t, ": =", 2)
	fails(t, ":\n=", 2)
	fails(t, ":==", 2)
	fails(t, "=", 0)
	fails(t, "a = b", 2)
	fails(t, "=:", 0)
	for _, c := range "!\"#$%&'*/<=>?\\^_`~." {
		fails(t, "a "+string(c), 2)
	}
}

// P11.1: a comment starts with two hyphens and extends to the next line feed or to the end of the text.
func TestScanComments(t *testing.T) {
	for _, text := range []string{"--", "---", "----", "-----", "-- ", "--a", "-- a := 007 _ = - ~ !", "--\n", "---\n", "----\n", "-- x\n", "--\n--", "--\n\n--\n", " --", "\n-- x"} {
		tokens(t, text)
		tokens(t, "a"+text, w("a", 0))
		tokens(t, "1"+text, n("1", 0))
		tokens(t, ":"+text+"\nb", s(":", 0), w("b", 1+len(text)+1))
	}
	tokens(t, "a--\nb", w("a", 0), w("b", 4))
	tokens(t, "a---b\n-- c\nd -- e", w("a", 0), w("d", 11))
	fails(t, "-- x\n=", 5)
	fails(t, "--\n-", 3)
	fails(t, "-- x\n\x00", 5)
	for _, text := range []string{"-", "- ", "- -", "-\n-", "-a", "-1", "->", "-:=", "-\x00", "-\xff-", "-\n"} {
		fails(t, text, 0)
		fails(t, "a"+text, 1)
		fails(t, "a "+text+" -- ", 2)
		fails(t, "(-- )\n  "+text, 8)
	}
}

// P11.1: each byte alone, behind a word, behind a number, behind a sign, and inside a comment.
func TestScanEachByte(t *testing.T) {
	for i := range 256 {
		c := string([]byte{byte(i)})
		for _, text := range []string{c, "ab" + c, "12" + c, ":" + c, "-" + c, "--" + c, "-- x" + c, "-- x" + c + "y\nz", "a " + c + " b", c + c, c + "a", c + "0", c + "=", c + "-", "\n" + c, "é" + c} {
			scans(t, text)
		}
		allowed := i == 10 || i >= 32 && i <= 126
		if allowed {
			if _, at, e := Scan("a -- " + c); e != api.OK || at != 0 {
				t.Error(i, at, e)
			}
			continue
		}
		fails(t, c, 0)
		fails(t, "ab"+c, 2)
		fails(t, "12"+c, 2)
		fails(t, "a "+c, 2)
		fails(t, "--"+c, 2)
		fails(t, "a -- "+c+"\n", 5)
		fails(t, "a -- \n"+c+"\n", 6)
	}
}

// P11.1: of several errors, the first offset counts.
func TestScanFirstError(t *testing.T) {
	for text, want := range map[string]int{
		"= -":            0,
		"- =":            0,
		"a 007 =":        2,
		"a = 007":        2,
		"a 1234567\x00":  2,
		"007\x00":        0,
		"-- \x01 \x02":   3,
		"-- \x01\n007":   3,
		"007 -- \x01":    0,
		"a\xff\xfe":      1,
		"- -- \x01":      0,
		"x é":            2,
		"x -- é":         5,
		"x\r\ny":         1,
		"\ta":            0,
		"a := 00 ; b= 0": 5,
	} {
		fails(t, text, want)
	}
}

// P11.1: a text has at most 65,536 bytes, whatever stands in it.
func TestScanSize(t *testing.T) {
	for _, fill := range []string{" ", "\n", "a", "(", "-", ":=", "a ", "9 ", "=", "0", "\x00", "ab.c 12 := (x) -- y\n"} {
		text := strings.Repeat(fill, 65537)
		for _, size := range []int{65534, 65535, 65536} {
			scans(t, text[:size])
			scans(t, text[:size-1]+"=")
			scans(t, "="+text[:size-1])
		}
		for _, long := range []string{text[:65537], text[:65536] + "=", "=" + text[:65536], text[:65537] + "x"} {
			if list, at, e := Scan(long); len(list) != 0 || at != 0 || e != api.ErrMany {
				t.Errorf("%q: %d %d %d", fill, len(list), at, e)
			}
		}
	}
	full := strings.Repeat(" ", 65535)
	tokens(t, full+"a", w("a", 65535))
	fails(t, full+"=", 65535)
	list, at, e := Scan(strings.Repeat("(", 65536))
	if len(list) != 65536 || at != 0 || e != api.OK || list[65535] != s("(", 65535) {
		t.Error(len(list), at, e)
	}
}

// P11.1: all short texts of bytes that stand for all the others.
func TestScanAllShort(t *testing.T) {
	for _, alphabet := range []string{"a0:=- \n", "b19_.(\x00-\n", "Z0:-~\x7f\xc3,"} {
		for size := range 6 {
			each(alphabet, size, func(text string) { scans(t, text) })
		}
	}
}

// each calls a function with each text of a size over an alphabet.
func each(alphabet string, size int, visit func(string)) {
	if size == 0 {
		visit("")
		return
	}
	for i := range len(alphabet) {
		each(alphabet, size-1, func(text string) { visit(alphabet[i:i+1] + text) })
	}
}

// drawn: a text of pieces that tokens, gaps and errors begin with.
func drawn(r *rand.Rand, pieces int, errors bool) string {
	good := append([]string{"a", "B", "nat.rec", "x_1.", "u0", "0", "7", "10", "999999", " ", "  ", "\n", "--", "-- c\n", "---\n"}, signs...)
	bad := []string{"_", ".", "=", "-", "00", "1", "9", "1234567", "\x00", "\xff", "\t", "é", "~"}
	var text strings.Builder
	for range pieces {
		if errors && r.Intn(12) == 0 {
			text.WriteString(bad[r.Intn(len(bad))])
		} else {
			text.WriteString(good[r.Intn(len(good))])
		}
		if r.Intn(2) == 0 {
			text.WriteByte(' ')
		}
	}
	return text.String()
}

// P11.1: texts drawn by lot.
func TestScanDrawn(t *testing.T) {
	r := rand.New(rand.NewSource(1))
	succeed, fail := 0, 0
	for range 20000 {
		text := drawn(r, r.Intn(30), r.Intn(2) == 0)
		scans(t, text)
		if _, _, e := Scan(text); e == api.OK {
			succeed++
		} else {
			fail++
		}
	}
	if succeed < 2000 || fail < 2000 {
		t.Error(succeed, fail)
	}
}

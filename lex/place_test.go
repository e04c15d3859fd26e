package lex

import (
	"math"
	"math/rand"
	"strconv"
	"strings"
	"testing"

	"imprimatur/api"
)

// farOff: offsets that no text has.
var farOff = []int{math.MinInt, math.MinInt + 1, -1 << 32, -65536, -2, -1, 1 << 20, 1 << 32, math.MaxInt - 1, math.MaxInt}

// placed asks that an offset has a line and a column.
func placed(t *testing.T, text string, at, wantLine, wantColumn int) {
	t.Helper()
	if line, column := Place(text, at); line != wantLine || column != wantColumn {
		t.Errorf("%.40q at %d: %d %d, not %d %d", text, at, line, column, wantLine, wantColumn)
	}
}

// P11.2: the line and the column of each offset of some texts.
func TestPlaceKnown(t *testing.T) {
	for text, want := range map[string][][2]int{
		"":              {{1, 1}},
		"a":             {{1, 1}, {1, 2}},
		"\n":            {{1, 1}, {2, 1}},
		"\n\n\n":        {{1, 1}, {2, 1}, {3, 1}, {4, 1}},
		"ab\ncd":        {{1, 1}, {1, 2}, {1, 3}, {2, 1}, {2, 2}, {2, 3}},
		"a\n\nbc\n":     {{1, 1}, {1, 2}, {2, 1}, {3, 1}, {3, 2}, {3, 3}, {4, 1}},
		"\t\r\n\x00é\n": {{1, 1}, {1, 2}, {1, 3}, {2, 1}, {2, 2}, {2, 3}, {2, 4}, {3, 1}},
		"\xff\n\xfe":    {{1, 1}, {1, 2}, {2, 1}, {2, 2}},
	} {
		if len(want) != len(text)+1 {
			t.Fatalf("%q", text)
		}
		for at, place := range want {
			placed(t, text, at, place[0], place[1])
		}
		placed(t, text, -1, 0, 0)
		placed(t, text, len(text)+1, 0, 0)
		for _, at := range farOff {
			placed(t, text, at, 0, 0)
		}
	}
}

// P11.2: texts longer than a source text have places too.
func TestPlaceLong(t *testing.T) {
	text := strings.Repeat("1234\n", 20000)
	for _, at := range []int{0, 1, 4, 5, 6, 65535, 65536, 65537, 99998, 99999} {
		placed(t, text, at, at/5+1, at%5+1)
	}
	placed(t, text, 100000, 20001, 1)
	placed(t, text, 100001, 0, 0)
	placed(t, strings.Repeat(" ", 70000), 70000, 1, 70001)
	placed(t, strings.Repeat("\n", 70000), 70000, 70001, 1)
}

// P11.2: all places of texts drawn by lot.
func TestPlaceDrawn(t *testing.T) {
	r := rand.New(rand.NewSource(2))
	for range 3000 {
		b := make([]byte, r.Intn(40))
		for i := range b {
			b[i] = []byte{'\n', 'a', ' ', byte(r.Intn(256))}[r.Intn(4)]
		}
		for at := -2; at < len(b)+3; at++ {
			line, column := plainPlace(string(b), at)
			placed(t, string(b), at, line, column)
		}
	}
}

// P11.2: every number has its text and no other one.
func TestNumberAll(t *testing.T) {
	for i := range 1000000 {
		text := strconv.Itoa(i)
		if got, ok := Number(text); got != i || !ok {
			t.Fatal(text, got, ok)
		}
		if i%1000 == 0 || i < 1000 {
			for _, other := range []string{"0" + text, "00" + text, "-" + text, "+" + text, " " + text, text + " ", text + ".", text + "_", text + "a", "x" + text, text + "\n", "0x" + text, text + "\x00"} {
				noNumber(t, other)
			}
		}
	}
}

// noNumber asks that a text is no number's.
func noNumber(t *testing.T, text string) {
	t.Helper()
	if got, ok := Number(text); got != 0 || ok {
		t.Errorf("%.40q: %d %t", text, got, ok)
	}
}

// P11.2: Number answers 0 and false for each string that is not the text of a number token.
func TestNumberOfOthers(t *testing.T) {
	for _, text := range []string{
		"", " ", "00", "01", "000000", "000001", "012345", "1000000", "1000001", "9999999", "1234567", "0000000", "10000000", "18446744073709551616", "18446744073709551617", strings.Repeat("9", 70000),
		"-", "+", "-0", "+0", "-1", "+1", "1-", "1+1", "a", "A", "u0", "one", "1a", "a1", "1e5", "0x10", "0b1", "1_000", "1.", ".1", "1.0", "1 ", " 1", "1 2", "1\n", "\n1", "1\x00", "\x00", "\xff", "é", "\u0661", "\uff11", "1/", "1:", "/", ":", ";", ":=", "--",
	} {
		noNumber(t, text)
	}
	for i := range 256 {
		for _, text := range []string{string([]byte{byte(i)}), "1" + string([]byte{byte(i)}), string([]byte{byte(i), '1'}), "12" + string([]byte{byte(i), '4', '5', '6'})} {
			got, ok := Number(text)
			if want, wantOk := plainNumber(text); got != want || ok != wantOk {
				t.Errorf("%q: %d %t", text, got, ok)
			}
		}
	}
}

// P11.2: what is a number is what Scan takes for one.
func TestNumberAndScan(t *testing.T) {
	for size := range 8 {
		each("019", size, func(text string) {
			got, ok := Number(text)
			list, _, e := Scan(text)
			token := e == api.OK && len(list) == 1 && list[0] == n(text, 0)
			if want, wantOk := plainNumber(text); ok != token || got != want || ok != wantOk {
				t.Errorf("%q: %d %t %v", text, got, ok, list)
			}
		})
	}
}

// joins asks that tokens have a joined text.
func joins(t *testing.T, want string, list ...Token) {
	t.Helper()
	if got := Join(list); got != want {
		t.Errorf("%.60q, not %.60q", got, want)
	}
}

// P11.2: Join returns the texts, separated by one space.
func TestJoinKnown(t *testing.T) {
	joins(t, "")
	joins(t, "", []Token{}...)
	joins(t, "a", w("a", 0))
	joins(t, "def a := x", w("def", 0), w("a", 4), s(":=", 6), w("x", 9))
	joins(t, "def a := 7 ;", w("def", 9), w("a", -4), s(":=", 0), n("7", 1<<40), s(";", 0))
	joins(t, ": = : :=", s(":", 0), s("=", 0), s(":", 1), s(":=", 2))
	joins(t, "", Token{})
	joins(t, " ", Token{}, Token{})
	joins(t, "a  b", w("a", 0), Token{}, w("b", 0))
	joins(t, "  \n --\x00 \xff", Token{7, " ", 7}, Token{-1, "\n", -7}, Token{0, "--\x00", 1}, Token{9, "\xff", 0})
}

// P11.2: whatever texts tokens have, Join puts one space between them.
func TestJoinDrawn(t *testing.T) {
	r := rand.New(rand.NewSource(3))
	for range 3000 {
		list := anyTokens(r)
		if got, want := Join(list), plainJoin(list); got != want {
			t.Fatalf("%v: %q, not %q", list, got, want)
		}
	}
}

// backAndForth asks that the joined text of tokens has tokens with the same kinds and texts, each of them one space behind the one before.
func backAndForth(t *testing.T, list []Token) {
	t.Helper()
	again, at, e := Scan(Join(list))
	if len(again) != len(list) || at != 0 || e != api.OK {
		t.Fatalf("%.9v: %d %d %d", list, len(again), at, e)
	}
	offset := 0
	for i, token := range again {
		if token.Kind != list[i].Kind || token.Text != list[i].Text || token.At != offset {
			t.Fatal(token, list[i], offset)
		}
		offset += len(token.Text) + 1
	}
}

// P11.3: the joined text of tokens that Scan can return has the same tokens.
func TestJoinAndScan(t *testing.T) {
	backAndForth(t, nil)
	some := []Token{w("a", 0), w("a.", 0), w("nat.rec_1", 0), w("Z9", 0), w("u0", 0), n("0", 0), n("1", 0), n("10", 0), n("999999", 0)}
	for _, sign := range signs {
		some = append(some, s(sign, 0))
	}
	for _, a := range some {
		backAndForth(t, []Token{a})
		for _, b := range some {
			backAndForth(t, []Token{a, b})
			for _, c := range some {
				backAndForth(t, []Token{a, b, c})
			}
		}
	}
	r := rand.New(rand.NewSource(4))
	many := 0
	for range 5000 {
		list, _, _ := Scan(drawn(r, r.Intn(40), false))
		backAndForth(t, list)
		if len(list) > 5 {
			many++
		}
	}
	if many < 1000 {
		t.Error(many)
	}
}

// P11.3: tokens whose joined text is as long as a text may be.
func TestJoinAndScanFull(t *testing.T) {
	list, _, _ := Scan(strings.Repeat("(", 32768))
	if text := Join(append(list, w("a", 0))); len(text) != 65537 {
		t.Error(len(text))
	}
	list[0] = s(":=", 0)
	if text := Join(list); len(text) != 65536 {
		t.Error(len(text))
	}
	backAndForth(t, list)
	backAndForth(t, []Token{w(strings.Repeat("x", 65536), 0)})
}

package term

import (
	"strings"
	"testing"
)

// P8.1: names and others, one by one.
func TestWordKnown(t *testing.T) {
	for _, s := range []string{"a", "z", "A", "Z", "a_", "a__", "a0", "a9", "A.b_1", "a.b", "a.b.c", "a_.b0.c_9", "u", "u4", "u9", "u00", "u0_", "U0", "uu0", "inn", "prop", "type", "Fun", "Let", "PROP", "definition", "defs", "of_", "in1", "withs", "u0.u1", "a.u0", "a.fun", "fun.a", "Prop.a", "Prop.Type", "in.of"} {
		if !Word(s) {
			t.Errorf("%q refused", s)
		}
	}
	for _, s := range []string{"", ".", "..", "a.", ".a", "a..b", "a.b.", ".a.b", "a...b", "1", "1a", "_", "_a", "0", "a.1", "a.1b", "a._", "a._b", " ", " a", "a ", "a b", "a\n", "\na", "a\x00", "\x00", "a\xff", "\xffa", "é", "aé", "ä", "a.é", "a-b", "-", "a+b", "@", "a@", "[", "`", "{", "a'", "a,b", "a:b", "a/b", "axiom def", "Prop.", ".fun", "let..in"} {
		if Word(s) {
			t.Errorf("%q taken", s)
		}
	}
}

// P8.1: each word that is no name, alone, and as a part of a name.
func TestWordReserved(t *testing.T) {
	list := noNames()
	if len(list) != 16 {
		t.Fatal(list)
	}
	for _, s := range list {
		if Word(s) {
			t.Errorf("%q taken", s)
		}
		for _, name := range []string{s + "s", s + "_", s + "0", "x" + s, "a." + s, s + ".a", s + "." + s, "a." + s + ".b", strings.ToUpper(s) + "x"} {
			if !Word(name) {
				t.Errorf("%q refused", name)
			}
		}
		for _, other := range []string{s + ".", "." + s, s + " ", " " + s, "0" + s, "_" + s, s + "..a"} {
			if Word(other) {
				t.Errorf("%q taken", other)
			}
		}
	}
}

// P8.1: names of 0, 1, 32 and 33 bytes, and of each other length.
func TestWordLength(t *testing.T) {
	for n := range 100 {
		for _, s := range []string{strings.Repeat("q", n), strings.Repeat("a.", n/2) + strings.Repeat("b", n%2), strings.Repeat("a.", n/2)[:n/2*2] + "a", strings.Repeat("Z", n/2) + strings.Repeat("_", n-n/2)} {
			if Word(s) != isName(s) {
				t.Errorf("%q", s)
			}
		}
		if Word(strings.Repeat("q", n)) != (n >= 1 && n <= 32) {
			t.Error(n)
		}
	}
	if Word(strings.Repeat("a", 1<<20)) || Word(strings.Repeat(".", 1<<20)) || Word(strings.Repeat("a.", 1<<19)+"a") {
		t.Error("long ones taken")
	}
}

// P8.1: each byte at each place of a name.
func TestWordBytes(t *testing.T) {
	for b := range 256 {
		one := string([]byte{byte(b)})
		for _, s := range []string{one, one + "a", "a" + one, "a" + one + "b", "a." + one, "a." + one + "b", one + ".a", "a" + one + ".b", "u" + one, "i" + one, one + one, one + "." + one, strings.Repeat("c", 31) + one, strings.Repeat("c", 32) + one, one + strings.Repeat("c", 31)} {
			if Word(s) != isName(s) {
				t.Errorf("%q", s)
			}
		}
	}
}

// P8.1: all texts of up to 6 bytes from a few of each sort.
func TestWordAll(t *testing.T) {
	names := 0
	texts := []string{""}
	for range 6 {
		var longer []string
		for _, s := range texts {
			for _, b := range "uZ0_. \xff" {
				longer = append(longer, s+string(b))
			}
		}
		for _, s := range longer {
			if Word(s) != isName(s) {
				t.Errorf("%q", s)
			}
			if Word(s) {
				names++
			}
		}
		texts = longer
	}
	if names < 1000 {
		t.Error("only", names)
	}
}

package term

import "imprimatur/api"

// Word: is a text a name?
func Word(s string) bool {
	if len(s) > api.MaxWord || reserved(s) {
		return false
	}
	begins := true // no byte of the part has been seen yet
	for i := range len(s) {
		c := s[i]
		switch {
		case isLetter(c):
			begins = false
		case begins:
			return false
		case c == '.':
			begins = true
		case c != '_' && !isDigit(c):
			return false
		}
	}
	return !begins
}

func isLetter(c byte) bool { return 'a' <= c && c <= 'z' || 'A' <= c && c <= 'Z' }

func isDigit(c byte) bool { return '0' <= c && c <= '9' }

// reserved: is a text one of the words that are no names?
func reserved(s string) bool {
	switch s {
	case "Prop", "Type", "fun", "all", "let", "in", "of", "with",
		"axiom", "def", "theorem", "family", "u0", "u1", "u2", "u3":
		return true
	}
	return false
}

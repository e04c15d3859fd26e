package level

import (
	"math"
	"math/rand"
	"slices"
	"strconv"
	"strings"

	"imprimatur/api"
)

// params is the values of all parameters, or one number for each of them.
type params = [4]int

// of is a level, written short.
func of(base, p0, p1, p2, p3 int) api.Level {
	return api.Level{Base: base, Plus: params{p0, p1, p2, p3}}
}

// isValid is the chapter's "valid", sentence by sentence.
func isValid(l api.Level) bool {
	for _, p := range l.Plus {
		if p < -1 || p > 100 || l.Base < p {
			return false
		}
	}
	return l.Base >= 0 && l.Base <= 100
}

// valueAt is the chapter's value of a level, without any bound of the parameter values.
func valueAt(l api.Level, vals params) int {
	sums := []int{l.Base}
	for i, p := range l.Plus {
		if p != -1 {
			sums = append(sums, vals[i]+p)
		}
	}
	return slices.Max(sums)
}

// product calls use with every row of four numbers.
func product(numbers []int, use func(params)) {
	for _, a := range numbers {
		for _, b := range numbers {
			for _, c := range numbers {
				for _, d := range numbers {
					use(params{a, b, c, d})
				}
			}
		}
	}
}

// small: all valid levels up to a Base.
func small(most int) []api.Level {
	var list []api.Level
	for base := range most + 1 {
		var pluses []int
		for p := -1; p <= base; p++ {
			pluses = append(pluses, p)
		}
		product(pluses, func(plus params) { list = append(list, api.Level{Base: base, Plus: plus}) })
	}
	return list
}

// edges: valid levels whose numbers stand at their bounds.
func edges() []api.Level {
	var list []api.Level
	for _, base := range []int{0, 1, 50, 99, 100} {
		product([]int{-1, 0, 1, 49, 50, 98, 99, 100}, func(plus params) {
			if l := (api.Level{Base: base, Plus: plus}); isValid(l) {
				list = append(list, l)
			}
		})
	}
	return list
}

// wrongs: levels that are invalid, each for a reason of its own.
func wrongs() []api.Level {
	list := []api.Level{Num(-1), of(-1, 0, 0, 0, 0), of(101, -1, -1, -1, -1), of(101, 100, 0, -1, 5), of(200, 101, -1, -1, -1), of(math.MaxInt, -1, -1, -1, -1), of(math.MinInt, -1, -1, -1, -1), of(math.MinInt, math.MinInt, 0, 0, 0)}
	for i := range 4 {
		for _, c := range []struct{ base, plus int }{{0, 1}, {5, 6}, {99, 100}, {100, 101}, {0, -2}, {100, -2}, {7, math.MinInt}, {7, math.MaxInt}, {100, 255}} {
			l := Num(c.base)
			l.Plus[i] = c.plus
			list = append(list, l)
		}
	}
	return list
}

// points: values of the parameters by which two levels of small numbers are told apart: none, and each one far above the others.
func points() []params {
	list := []params{{}, {1, 1, 1, 1}, {1, 2, 3, 4}, {500, 500, 500, 500}, {1, 100, 101, 200}}
	for i := range 4 {
		for _, n := range []int{1, 2, 100, 101, 1 << 20} {
			var p params
			p[i] = n
			list = append(list, p)
		}
	}
	return list
}

// below: is the value of a at most that of b, wherever one looks?
func below(a, b api.Level, where []params) bool {
	for _, p := range where {
		if valueAt(a, p) > valueAt(b, p) {
			return false
		}
	}
	return true
}

// plainText is a level's text by the chapter's words.
func plainText(l api.Level) string {
	occurring, greater := 0, 0
	for _, p := range l.Plus {
		if p >= 0 {
			occurring++
			if p < l.Base {
				greater++
			}
		}
	}
	text := ""
	if occurring == 0 || occurring == greater {
		text = " | " + strconv.Itoa(l.Base)
	}
	for i, p := range l.Plus {
		switch {
		case p == 0:
			text += " | u" + strconv.Itoa(i)
		case p > 0:
			text += " | u" + strconv.Itoa(i) + "+" + strconv.Itoa(p)
		}
	}
	return strings.TrimPrefix(text, " | ")
}

// readText: the level that a text tells: the smallest one above all its terms.
func readText(text string) api.Level {
	l := of(0, -1, -1, -1, -1)
	for _, term := range strings.Split(text, " | ") {
		name, number, _ := strings.Cut(term, "+")
		n, _ := strconv.Atoi(number)
		if i, isParam := strings.CutPrefix(name, "u"); isParam {
			at, _ := strconv.Atoi(i)
			l.Plus[at] = n
		} else {
			n, _ = strconv.Atoi(name)
		}
		l.Base = max(l.Base, n)
	}
	return l
}

// drawn: a level drawn at random, a valid one up to a Base.
func drawn(r *rand.Rand, most int) api.Level {
	l := Num(r.Intn(most + 1))
	for i := range l.Plus {
		if r.Intn(2) == 0 {
			l.Plus[i] = r.Intn(l.Base+2) - 1
		}
	}
	return l
}

// drawnNumber: any number, more often one near a bound.
func drawnNumber(r *rand.Rand) int {
	switch r.Intn(4) {
	case 0:
		return r.Intn(106) - 3
	case 1:
		near := []int{-2, -1, 0, 1, 4, 99, 100, 101, 1 << 20, 1<<20 + 1, -1 << 40, math.MinInt, math.MinInt + 1, math.MaxInt, math.MaxInt - 100}
		return near[r.Intn(len(near))]
	case 2:
		return r.Intn(5) - 1
	}
	return int(r.Uint64())
}

package level

import (
	"math"
	"math/rand"
	"slices"
	"testing"

	"imprimatur/api"
)

var outside = []int{math.MinInt, math.MinInt + 1, -1 << 40, -1000, -101, -100, -2, -1, 101, 102, 127, 128, 255, 256, 1000, 1 << 20, 1 << 32, 1<<32 + 1, math.MaxInt - 100, math.MaxInt}

// none asks that there is no level.
func none(t *testing.T, l api.Level, ok bool, about ...any) {
	t.Helper()
	if ok || l != (api.Level{}) {
		t.Error(append(about, "answered", l, ok)...)
	}
}

// P7.1: the edges of a valid level, one by one.
func TestRightKnown(t *testing.T) {
	for _, l := range []api.Level{{}, Num(0), Num(1), Num(100), of(100, 100, 100, 100, 100), of(100, -1, 0, 99, 100), of(5, 5, -1, -1, -1), of(5, -1, -1, -1, 5), of(5, 4, -1, 0, 5), of(2, 0, 2, -1, -1)} {
		if !Right(l) {
			t.Error(l, "refused")
		}
	}
	for _, l := range wrongs() {
		if Right(l) {
			t.Error(l, "taken")
		}
	}
	for _, n := range outside {
		if Right(of(n, -1, -1, -1, -1)) || Right(of(n, 0, 0, 0, 0)) || Right(of(n, n, n, n, n)) {
			t.Error(n, "as Base")
		}
		for i := range 4 {
			l := Num(100)
			l.Plus[i] = n
			if Right(l) != (n == -1) {
				t.Error(n, "as Plus", i)
			}
		}
	}
}

// P7.1: Right and Width of all levels whose numbers stand around their bounds.
func TestRightAndWidthAll(t *testing.T) {
	for _, base := range []int{math.MinInt, -2, -1, 0, 1, 2, 50, 99, 100, 101, math.MaxInt} {
		product([]int{-2, -1, 0, 1, 2, 50, 99, 100, 101}, func(plus params) {
			l := api.Level{Base: base, Plus: plus}
			if Right(l) != isValid(l) {
				t.Error("Right", l)
			}
			width := 4
			for width > 0 && plus[width-1] == -1 {
				width--
			}
			if Width(l) != width {
				t.Error("Width", l, Width(l))
			}
		})
	}
}

// P7.1: the width of no parameter, of each one alone, and of all.
func TestWidthKnown(t *testing.T) {
	for _, c := range []struct {
		l    api.Level
		want int
	}{{Num(0), 0}, {Num(100), 0}, {Num(-1), 0}, {Num(500), 0}, {Param(0, 0), 1}, {Param(1, 0), 2}, {Param(2, 9), 3}, {Param(3, 100), 4}, {api.Level{}, 4}, {of(3, 0, -1, 2, -1), 3}, {of(3, 1, 2, -1, -1), 2}, {of(0, 5, 6, -1, -1), 2}} {
		if got := Width(c.l); got != c.want {
			t.Error(c.l, got)
		}
	}
}

// P7.1: Num has this Base, also one that is out of bounds, and no parameters.
func TestNum(t *testing.T) {
	for n := 0; n <= 100; n++ {
		if l := Num(n); l != of(n, -1, -1, -1, -1) || !Right(l) {
			t.Error(n, l)
		}
	}
	for _, n := range outside {
		if l := Num(n); l != of(n, -1, -1, -1, -1) || Right(l) {
			t.Error(n, l)
		}
	}
}

// P7.1: Param of each parameter and of each number that may be added to it.
func TestParam(t *testing.T) {
	for at := range 4 {
		for plus := 0; plus <= 100; plus++ {
			want := of(plus, -1, -1, -1, -1)
			want.Plus[at] = plus
			if l := Param(at, plus); l != want || !Right(l) {
				t.Error(at, plus, l)
			}
		}
	}
}

// P7.1: Param of what is no parameter, and of numbers out of bounds.
func TestParamNone(t *testing.T) {
	wrong := of(-1, -1, -1, -1, -1)
	for _, n := range outside {
		for at := range 4 {
			if l := Param(at, n); l != wrong {
				t.Error(at, n, l)
			}
		}
	}
	for _, at := range append([]int{4, 5, 100}, outside...) {
		for _, plus := range []int{-1, 0, 1, 100, 101} {
			if l := Param(at, plus); l != wrong {
				t.Error(at, plus, l)
			}
		}
	}
}

// P7.1: values of the parameters that are missing, out of bounds, or too many.
func TestValueKnown(t *testing.T) {
	all, some := of(3, 0, 1, 2, 3), of(4, -1, 3, -1, 0)
	const high = 1 << 20
	for _, c := range []struct {
		l    api.Level
		vals []int
		want int
	}{
		{all, nil, 3}, {all, []int{}, 3}, {all, []int{2}, 3}, {all, []int{3}, 3}, {all, []int{4}, 4}, {all, []int{0, 3}, 4},
		{all, []int{0, 0, 7}, 9}, {all, []int{0, 0, 0, 7}, 10}, {all, []int{9, 9, 9, 9}, 12}, {all, []int{12, 9, 9, 9}, 12}, {all, []int{13, 9, 9, 9}, 13},
		{all, []int{0, 0, 0, 0, 99}, 3}, {all, []int{1, 0, 0, 5, 99, 100, 101}, 8},
		{all, []int{-1}, 3}, {all, []int{-9, -9, -9, -9}, 3}, {all, []int{-9, 8, -9, -9}, 9}, {all, []int{math.MinInt, math.MinInt, 4}, 6},
		{all, []int{high - 1}, high - 1}, {all, []int{high}, high}, {all, []int{high + 1}, high}, {all, []int{math.MaxInt}, high}, {all, []int{high, high - 1, high, high}, high + 3},
		{all, []int{0, 0, 0, math.MaxInt}, high + 3}, {all, []int{0, high + 1, 0, 0}, high + 1}, {all, []int{0, 0, 1 << 32}, high + 2},
		{some, []int{50, 0, 50, 0}, 4}, {some, []int{50, 1, 50, 0}, 4}, {some, []int{50, 2, 50, 0}, 5}, {some, []int{0, 0, 0, 5}, 5}, {some, []int{0, 0, 0, 4, 50}, 4},
		{Num(0), nil, 0}, {Num(0), []int{5, 5, 5, 5}, 0}, {Num(100), []int{500, 500, 500, 500, 500}, 100},
		{Param(0, 100), nil, 100}, {Param(0, 100), []int{high}, high + 100}, {Param(3, 100), []int{0, 0, 0, math.MaxInt}, high + 100},
		{api.Level{}, nil, 0}, {api.Level{}, []int{0, 1, 0, 0}, 1},
	} {
		if got := Value(c.l, c.vals...); got != c.want {
			t.Error(c.l, c.vals, got)
		}
	}
}

// P7.1: an invalid level has no value.
func TestValueNone(t *testing.T) {
	for _, l := range wrongs() {
		for _, vals := range [][]int{nil, {7}, {7, 7, 7, 7}, {math.MaxInt, 1, 2, 3, 4}} {
			if got := Value(l, vals...); got != 0 {
				t.Error(l, vals, got)
			}
		}
	}
}

// P7.1: the value of all levels of small numbers and of those at the edges.
func TestValueAll(t *testing.T) {
	where := points()
	for _, l := range append(small(3), edges()...) {
		for _, p := range where {
			want := valueAt(l, p)
			if got := Value(l, p[:]...); got != want {
				t.Error(l, p, got)
			}
			for n := range 4 {
				rest := p
				clear(rest[n:])
				if got := Value(l, p[:n]...); got != valueAt(l, rest) {
					t.Error(l, p[:n], got)
				}
			}
		}
	}
}

// P7.1: the Base is the value where all parameters are 0.
func TestValueIsBase(t *testing.T) {
	for _, l := range append(small(3), edges()...) {
		if Value(l) != l.Base || Value(l, 0, 0, 0, 0) != l.Base {
			t.Error(l)
		}
	}
}

// P7.2: Max of nothing, of one and of several.
func TestMaxKnown(t *testing.T) {
	for _, c := range []struct {
		list []api.Level
		want api.Level
	}{
		{nil, Num(0)},
		{[]api.Level{}, Num(0)},
		{[]api.Level{Num(0)}, Num(0)},
		{[]api.Level{Num(1), Param(0, 0)}, of(1, 0, -1, -1, -1)},
		{[]api.Level{Param(0, 0), Num(1)}, of(1, 0, -1, -1, -1)},
		{[]api.Level{Param(0, 0), Param(0, 3), Param(0, 1)}, of(3, 3, -1, -1, -1)},
		{[]api.Level{Param(0, 0), Param(1, 100), Param(2, 7), Param(3, 99)}, of(100, 0, 100, 7, 99)},
		{[]api.Level{{}, Num(100)}, of(100, 0, 0, 0, 0)},
		{[]api.Level{of(5, 2, -1, 5, 0), of(4, 4, -1, 0, -1)}, of(5, 4, -1, 5, 0)},
	} {
		if got := Max(c.list...); got != c.want {
			t.Error(c.list, got)
		}
	}
	for _, l := range append(small(3), edges()...) {
		if Max(l) != l || Max(l, l, l) != l || Max(l, Num(0)) != l {
			t.Error(l)
		}
	}
}

// P7.2: no valid level is both above the arguments and not above their maximum.
func TestMaxSmallest(t *testing.T) {
	levels, where := small(1), points()
	for _, a := range levels {
		for _, b := range levels {
			got := Max(a, b)
			if !isValid(got) || !below(a, got, where) || !below(b, got, where) {
				t.Fatal(a, b, got)
			}
			for _, other := range levels {
				if below(a, other, where) && below(b, other, where) && !below(got, other, where) {
					t.Fatal(a, b, got, other)
				}
			}
		}
	}
}

// P7.2: the maximum's value is the greatest of the values; the order of the arguments makes no difference.
func TestMaxValues(t *testing.T) {
	r := rand.New(rand.NewSource(71))
	where := points()
	for range 20000 {
		list := make([]api.Level, r.Intn(7))
		for i := range list {
			list[i] = drawn(r, 100)
		}
		got := Max(list...)
		for _, p := range where {
			want := 0
			for _, l := range list {
				want = max(want, valueAt(l, p))
			}
			if !isValid(got) || valueAt(got, p) != want {
				t.Fatal(list, p, got)
			}
		}
		r.Shuffle(len(list), func(i, j int) { list[i], list[j] = list[j], list[i] })
		if Max(list...) != got {
			t.Fatal(list, "in another order")
		}
	}
}

// P7.2: many arguments.
func TestMaxMany(t *testing.T) {
	list := slices.Repeat([]api.Level{Num(3), Param(1, 2)}, 50000)
	list[70001] = of(9, 1, -1, -1, -1)
	if got := Max(list...); got != of(9, 1, 2, -1, -1) {
		t.Error(got)
	}
	list[99999] = Num(101)
	if got := Max(list...); got != Num(-1) {
		t.Error(got)
	}
}

// P7.2: an invalid argument, wherever it stands.
func TestMaxNone(t *testing.T) {
	for _, l := range wrongs() {
		for at := range 3 {
			list := []api.Level{Num(100), Param(0, 3), {}}
			list[at] = l
			if Max(list...) != of(-1, -1, -1, -1, -1) || Max(l) != Num(-1) || Max(l, l) != Num(-1) {
				t.Error(l, at)
			}
		}
	}
}

// P7.2: Up of levels and numbers at the edges; a result that is just valid, and one that is not.
func TestUpKnown(t *testing.T) {
	for _, c := range []struct {
		l    api.Level
		n    int
		want api.Level
	}{
		{of(1, 0, -1, -1, -1), 1, of(2, 1, -1, -1, -1)},
		{Num(0), 0, Num(0)}, {Num(100), 0, Num(100)}, {Num(0), 100, Num(100)}, {Num(1), 99, Num(100)}, {Num(99), 1, Num(100)},
		{Param(3, 0), 100, Param(3, 100)}, {Param(2, 40), 60, Param(2, 100)}, {of(100, 100, 0, -1, 5), 0, of(100, 100, 0, -1, 5)},
		{api.Level{}, 100, of(100, 100, 100, 100, 100)}, {of(4, 0, 2, -1, -1), 96, of(100, 96, 98, -1, -1)},
	} {
		if got, ok := Up(c.l, c.n); !ok || got != c.want {
			t.Error(c.l, c.n, got, ok)
		}
	}
	for _, c := range []struct {
		l api.Level
		n int
	}{{Num(1), 100}, {Num(100), 1}, {Num(100), 100}, {of(100, 0, -1, -1, -1), 1}, {of(4, 0, 2, -1, -1), 97}, {Param(2, 40), 61}, {Num(51), 50}} {
		got, ok := Up(c.l, c.n)
		none(t, got, ok, c.l, c.n)
	}
}

// P7.2: Up refuses numbers out of bounds and invalid levels, also where the result would be valid.
func TestUpNone(t *testing.T) {
	for _, n := range outside {
		for _, l := range []api.Level{Num(0), Num(1), Num(100), Param(0, 0), {}, of(100, 100, 50, -1, 0)} {
			got, ok := Up(l, n)
			none(t, got, ok, l, n)
		}
	}
	for _, l := range append(wrongs(), of(-5, -1, -1, -1, -1), of(3, 5, -1, -1, -1), of(3, -1, -3, -1, -1)) {
		for _, n := range []int{0, 1, 2, 5, 99, 100, 101, -1} {
			got, ok := Up(l, n)
			none(t, got, ok, l, n)
		}
	}
}

// P7.2: the value of what is increased by n is greater by n.
func TestUpValues(t *testing.T) {
	where := points()
	for _, l := range append(small(2), edges()...) {
		for _, n := range []int{0, 1, 2, 49, 50, 51, 97, 98, 99, 100} {
			got, ok := Up(l, n)
			if l.Base+n > 100 {
				none(t, got, ok, l, n)
				continue
			}
			if !ok || !isValid(got) {
				t.Fatal(l, n, got, ok)
			}
			for _, p := range where {
				if valueAt(got, p) != valueAt(l, p)+n {
					t.Fatal(l, n, p, got)
				}
			}
		}
	}
}

// P7.2: Leq of pairs, one by one.
func TestLeqKnown(t *testing.T) {
	for _, c := range []struct {
		a, b api.Level
		want bool
	}{
		{Num(0), Num(0), true}, {Num(0), Num(1), true}, {Num(1), Num(0), false}, {Num(99), Num(100), true}, {Num(100), Num(99), false},
		{Num(0), Param(2, 0), true}, {Num(1), Param(2, 0), false}, {Num(1), Param(2, 1), true}, {Param(2, 0), Num(100), false}, {Param(2, 0), Num(0), false},
		{Param(0, 0), Param(1, 100), false}, {Param(0, 3), Param(0, 4), true}, {Param(0, 4), Param(0, 3), false}, {Param(0, 4), of(9, 3, 3, 3, 3), false},
		{of(3, 0, -1, -1, -1), of(3, 1, -1, -1, -1), true}, {of(3, 1, -1, -1, -1), of(3, 0, -1, -1, -1), false}, {of(3, 1, -1, -1, -1), of(2, 1, -1, -1, -1), false},
		{Param(3, 2), of(5, 5, 5, 5, 1), false}, {Param(3, 2), of(2, -1, -1, -1, 2), true}, {of(2, 0, -1, -1, -1), of(100, 0, 0, -1, -1), true},
		{api.Level{}, of(100, 100, 100, 100, 100), true}, {of(100, 100, 100, 100, 100), api.Level{}, false},
	} {
		if Leq(c.a, c.b) != c.want {
			t.Error(c.a, c.b, !c.want)
		}
	}
}

// P7.2: Leq of invalid levels, with themselves, with valid ones and with each other.
func TestLeqNone(t *testing.T) {
	for _, l := range wrongs() {
		for _, other := range []api.Level{Num(0), Num(100), {}, Param(1, 5), of(100, 100, 100, 100, 100)} {
			if Leq(l, other) || Leq(other, l) {
				t.Error(l, other)
			}
		}
		for _, other := range wrongs() {
			if Leq(l, other) {
				t.Error(l, other)
			}
		}
	}
}

// P7.2: Leq is what the values say, for all levels of small numbers.
func TestLeqValues(t *testing.T) {
	levels, where := small(2), points()
	for _, a := range levels {
		for _, b := range levels {
			if got := Leq(a, b); got != below(a, b, where) {
				t.Fatal(a, b, got)
			}
		}
	}
}

// P7.2: likewise for greater ones, half of the pairs near each other.
func TestLeqRandom(t *testing.T) {
	r := rand.New(rand.NewSource(72))
	where := points()
	held := 0
	for range 100000 {
		a, b := drawn(r, 100), drawn(r, 100)
		if r.Intn(2) == 0 {
			b = Max(a, b)
			if i := r.Intn(4); b.Plus[i] >= 0 && r.Intn(2) == 0 {
				b.Plus[i]--
			}
		}
		got := Leq(a, b)
		if got != below(a, b, where) {
			t.Fatal(a, b, got)
		}
		if got {
			held++
		}
	}
	if held < 10000 || held > 90000 {
		t.Error("of 100000 pairs", held)
	}
}

// P7.2: valid levels that always have the same value are equal.
func TestSameValueIsSameLevel(t *testing.T) {
	where := points()
	values := map[[25]int]api.Level{}
	list := append(small(3), edges()...)
	for _, l := range list {
		var key [25]int
		for i, p := range where {
			key[i] = Value(l, p[:]...)
		}
		if other, there := values[key]; there && other != l {
			t.Error(l, other)
		}
		values[key] = l
	}
	for _, l := range small(3) {
		for _, other := range small(3) {
			if Leq(l, other) && Leq(other, l) && l != other {
				t.Error(l, other)
			}
		}
	}
}

// P7.3: Inst of ordinary levels: what occurs is replaced, and only that.
func TestInstKnown(t *testing.T) {
	u, v := Param(0, 0), Param(1, 0)
	for _, c := range []struct {
		l    api.Level
		by   []api.Level
		want api.Level
	}{
		{Num(7), nil, Num(7)}, {Num(7), []api.Level{}, Num(7)}, {Num(7), []api.Level{Num(100), Num(100), u}, Num(7)},
		{u, []api.Level{Num(0)}, Num(0)}, {u, []api.Level{Num(5)}, Num(5)}, {u, []api.Level{v}, v}, {v, []api.Level{Num(50), u}, u},
		{Param(0, 3), []api.Level{Num(5)}, Num(8)}, {Param(0, 3), []api.Level{of(5, -1, 2, -1, 5)}, of(8, -1, 5, -1, 8)},
		{Param(3, 0), []api.Level{Num(9), Num(9), Num(9), Num(4)}, Num(4)},
		{api.Level{}, []api.Level{Param(3, 0), Param(2, 0), Param(1, 0), Param(0, 0)}, api.Level{}},
		{of(3, 0, 1, 2, 3), []api.Level{Param(3, 0), Param(2, 0), Param(1, 0), Param(0, 0)}, of(3, 3, 2, 1, 0)},
		{of(4, 0, 2, -1, -1), []api.Level{Num(9), Param(0, 1)}, of(9, 3, -1, -1, -1)},
		{of(4, 0, 2, -1, -1), []api.Level{Num(1), Num(1)}, Num(4)}, {of(4, 0, 2, -1, -1), []api.Level{u, u}, of(4, 2, -1, -1, -1)},
		{of(4, 0, -1, 2, -1), []api.Level{Num(0), Num(100), Num(3)}, Num(5)},
		{of(6, 6, -1, 2, -1), []api.Level{Num(94), Num(100), Num(98), Num(100), Num(100)}, Num(100)},
		{Param(1, 0), []api.Level{Num(1), of(3, 3, 2, 1, 0), Num(2), {}, Num(100), Num(0)}, of(3, 3, 2, 1, 0)},
	} {
		if got, ok := Inst(c.l, c.by); !ok || got != c.want {
			t.Error(c.l, c.by, got, ok)
		}
	}
}

// P7.3: Inst with as many elements as the width, with fewer, and with more.
func TestInstCount(t *testing.T) {
	by := slices.Repeat([]api.Level{Num(1)}, 200)
	for _, l := range append(small(2), edges()...) {
		width := Width(l)
		for n := range width {
			got, ok := Inst(l, by[:n])
			none(t, got, ok, l, n)
		}
		if l.Base == 100 && slices.Contains(l.Plus[:], 100) {
			continue
		}
		want := Num(l.Base)
		for _, p := range l.Plus {
			if p >= 0 {
				want.Base = max(want.Base, 1+p)
			}
		}
		for _, n := range []int{width, width + 1, 4, 5, 200} {
			if got, ok := Inst(l, by[:max(n, width)]); !ok || got != want {
				t.Error(l, n, got, ok)
			}
		}
	}
}

// P7.3: an invalid element, among those that are used and among those that are not.
func TestInstWrongElement(t *testing.T) {
	for _, wrong := range wrongs() {
		for at := range 7 {
			by := slices.Repeat([]api.Level{Num(0)}, 7)
			by[at] = wrong
			for _, l := range []api.Level{Num(3), Param(0, 0), Param(2, 1), of(5, 0, -1, 3, -1), {}} {
				got, ok := Inst(l, by)
				none(t, got, ok, l, at, wrong)
				if at < Width(l) {
					continue
				}
				if _, ok := Inst(l, by[:at]); !ok {
					t.Error(l, at, wrong, "refused without it")
				}
			}
		}
	}
}

// P7.3: an invalid level, and results that are just valid or just not.
func TestInstNone(t *testing.T) {
	for _, l := range wrongs() {
		for _, by := range [][]api.Level{nil, {Num(0), Num(0), Num(0), Num(0)}, {Num(5), Param(0, 0), Num(5), {}, Num(9)}} {
			got, ok := Inst(l, by)
			none(t, got, ok, l, by)
		}
	}
	for at := range 4 {
		for plus := 0; plus <= 100; plus++ {
			by := slices.Repeat([]api.Level{Num(0)}, 4)
			by[at] = of(100-plus, 0, -1, -1, 100-plus)
			if got, ok := Inst(Param(at, plus), by); !ok || got != of(100, plus, -1, -1, 100) {
				t.Error(at, plus, got, ok)
			}
			if plus == 0 {
				continue
			}
			for _, over := range []api.Level{Num(101 - plus), Num(100), of(101-plus, -1, 0, -1, -1)} {
				by[at] = over
				got, ok := Inst(Param(at, plus), by)
				none(t, got, ok, at, plus, over)
				l := Max(Num(100), Param(at, plus), Param(3-at, 0))
				got, ok = Inst(l, by)
				none(t, got, ok, l, over)
			}
		}
	}
}

// P7.3: the result's value is the level's, where the parameters have the values of by.
func TestInstValues(t *testing.T) {
	r := rand.New(rand.NewSource(73))
	where := points()
	count := 0
	for range 50000 {
		l, by := drawn(r, 60), make([]api.Level, r.Intn(6))
		highest := 0
		for i := range by {
			by[i] = drawn(r, 60)
			if i < 4 && l.Plus[i] >= 0 {
				highest = max(highest, by[i].Base+l.Plus[i])
			}
		}
		got, ok := Inst(l, by)
		if len(by) < Width(l) || highest > 100 {
			none(t, got, ok, l, by)
			continue
		}
		if !ok || !isValid(got) {
			t.Fatal(l, by, got, ok)
		}
		count++
		for _, p := range where {
			var vals params
			for i := range min(len(by), 4) {
				vals[i] = valueAt(by[i], p)
			}
			if valueAt(got, p) != valueAt(l, vals) {
				t.Fatal(l, by, p, got)
			}
		}
	}
	if count < 10000 {
		t.Error("only", count)
	}
}

// P7.3: texts, written out.
func TestStringKnown(t *testing.T) {
	for _, c := range []struct {
		l    api.Level
		want string
	}{
		{Num(0), "0"}, {Num(1), "1"}, {Num(10), "10"}, {Num(100), "100"},
		{Param(0, 0), "u0"}, {Param(1, 0), "u1"}, {Param(2, 1), "u2+1"}, {Param(3, 100), "u3+100"},
		{of(2, 1, -1, -1, -1), "2 | u0+1"}, {of(1, 0, -1, -1, -1), "1 | u0"}, {of(100, -1, -1, -1, 99), "100 | u3+99"},
		{of(2, 0, 2, -1, -1), "u0 | u1+2"}, {of(2, 2, -1, 0, -1), "u0+2 | u2"}, {of(2, 2, 2, 2, 2), "u0+2 | u1+2 | u2+2 | u3+2"},
		{of(3, 0, 1, 2, -1), "3 | u0 | u1+1 | u2+2"}, {of(3, 0, 1, 2, 3), "u0 | u1+1 | u2+2 | u3+3"}, {of(4, 0, 1, 2, 3), "4 | u0 | u1+1 | u2+2 | u3+3"},
		{api.Level{}, "u0 | u1 | u2 | u3"}, {of(100, 100, 100, 100, 100), "u0+100 | u1+100 | u2+100 | u3+100"}, {of(0, -1, 0, -1, 0), "u1 | u3"},
	} {
		if got := String(c.l); got != c.want {
			t.Error(c.l, got)
		}
	}
}

// P7.3: an invalid level has no text.
func TestStringNone(t *testing.T) {
	for _, l := range wrongs() {
		if got := String(l); got != "" {
			t.Error(l, got)
		}
	}
}

// P7.3: the texts of all levels of small numbers and at the edges: they tell the level again.
func TestStringAll(t *testing.T) {
	for _, l := range append(small(3), edges()...) {
		if got := String(l); got != plainText(l) || readText(got) != l {
			t.Error(l, got)
		}
	}
}

// P1: any numbers and lists; an answer is a valid level, the zero one with false, or Num(-1).
func TestAnyArguments(t *testing.T) {
	r := rand.New(rand.NewSource(74))
	draw := func() api.Level {
		if r.Intn(2) == 0 {
			return drawn(r, 100)
		}
		return of(drawnNumber(r), drawnNumber(r), drawnNumber(r), drawnNumber(r), drawnNumber(r))
	}
	for range 200000 {
		l, other, n := draw(), draw(), drawnNumber(r)
		list := make([]api.Level, r.Intn(6))
		for i := range list {
			list[i] = draw()
		}
		if Right(l) != isValid(l) || Leq(l, other) && !(isValid(l) && isValid(other)) || (String(l) == "") == isValid(l) {
			t.Fatal(l, other)
		}
		if w := Width(l); w < 0 || w > 4 {
			t.Fatal(l, w)
		}
		if v := Value(l, n, drawnNumber(r), drawnNumber(r), drawnNumber(r), n); v < 0 || v > 1<<20+100 || v > 0 && !isValid(l) {
			t.Fatal(l, n, v)
		}
		if m := Max(list...); isValid(m) == slices.ContainsFunc(list, func(l api.Level) bool { return !isValid(l) }) || !isValid(m) && m != Num(-1) {
			t.Fatal(list, m)
		}
		if x, ok := Up(l, n); ok && !(isValid(l) && isValid(x)) || !ok && x != (api.Level{}) {
			t.Fatal(l, n, x, ok)
		}
		if x, ok := Inst(l, list); ok && !(isValid(l) && isValid(x)) || !ok && x != (api.Level{}) {
			t.Fatal(l, list, x, ok)
		}
		if x := Param(n, drawnNumber(r)); !isValid(x) && x != Num(-1) {
			t.Fatal(n, x)
		}
	}
}

package show

import (
	"fmt"
	"math"
	"math/rand"
	"slices"
	"strings"
	"testing"
)

// plainFresh is the chapter's Fresh: of so many names that enough are left, those that are not taken, and the first n of these.
func plainFresh(n int, taken ...string) []string {
	if n < 0 || n > 1000 {
		return nil
	}
	var list []string
	for i := range n + len(taken) {
		list = append(list, fmt.Sprintf("x%d", i))
	}
	list = slices.DeleteFunc(list, func(s string) bool { return slices.Contains(taken, s) })
	return list[:n]
}

// freshIs asks Fresh what the chapter's words say.
func freshIs(t *testing.T, n int, taken ...string) {
	t.Helper()
	if got, want := Fresh(n, taken...), plainFresh(n, taken...); !slices.Equal(got, want) {
		t.Fatal(n, taken, "got", got, "want", want)
	}
}

// P13.2: names written out.
func TestFreshKnown(t *testing.T) {
	for want, got := range map[string][]string{
		"":                         Fresh(0),
		"x0":                       Fresh(1),
		"x0 x1 x2 x3":              Fresh(4),
		"x1":                       Fresh(1, "x0"),
		"x0 x2 x4":                 Fresh(3, "x1", "x3", "y"),
		"x1 x3":                    Fresh(2, "x2", "x0", "x2", "x0"),
		"x3 x4":                    Fresh(2, "x2", "x1", "x0"),
		"x0 x1":                    Fresh(2, "x10", "x2"),
		"x0 x1 x2":                 Fresh(3, "x00", "x", "X0", "x01", "X1", " x0", "x0 ", "x0.", "x0.x1", "x+1", "x1a", "1", "", "0", "xx0", "\xff", "x-1", "x1e0", "x٠"),
		"x8 x9 x11 x12":            Fresh(4, "x0", "x1", "x2", "x3", "x4", "x5", "x6", "x7", "x10"),
		"x98 x100 x101":            Fresh(101, "x99")[98:],
		"x0 x1 x2 x3 x4 x5 x6 x10": Fresh(8, "x7", "x8", "x9"),
	} {
		if strings.Join(got, " ") != want {
			t.Errorf("%q %q", want, got)
		}
	}
}

// P13.2: every n from below 0 to above 1,000, and far outside.
func TestFreshCount(t *testing.T) {
	for n := -20; n < 1020; n++ {
		for _, taken := range [][]string{nil, {}, {"x0"}, {"x3", "x1", "a"}} {
			freshIs(t, n, taken...)
			got := Fresh(n, taken...)
			if n < 0 || n > 1000 {
				if len(got) != 0 {
					t.Error(n, got)
				}
			} else if len(got) != n {
				t.Error(n, len(got))
			}
		}
	}
	for _, n := range []int{math.MinInt, math.MinInt + 1, -1 << 32, -1000, 1001, 1024, 1 << 16, 1 << 32, 1<<32 + 5, math.MaxInt} {
		if got := Fresh(n, "x1"); len(got) != 0 {
			t.Error(n, got)
		}
	}
	if got := Fresh(1000); got[999] != "x999" {
		t.Error(got[999])
	}
}

// P13.2: each choice of the names x0 to x9 as taken ones, in any order, some of them twice.
func TestFreshChosen(t *testing.T) {
	r := rand.New(rand.NewSource(138))
	for chosen := range 1 << 10 {
		var taken []string
		for i := range 10 {
			if chosen>>i&1 == 1 {
				taken = append(taken, xn(i))
			}
		}
		for range r.Intn(4) {
			if len(taken) > 0 {
				taken = append(taken, taken[r.Intn(len(taken))])
			}
		}
		r.Shuffle(len(taken), func(i, j int) { taken[i], taken[j] = taken[j], taken[i] })
		for n := range 13 {
			freshIs(t, n, taken...)
		}
	}
}

// P13.2: more names taken than are asked for, all that would come first among them.
func TestFreshMany(t *testing.T) {
	var all []string
	for i := range 3000 {
		all = append(all, xn(i))
	}
	for _, count := range []int{1, 2, 10, 999, 1000, 1001, 3000} {
		for _, n := range []int{0, 1, 2, 7, 999, 1000, 1001} {
			freshIs(t, n, all[:count]...)
			backward := slices.Clone(all[3000-count:])
			slices.Reverse(backward)
			freshIs(t, n, backward...)
		}
	}
	if got := Fresh(2, all...); !slices.Equal(got, []string{"x3000", "x3001"}) {
		t.Error(got)
	}
	if got := Fresh(2, append(slices.Repeat(all, 30), "x3001")...); !slices.Equal(got, []string{"x3000", "x3002"}) {
		t.Error(got)
	}
	if got := Fresh(1, strings.Repeat("x", 1<<20), strings.Repeat("x0", 1<<20)); !slices.Equal(got, []string{"x0"}) {
		t.Error(got)
	}
}

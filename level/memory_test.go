package level

import (
	"slices"
	"testing"

	"imprimatur/api"
)

// Rule 4: lists that are handed in stay as they are, with the memory behind their length.
func TestArgumentsUnchanged(t *testing.T) {
	levels := []api.Level{Num(3), Param(1, 2), of(9, 1, -1, 4, 0), {}, Num(100), Num(-1), of(0, 5, 5, 5, 5), Num(7)}
	vals := []int{-5, 1 << 30, 3, 1<<20 + 1, 9, -1, 8}
	manyLevels, manyVals := slices.Clone(levels), slices.Clone(vals)
	for n := range levels {
		Max(levels[:n]...)
		for _, l := range append(wrongs(), Num(3), Param(0, 0), of(9, 9, 1, 2, 0), of(100, 100, 0, 0, 0)) {
			Inst(l, levels[:n])
			Value(l, vals[:min(n, len(vals))]...)
		}
	}
	if !slices.Equal(levels, manyLevels) || !slices.Equal(vals, manyVals) {
		t.Error(levels, vals)
	}
}

// Rule 4: a list's memory is not kept: what is done to it later shows nowhere.
func TestArgumentsNotKept(t *testing.T) {
	list := []api.Level{Num(3), Param(1, 2), of(9, 1, -1, 4, 0), Num(1)}
	l := of(5, 0, 1, 2, 3)
	greatest := Max(list...)
	replaced, ok := Inst(l, list)
	for i := range list {
		list[i] = of(77, 77, 77, 77, 77)
	}
	if greatest != of(9, 1, 2, 4, 0) || !ok || replaced != of(11, 3, 3, 6, 2) {
		t.Error(greatest, replaced)
	}
	if x, ok := Inst(l, []api.Level{Num(0), Num(0), Num(0), Num(0)}); !ok || x != Num(5) || Max() != Num(0) {
		t.Error(x, Max(), "after other calls")
	}
}

// Rule 4: a level that is answered is the caller's: what is done to it shows in no other answer.
func TestResultsAreNew(t *testing.T) {
	for range 2 {
		num, param, wrong, most := Num(4), Param(2, 3), Param(9, 9), Max(Num(1), Param(0, 0))
		up, _ := Up(most, 1)
		inst, _ := Inst(most, []api.Level{Param(3, 5)})
		if num != of(4, -1, -1, -1, -1) || param != of(3, -1, -1, 3, -1) || wrong != of(-1, -1, -1, -1, -1) || most != of(1, 0, -1, -1, -1) || up != of(2, 1, -1, -1, -1) || inst != of(5, -1, -1, -1, 5) {
			t.Error(num, param, wrong, most, up, inst)
		}
		for _, l := range []*api.Level{&num, &param, &wrong, &most, &up, &inst} {
			*l = of(77, 55, 55, 55, 55)
		}
	}
}

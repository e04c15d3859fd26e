package seal

import (
	"bytes"
	"testing"

	"imprimatur/api"
)

// fill overwrites a slice with all that stands behind its length.
func fill(b []byte, value byte) {
	b = b[:cap(b)]
	for i := range b {
		b[i] = value
	}
}

func fillBlocks(list []api.Block, value byte) {
	list = list[:cap(list)]
	for i := range list {
		fill(list[i][:], value)
	}
}

// P4.4: arguments stay as they are, with the memory behind their length.
func TestArgumentsUnchanged(t *testing.T) {
	for _, n := range sizes() {
		long := message(n + 80)
		pack(t, 5, 9, long[:n])
		Pack(0, 9, long[:n])
		if !bytes.Equal(long, message(n+80)) {
			t.Error("Pack", n)
		}
		list := append(pack(t, 5, 9, long[:n]), api.Block{1}, api.Block{2})
		was := append([]api.Block(nil), list...)
		for cut := range list {
			Unpack(list[:cut], 5, 9)
			Unpack(list[:cut], 6, 9)
			Highest(list[:cut]...)
		}
		Mark(list[0])
		Data(list[0])
		Whole(list[0])
		if !equal(list, was) {
			t.Error("a list", n)
		}
	}
}

// P4.4: arguments are not kept: what is done to them later shows nowhere.
func TestArgumentsNotKept(t *testing.T) {
	for _, n := range sizes() {
		rec := message(n)
		list := pack(t, 5, 9, rec)
		fill(rec, 77)
		if !equal(list, plainPack(5, 9, message(n))) {
			t.Error("Pack", n)
		}
		got, _, ok := Unpack(list, 5, 9)
		data := Data(list[0])
		want := append([]byte(nil), list[0][10:10+len(data)]...)
		fillBlocks(list, 77)
		if !ok || !bytes.Equal(got, message(n)) || !bytes.Equal(data, want) {
			t.Error("Unpack, Data", n)
		}
	}
}

// P4.4: results are new memory, also behind their length: what is done to one shows in no other and in no argument.
func TestResultsNew(t *testing.T) {
	for _, n := range sizes() {
		rec := message(n)
		first, second := pack(t, 5, 9, rec), pack(t, 5, 9, rec)
		fillBlocks(first, 77)
		if !equal(second, plainPack(5, 9, message(n))) || !bytes.Equal(rec, message(n)) {
			t.Error("Pack", n)
		}
		one, _, _ := Unpack(second, 5, 9)
		two, _, _ := Unpack(second, 5, 9)
		fill(one, 77)
		if !bytes.Equal(two, message(n)) || !equal(second, plainPack(5, 9, message(n))) {
			t.Error("Unpack", n)
		}
		data, again := Data(second[0]), Data(second[0])
		fill(data, 77)
		if !bytes.Equal(again, second[0][10:10+len(again)]) || !equal(second, plainPack(5, 9, message(n))) {
			t.Error("Data", n)
		}
	}
}

// P4.4: what is appended to a result shows nowhere else.
func TestResultsAppended(t *testing.T) {
	list := pack(t, 5, 9, message(20))
	rec, _, _ := Unpack(list, 5, 9)
	longer := append(rec, 1, 2, 3)
	other, _, _ := Unpack(list, 5, 9)
	if !bytes.Equal(other, message(20)) || !bytes.Equal(rec, message(20)) || len(longer) != 23 {
		t.Error(other)
	}
}

// P1, and P4.1 to P4.3 again and again: an answer hangs on the arguments alone.
func TestSameAgain(t *testing.T) {
	for range 3 {
		list := pack(t, 5, 9, message(60))
		if !equal(list, plainPack(5, 9, message(60))) || Highest(list...) != 5 {
			t.Error(list)
		}
		none(t, list, 6, 9)
		sameAnswer(t, list, 5, 9)
	}
}

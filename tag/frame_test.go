package tag

import (
	"bytes"
	"crypto/sha256"
	"encoding/binary"
	"math/rand"
	"slices"
	"testing"

	"imprimatur/api"
)

func byHand(parts ...[]byte) []byte {
	b := binary.LittleEndian.AppendUint32(nil, uint32(len(parts)))
	for _, part := range parts {
		b = binary.LittleEndian.AppendUint32(b, uint32(len(part)))
		b = append(b, part...)
	}
	return b
}

func nodeByHand(kind byte, parts ...[]byte) api.Digest {
	return sha256.Sum256(append([]byte{kind}, byHand(parts...)...))
}

func sameParts(a, b [][]byte) bool {
	return slices.EqualFunc(a, b, func(x, y []byte) bool { return bytes.Equal(x, y) })
}

func cloneParts(parts [][]byte) [][]byte {
	twin := make([][]byte, len(parts))
	for i := range parts {
		twin[i] = bytes.Clone(parts[i])
	}
	return twin
}

func texts(list ...string) [][]byte {
	parts := make([][]byte, len(list))
	for i := range list {
		parts[i] = []byte(list[i])
	}
	return parts
}

// numbered: n bytes, not all the same.
func numbered(n int) []byte {
	b := make([]byte, n)
	for i := range b {
		b[i] = byte(i*13 + i>>8)
	}
	return b
}

// lists: ordinary ones and those at the edges: no parts, empty parts, counts and lengths of one, two and three bytes.
func lists() [][][]byte {
	return [][][]byte{
		nil,
		{},
		{nil},
		{{}},
		{nil, nil, nil},
		{{0}},
		{{0, 0, 0, 0}},
		{{0, 0, 0, 0}, nil},
		texts("ab"),
		texts("a", "b"),
		texts("b", "a"),
		texts("ab", ""),
		texts("", "ab"),
		texts("a", "", "b", "", ""),
		{numbered(255)},
		{numbered(256), numbered(3)},
		{numbered(257)},
		{numbered(65535), nil},
		{numbered(65536)},
		{numbered(70001), numbered(9)},
		{numbered(1<<24 + 3)},
		make([][]byte, 255),
		make([][]byte, 256),
		make([][]byte, 65536),
		slices.Repeat(texts("x", ""), 40000),
		{byHand(texts("a", "b")...)},
		{byHand()},
		{nil, byHand(nil)},
	}
}

// P2.2: the frame as the chapter's example has it, and others written out.
func TestFrameKnown(t *testing.T) {
	for _, c := range []struct {
		parts [][]byte
		want  string
	}{
		{texts("ab"), "\x01\x00\x00\x00\x02\x00\x00\x00ab"},
		{nil, "\x00\x00\x00\x00"},
		{[][]byte{nil}, "\x01\x00\x00\x00\x00\x00\x00\x00"},
		{[][]byte{{}, {}}, "\x02\x00\x00\x00\x00\x00\x00\x00\x00\x00\x00\x00"},
		{texts("", "c", ""), "\x03\x00\x00\x00\x00\x00\x00\x00\x01\x00\x00\x00c\x00\x00\x00\x00"},
		{texts("\xff\x00"), "\x01\x00\x00\x00\x02\x00\x00\x00\xff\x00"},
		{make([][]byte, 258), "\x02\x01\x00\x00" + string(make([]byte, 4*258))},
		{[][]byte{make([]byte, 0x10203)}, "\x01\x00\x00\x00\x03\x02\x01\x00" + string(make([]byte, 0x10203))},
		{[][]byte{make([]byte, 0x1020304)}, "\x01\x00\x00\x00\x04\x03\x02\x01" + string(make([]byte, 0x1020304))},
	} {
		if got := Frame(c.parts...); string(got) != c.want {
			t.Errorf("%d parts: %d bytes", len(c.parts), len(got))
		}
	}
	if !bytes.Equal(Frame(), []byte{0, 0, 0, 0}) {
		t.Error("no parts")
	}
}

// P2.2, P2.3: Unframe inverts Frame.
func TestUnframeInverts(t *testing.T) {
	for i, parts := range lists() {
		b := Frame(parts...)
		if !bytes.Equal(b, byHand(parts...)) {
			t.Error(i, "frame")
		}
		if got, ok := Unframe(b); !ok || !sameParts(got, parts) {
			t.Error(i, "parts")
		}
	}
}

// P2.2, P2.3: likewise for lists drawn at random.
func TestUnframeRandom(t *testing.T) {
	r := rand.New(rand.NewSource(24))
	for range 2000 {
		parts := make([][]byte, r.Intn(12))
		for i := range parts {
			parts[i] = make([]byte, r.Intn(40)*r.Intn(2))
			r.Read(parts[i])
		}
		b := Frame(parts...)
		if got, ok := Unframe(b); !bytes.Equal(b, byHand(parts...)) || !ok || !sameParts(got, parts) {
			t.Error(parts)
		}
	}
}

// shortLists calls use with every list of up to three parts of up to two bytes 0, 1 or 2.
func shortLists(use func([][]byte)) {
	parts := [][]byte{nil}
	for from := 0; len(parts) < 13; from++ {
		for c := range 3 {
			parts = append(parts, append(bytes.Clone(parts[from]), byte(c)))
		}
	}
	use(nil)
	for _, a := range parts {
		use([][]byte{a})
		for _, b := range parts {
			use([][]byte{a, b})
			for _, c := range parts {
				use([][]byte{a, b, c})
			}
		}
	}
}

// P2.3: no two lists of parts have the same frame, nor the same node.
func TestFramesDiffer(t *testing.T) {
	frames, nodes, count := map[string]bool{}, map[api.Digest]bool{}, 0
	shortLists(func(parts [][]byte) {
		count++
		frames[string(Frame(parts...))] = true
		nodes[Node(3, parts...)] = true
	})
	if count != 1+13+13*13+13*13*13 || len(frames) != count || len(nodes) != count {
		t.Error(count, len(frames), len(nodes))
	}
}

// refused: whether Unframe answers an empty slice and false.
func refused(b []byte) bool {
	parts, ok := Unframe(b)
	return !ok && len(parts) == 0
}

// P2.2: a frame that is cut short or has bytes behind its end is none.
func TestUnframeCutAndLonger(t *testing.T) {
	for i, parts := range lists() {
		b := Frame(parts...)
		if len(b) > 2000 {
			continue
		}
		for cut := range b {
			if !refused(b[:cut]) {
				t.Error(i, cut)
			}
		}
		for _, more := range [][]byte{{0}, {1}, {0, 0, 0, 0}, {255, 255, 255, 255}, b} {
			if !refused(slices.Concat(b, more)) {
				t.Error(i, more)
			}
		}
	}
	if !refused(nil) || !refused([]byte{}) {
		t.Error("no bytes")
	}
}

// P2.2: what stands in memory behind the length of the bytes is not looked at.
func TestUnframeSpare(t *testing.T) {
	b := Frame(texts("abc", "de")...)
	for cut := range b {
		if !refused(b[:cut:len(b)]) {
			t.Error(cut)
		}
	}
	longer := append(bytes.Clone(b), 1, 2, 3)
	if parts, ok := Unframe(longer[:len(b)]); !ok || !sameParts(parts, texts("abc", "de")) {
		t.Error(parts, ok)
	}
}

// P2.2, P1: a count or a length that promises more than there is, up to the greatest.
func TestUnframePromises(t *testing.T) {
	numbers := []uint32{1, 2, 3, 7, 255, 256, 65536, 1 << 24, 1<<30 - 1, 1 << 30, 1<<31 - 1, 1 << 31, 1<<31 + 1, 1<<32 - 8, 1<<32 - 4, 1<<32 - 1}
	for _, n := range numbers {
		count := binary.LittleEndian.AppendUint32(nil, n)
		if !refused(count) || !refused(append(bytes.Clone(count), 0, 0, 0)) {
			t.Error("a count alone", n)
		}
		if n > 1 && !refused(append(bytes.Clone(count), 0, 0, 0, 0)) {
			t.Error("a count and one part", n)
		}
		one := append([]byte{1, 0, 0, 0}, count...)
		if !refused(one) || n > 1 && !refused(append(bytes.Clone(one), 0)) {
			t.Error("a length", n)
		}
		two := append([]byte{2, 0, 0, 0, 1, 0, 0, 0, 'x'}, count...)
		if !refused(two) || n > 1 && !refused(append(bytes.Clone(two), 0)) {
			t.Error("the last length", n)
		}
	}
	for _, b := range [][]byte{
		{0, 0, 0, 0, 0, 0, 0, 0},
		{1, 0, 0, 0, 0, 0, 0, 0, 0},
		{0, 0, 0, 1},
		{1, 0, 0, 0, 0, 0, 0, 1, 7},
		bytes.Repeat([]byte{255}, 64),
		append([]byte{255, 255, 255, 255}, make([]byte, 4<<20)...),
	} {
		if !refused(b) {
			t.Error(len(b))
		}
	}
}

// P2.2, P2.3: of frames with some bytes changed, Unframe takes exactly those that are frames again.
func TestUnframeExactly(t *testing.T) {
	r := rand.New(rand.NewSource(25))
	taken := 0
	for range 200000 {
		b := byHand(texts("a", "", "bcd", "\x00\x00\x00\x00")[:r.Intn(5)]...)
		for range 1 + r.Intn(3) {
			b[r.Intn(len(b))] = byte(r.Intn(6))
		}
		parts, ok := Unframe(b)
		if ok {
			taken++
		}
		if ok && !bytes.Equal(byHand(parts...), b) || !ok && len(parts) != 0 {
			t.Fatal(b, parts, ok)
		}
		if !ok && isFrame(b) {
			t.Fatal(b, "refused")
		}
	}
	if taken < 1000 {
		t.Error("too few of them are frames", taken)
	}
}

// isFrame reads with the library's reader, so that Unframe is not asked about itself.
func isFrame(b []byte) bool {
	r := bytes.NewReader(b)
	var count, size uint32
	if binary.Read(r, binary.LittleEndian, &count) != nil {
		return false
	}
	for range count {
		if binary.Read(r, binary.LittleEndian, &size) != nil || int64(size) > int64(r.Len()) {
			return false
		}
		r.Seek(int64(size), 1)
	}
	return r.Len() == 0
}

// P2.2: the node, for each kind and at the edges of the parts.
func TestNode(t *testing.T) {
	for kind := range 256 {
		parts := texts("p", "", "qr")
		if Node(byte(kind), parts...) != nodeByHand(byte(kind), parts...) || Node(byte(kind)) != sha256.Sum256([]byte{byte(kind), 0, 0, 0, 0}) {
			t.Error(kind)
		}
	}
	for i, parts := range lists() {
		if Node(7, parts...) != nodeByHand(7, parts...) {
			t.Error(i)
		}
	}
}

// P2.2, P2.3: kinds, the cut between parts, empty parts and the order of parts all count.
func TestNodesDiffer(t *testing.T) {
	seen := map[api.Digest]int{}
	for kind := range 256 {
		seen[Node(byte(kind))]++
		seen[Node(byte(kind), nil)]++
		seen[Node(byte(kind), []byte("ab"))]++
		seen[Node(byte(kind), []byte("a"), []byte("b"))]++
		seen[Node(byte(kind), []byte("b"), []byte("a"))]++
		seen[Node(byte(kind), []byte("ab"), nil)]++
	}
	if len(seen) != 6*256 {
		t.Error(len(seen))
	}
}

// P2.2: texts are their bytes, whatever these are.
func TestTexts(t *testing.T) {
	for _, list := range [][]string{nil, {}, {""}, {"", ""}, {"a"}, {"a", ""}, {"", "a"}, {"ab", "c"}, {"a", "bc"}, {"é", "\xff\xfe", "\x00", "日本"}, {string(numbered(70000)), "x"}} {
		for _, kind := range []byte{0, 1, 128, 255} {
			if Texts(kind, list...) != nodeByHand(kind, texts(list...)...) {
				t.Error(kind, len(list))
			}
		}
	}
	if Texts(4) != Node(4) || Texts(4, "") != Node(4, nil) || Texts(4, "a", "b") == Texts(4, "b", "a") {
		t.Error("edges")
	}
}

// P2.2: a set is the node of its digests in increasing order, each once.
func TestSetKnown(t *testing.T) {
	a, b, c := api.Digest{31: 1}, api.Digest{0, 1}, api.Digest{128}
	for _, kind := range []byte{0, 9, 255} {
		if Set(kind) != nodeByHand(kind) || Set(kind, []api.Digest(nil)...) != nodeByHand(kind) {
			t.Error(kind, "none")
		}
		if Set(kind, api.Digest{}) != nodeByHand(kind, make([]byte, 32)) {
			t.Error(kind, "the zero digest")
		}
		if Set(kind, c, a, b, c, a) != nodeByHand(kind, a[:], b[:], c[:]) {
			t.Error(kind, "three")
		}
	}
}

// P2.2, P2.3: a set depends on which digests there are, not on their order or how often they stand there.
func TestSetRandom(t *testing.T) {
	r := rand.New(rand.NewSource(26))
	for n := range 100 {
		list := drawn(r, n, n+1)
		want := nodeByHand(5, texts(sortByMap(list)...)...)
		for range 5 {
			r.Shuffle(len(list), func(i, k int) { list[i], list[k] = list[k], list[i] })
			more := append(slices.Clone(list), list[:r.Intn(n+1)]...)
			if Set(5, list...) != want || Set(5, more...) != want {
				t.Fatal(n)
			}
		}
	}
}

// P2.3: sets of other digests, and of another kind, are other nodes.
func TestSetsDiffer(t *testing.T) {
	seen := map[api.Digest]bool{}
	for mask := range 64 {
		var list []api.Digest
		for i := range 6 {
			if mask>>i&1 == 1 {
				list = append(list, spread(i))
			}
		}
		seen[Set(1, list...)] = true
		seen[Set(2, list...)] = true
	}
	if len(seen) != 128 {
		t.Error(len(seen))
	}
}

// P2.3: Frame and Node leave their parts and the list of them as they are, with the memory behind the lengths.
func TestPartsUnchanged(t *testing.T) {
	memory := numbered(100)
	was := bytes.Clone(memory)
	all := [][]byte{memory[:0], memory[3:9], nil, memory[:50], memory[3:9], memory[90:]}
	lengths := []int{0, 6, 0, 50, 6, 10}
	for n := range len(all) + 1 {
		f := Frame(all[:n]...)
		Node(1, all[:n]...)
		clear(f[:cap(f)])
		if !bytes.Equal(memory, was) {
			t.Fatal(n, "the bytes are changed")
		}
		for i := range all {
			if len(all[i]) != lengths[i] {
				t.Fatal(n, "the list is changed")
			}
		}
	}
}

// P2.3: a frame is its own memory: it neither shows later changes of the parts, nor those of another frame.
func TestFrameApart(t *testing.T) {
	for i, parts := range lists() {
		if len(parts) > 300 {
			continue
		}
		mine := cloneParts(parts)
		f, g := Frame(mine...), Frame(mine...)
		for _, part := range mine {
			clear(part)
		}
		clear(mine)
		clear(g[:cap(g)])
		if want := byHand(parts...); !bytes.Equal(f, want) || !bytes.Equal(Frame(parts...), want) {
			t.Error(i)
		}
	}
}

// P2.3: the parts of Unframe share nothing with the bytes.
func TestUnframeApartFromBytes(t *testing.T) {
	for i, parts := range lists() {
		if len(parts) > 300 {
			continue
		}
		whole := append(Frame(parts...), 77, 78, 79)
		was := bytes.Clone(whole)
		b := whole[:len(whole)-3]
		got, _ := Unframe(b)
		other, _ := Unframe(b)
		for _, part := range other {
			clear(part[:cap(part)])
		}
		clear(other[:cap(other)])
		if !bytes.Equal(whole, was) {
			t.Error(i, "the bytes are changed through the parts")
		}
		clear(whole)
		if !sameParts(got, parts) {
			t.Error(i, "the parts are kept in the bytes")
		}
	}
}

// P2.3: no two parts share memory, not even beyond their lengths.
func TestUnframeApartFromEachOther(t *testing.T) {
	parts := [][]byte{numbered(5), nil, numbered(33), numbered(1), numbered(64), numbered(7), nil, nil}
	for i := range parts {
		got, ok := Unframe(Frame(parts...))
		if !ok {
			t.Fatal("no frame")
		}
		part := got[i][:cap(got[i])]
		for k := range part {
			part[k] ^= 255
		}
		for k := range got {
			if k != i && !bytes.Equal(got[k], parts[k]) {
				t.Error(i, k)
			}
		}
	}
}

// P2.3: Texts and Set leave their lists as they are, with the memory behind the lengths.
func TestListsUnchanged(t *testing.T) {
	words := []string{"b", "", "a", "b", "z"}
	Texts(1, words[:3]...)
	if !slices.Equal(words, []string{"b", "", "a", "b", "z"}) {
		t.Error(words)
	}
	list := []api.Digest{{9}, {3}, {9}, {1}, {3}, {7}, {2}}
	was := slices.Clone(list)
	for n := range len(list) + 1 {
		Set(1, list[:n]...)
		if !slices.Equal(list, was) {
			t.Fatal(n, list)
		}
	}
}

// P1: whatever bytes Unframe is given, it ends without a panic, and what it takes is a frame.
func FuzzUnframe(f *testing.F) {
	f.Add([]byte(nil))
	f.Add([]byte{1, 0, 0, 0, 2, 0, 0, 0, 'a', 'b'})
	f.Add(bytes.Repeat([]byte{255}, 9))
	f.Fuzz(func(t *testing.T, b []byte) {
		parts, ok := Unframe(b)
		if ok != isFrame(b) || ok && !bytes.Equal(Frame(parts...), b) || !ok && len(parts) != 0 {
			t.Error(b, parts, ok)
		}
	})
}

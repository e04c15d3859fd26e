package code

import (
	"bytes"
	"math"
	"math/big"
	"math/rand"
	"slices"
	"strings"
	"testing"

	"imprimatur/api"
	"imprimatur/level"
	"imprimatur/term"
)

// most is the greatest integer that has an encoding, and the greatest number of variables.
const most = 1 << 40

// outside: numbers that have no encoding.
var outside = []int{math.MinInt, math.MinInt + 1, -1 << 62, -most - 1, -most, -256, -255, -2, -1, most + 1, most + 2, most + 255, 1<<48 - 1, 1 << 48, 1 << 56, 1 << 62, math.MaxInt - 1, math.MaxInt}

// binders: the kinds whose last Arg is inside one more binder.
var binders = []int{api.TLam, api.TPi, api.TLet}

// declKinds: the kinds of declarations.
var declKinds = []int{api.DAxiom, api.DDef, api.DOpaque, api.DFamily}

func v(n int) api.Term { return api.Term{Kind: api.TVar, N: n} }

func prop() api.Term { return api.Term{Kind: api.TProp} }

func typ(l api.Level) api.Term { return api.Term{Kind: api.TType, Levels: []api.Level{l}} }

func c(name string, levels ...api.Level) api.Term {
	return api.Term{Kind: api.TConst, Name: name, Levels: levels}
}

func node(kind int, args ...api.Term) api.Term { return api.Term{Kind: kind, Args: args} }

func proj(n int, name string, part api.Term) api.Term {
	return api.Term{Kind: api.TProj, N: n, Name: name, Args: []api.Term{part}}
}

// under: a term inside n binders of a kind.
func under(kind, n int, t api.Term) api.Term {
	for range n {
		if kind == api.TLet {
			t = node(kind, prop(), prop(), t)
		} else {
			t = node(kind, prop(), t)
		}
	}
	return t
}

// wide: a valid term of n nodes without variables that nothing binds.
func wide(n int) api.Term {
	t := prop()
	for i := 3; i <= n; i += 2 {
		t = node(api.TApp, t, prop())
	}
	if n%2 == 0 {
		return proj(0, "s", t)
	}
	return t
}

func axiom(name string, params int, typ api.Term) api.Decl {
	return api.Decl{Kind: api.DAxiom, Name: name, Params: params, Type: typ}
}

func def(name string, params int, typ, value api.Term) api.Decl {
	return api.Decl{Kind: api.DDef, Name: name, Params: params, Type: typ, Value: value}
}

func opaque(name string, params int, typ, value api.Term) api.Decl {
	return api.Decl{Kind: api.DOpaque, Name: name, Params: params, Type: typ, Value: value}
}

func family(name string, params int, typ api.Term, fixed int, ctors ...api.Ctor) api.Decl {
	return api.Decl{Kind: api.DFamily, Name: name, Params: params, Type: typ, Fixed: fixed, Ctors: ctors}
}

// The model: the chapter's encodings, put together of the encodings of their parts.

func plainNum(n int) []byte {
	digits := big.NewInt(int64(n)).Bytes()
	return slices.Concat([]byte{byte(len(digits))}, digits)
}

func plainText(s string) []byte { return slices.Concat(plainNum(len(s)), []byte(s)) }

func plainLevel(l api.Level) []byte {
	return []byte{byte(l.Base), byte(l.Plus[0] + 1), byte(l.Plus[1] + 1), byte(l.Plus[2] + 1), byte(l.Plus[3] + 1)}
}

// plainTerm is the chapter's encoding of a term, whatever is in it.
func plainTerm(t api.Term) []byte {
	b := []byte{byte(t.Kind)}
	if t.Kind == api.TVar || t.Kind == api.TProj {
		b = append(b, plainNum(t.N)...)
	}
	if t.Kind == api.TConst || t.Kind == api.TProj {
		b = append(b, plainText(t.Name)...)
	}
	if t.Kind == api.TConst {
		b = append(b, byte(len(t.Levels)))
	}
	for _, l := range t.Levels {
		b = append(b, plainLevel(l)...)
	}
	for _, arg := range t.Args {
		b = append(b, plainTerm(arg)...)
	}
	return b
}

// plainDecl is the chapter's encoding of a declaration, whatever is in it.
func plainDecl(d api.Decl) []byte {
	b := slices.Concat([]byte{byte(d.Kind)}, plainText(d.Name), []byte{byte(d.Params)}, plainTerm(d.Type))
	if d.Kind == api.DDef || d.Kind == api.DOpaque {
		b = append(b, plainTerm(d.Value)...)
	}
	if d.Kind == api.DFamily {
		b = append(b, byte(d.Fixed), byte(len(d.Ctors)))
		for _, ctor := range d.Ctors {
			b = append(b, slices.Concat(plainText(ctor.Name), plainTerm(ctor.Type))...)
		}
	}
	return b
}

// plainLibrary is the chapter's encoding of a list of declarations, whatever is in it.
func plainLibrary(list []api.Decl) []byte {
	b := plainNum(len(list))
	for _, d := range list {
		b = append(b, plainDecl(d)...)
	}
	return b
}

func hasNum(n int) bool { return 0 <= n && n <= most }

// hasTerm: has a term an encoding?
func hasTerm(t api.Term) bool { return term.Right(t, 4, most) && greatest(t) <= most }

// greatest: the greatest N of a variable in a valid term.
func greatest(t api.Term) int {
	n := 0
	if t.Kind == api.TVar {
		n = t.N
	}
	for _, arg := range t.Args {
		n = max(n, greatest(arg))
	}
	return n
}

// hasDecl is the chapter's "well formed", sentence by sentence.
func hasDecl(d api.Decl) bool {
	if !slices.Contains(declKinds, d.Kind) || !term.Word(d.Name) || d.Params < 0 || d.Params > 4 || !term.Right(d.Type, d.Params, 0) {
		return false
	}
	if d.Kind == api.DDef || d.Kind == api.DOpaque {
		if !term.Right(d.Value, d.Params, 0) {
			return false
		}
	} else if d.Value.Kind != 0 || d.Value.N != 0 || d.Value.Name != "" || len(d.Value.Levels) != 0 || len(d.Value.Args) != 0 {
		return false
	}
	if d.Kind != api.DFamily {
		return d.Fixed == 0 && len(d.Ctors) == 0
	}
	for _, ctor := range d.Ctors {
		if !term.Word(ctor.Name) || !term.Right(ctor.Type, d.Params, 0) {
			return false
		}
	}
	return len(d.Ctors) <= 8 && d.Fixed >= 0 && d.Fixed <= 16
}

// hasLibrary: is a list a library?
func hasLibrary(list []api.Decl) bool {
	for _, d := range list {
		if !hasDecl(d) {
			return false
		}
	}
	return len(list) <= 64
}

// The model of decoding: whatever the bytes are, something is read out of them, bytes that are missing as zeros. The bytes begin with an encoding if and only if what was read has one and they begin with that one.

type loose struct {
	b     []byte
	nodes int
}

func (l *loose) one() int {
	if len(l.b) == 0 {
		return 0
	}
	n := int(l.b[0])
	l.b = l.b[1:]
	return n
}

func (l *loose) num() int {
	n := 0
	for range l.one() {
		n = n*256 + l.one()
	}
	return n
}

func (l *loose) text() string {
	n := min(max(l.num(), 0), len(l.b))
	s := string(l.b[:n])
	l.b = l.b[n:]
	return s
}

func (l *loose) level() api.Level {
	return api.Level{Base: l.one(), Plus: [4]int{l.one() - 1, l.one() - 1, l.one() - 1, l.one() - 1}}
}

func (l *loose) term() api.Term {
	l.nodes = 0
	return l.node()
}

// node: with more than 3,000 nodes, a term has no encoding, whatever else is read.
func (l *loose) node() api.Term {
	t := api.Term{Kind: l.one()}
	l.nodes++
	if l.nodes > 3001 {
		return t
	}
	if t.Kind == api.TVar || t.Kind == api.TProj {
		t.N = l.num()
	}
	if t.Kind == api.TConst || t.Kind == api.TProj {
		t.Name = l.text()
	}
	levels := map[int]int{api.TType: 1}[t.Kind]
	if t.Kind == api.TConst {
		levels = l.one()
	}
	for range levels {
		t.Levels = append(t.Levels, l.level())
	}
	for range map[int]int{api.TApp: 2, api.TLam: 2, api.TPi: 2, api.TLet: 3, api.TProj: 1}[t.Kind] {
		t.Args = append(t.Args, l.node())
	}
	return t
}

func (l *loose) decl() api.Decl {
	d := api.Decl{Kind: l.one(), Name: l.text(), Params: l.one(), Type: l.term()}
	if d.Kind == api.DDef || d.Kind == api.DOpaque {
		d.Value = l.term()
	}
	if d.Kind == api.DFamily {
		d.Fixed = l.one()
		for range l.one() {
			d.Ctors = append(d.Ctors, api.Ctor{Name: l.text(), Type: l.term()})
		}
	}
	return d
}

func (l *loose) library() []api.Decl {
	var list []api.Decl
	for range min(max(l.num(), 0), 65) {
		list = append(list, l.decl())
	}
	return list
}

// plainTake: what was read, and what is behind its encoding, if bytes begin with that.
func plainTake[T any](b []byte, read T, has func(T) bool, encode func(T) []byte) (T, []byte, bool) {
	if has(read) {
		if rest, ok := bytes.CutPrefix(b, encode(read)); ok {
			return read, rest, true
		}
	}
	var zero T
	return zero, nil, false
}

func plainTakeNum(b []byte) (int, []byte, bool) {
	return plainTake(b, (&loose{b: b}).num(), hasNum, plainNum)
}

func plainTakeTerm(b []byte) (api.Term, []byte, bool) {
	return plainTake(b, (&loose{b: b}).term(), hasTerm, plainTerm)
}

func plainTakeDecl(b []byte) (api.Decl, []byte, bool) {
	return plainTake(b, (&loose{b: b}).decl(), hasDecl, plainDecl)
}

func plainTakeLibrary(b []byte) ([]api.Decl, bool) {
	list, rest, ok := plainTake(b, (&loose{b: b}).library(), hasLibrary, plainLibrary)
	if !ok || len(rest) > 0 {
		return nil, false
	}
	return list, true
}

// sameDecl: are two declarations equal, field by field?
func sameDecl(a, b api.Decl) bool {
	sameCtor := func(x, y api.Ctor) bool { return x.Name == y.Name && term.Same(x.Type, y.Type) }
	return a.Kind == b.Kind && a.Params == b.Params && a.Name == b.Name && a.Fixed == b.Fixed &&
		term.Same(a.Type, b.Type) && term.Same(a.Value, b.Value) && slices.EqualFunc(a.Ctors, b.Ctors, sameCtor)
}

func sameLibrary(a, b []api.Decl) bool { return slices.EqualFunc(a, b, sameDecl) }

// answers asks that an encoding is the one that is wanted, or an empty slice and false.
func answers(t *testing.T, about any, got []byte, ok bool, want []byte, wantOK bool) {
	t.Helper()
	if ok != wantOK || !ok && len(got) > 0 || ok && !bytes.Equal(got, want) {
		t.Fatal(about, "got", got, ok, "want", want, wantOK)
	}
}

// numIs asks Num and TakeNum what the chapter's words say of a number.
func numIs(t *testing.T, n int) {
	t.Helper()
	got, ok := Num(n)
	answers(t, n, got, ok, plainNum(n), hasNum(n))
	if ok {
		takeNumIs(t, slices.Concat(got, []byte{0, 7}))
	}
}

// termIs asks Term and TakeTerm what the chapter's words say of a term.
func termIs(t *testing.T, x api.Term) {
	t.Helper()
	got, ok := Term(x)
	var want []byte
	has := hasTerm(x)
	if has {
		want = plainTerm(x)
	}
	answers(t, x, got, ok, want, has)
	if ok {
		back, rest, ok := TakeTerm(slices.Concat(got, []byte{5, 1}))
		if !ok || !term.Same(back, x) || !bytes.Equal(rest, []byte{5, 1}) {
			t.Fatal(x, "got back", back, rest, ok)
		}
	}
}

// declIs asks Decl, Formed and TakeDecl what the chapter's words say of a declaration.
func declIs(t *testing.T, d api.Decl) {
	t.Helper()
	got, ok := Decl(d)
	var want []byte
	has := hasDecl(d)
	if has {
		want = plainDecl(d)
	}
	answers(t, d, got, ok, want, has)
	if Formed(d) != has {
		t.Fatal(d, "formed", Formed(d))
	}
	if ok {
		back, rest, ok := TakeDecl(slices.Concat(got, []byte{1, 2}))
		if !ok || !sameDecl(back, d) || !bytes.Equal(rest, []byte{1, 2}) {
			t.Fatal(d, "got back", back, rest, ok)
		}
	}
}

// libraryIs asks Library and TakeLibrary what the chapter's words say of a list.
func libraryIs(t *testing.T, list []api.Decl) {
	t.Helper()
	got, ok := Library(list)
	var want []byte
	has := hasLibrary(list)
	if has {
		want = plainLibrary(list)
	}
	answers(t, list, got, ok, want, has)
	if ok {
		if back, ok := TakeLibrary(got); !ok || !sameLibrary(back, list) {
			t.Fatal(list, "got back", back, ok)
		}
	}
}

// takeNumIs asks TakeNum what the chapter's words say of bytes.
func takeNumIs(t *testing.T, b []byte) bool {
	t.Helper()
	got, rest, ok := TakeNum(b)
	want, wantRest, wantOK := plainTakeNum(b)
	if ok != wantOK || got != want || !bytes.Equal(rest, wantRest) {
		t.Fatal(b, "got", got, rest, ok, "want", want, wantRest, wantOK)
	}
	return ok
}

// takeTermIs asks TakeTerm what the chapter's words say of bytes.
func takeTermIs(t *testing.T, b []byte) bool {
	t.Helper()
	got, rest, ok := TakeTerm(b)
	want, wantRest, wantOK := plainTakeTerm(b)
	if ok != wantOK || !term.Same(got, want) || !bytes.Equal(rest, wantRest) {
		t.Fatal(b, "got", got, rest, ok, "want", want, wantRest, wantOK)
	}
	return ok
}

// takeDeclIs asks TakeDecl what the chapter's words say of bytes.
func takeDeclIs(t *testing.T, b []byte) bool {
	t.Helper()
	got, rest, ok := TakeDecl(b)
	want, wantRest, wantOK := plainTakeDecl(b)
	if ok != wantOK || !sameDecl(got, want) || !bytes.Equal(rest, wantRest) {
		t.Fatal(b, "got", got, rest, ok, "want", want, wantRest, wantOK)
	}
	return ok
}

// takeLibraryIs asks TakeLibrary what the chapter's words say of bytes.
func takeLibraryIs(t *testing.T, b []byte) bool {
	t.Helper()
	got, ok := TakeLibrary(b)
	want, wantOK := plainTakeLibrary(b)
	if ok != wantOK || !sameLibrary(got, want) {
		t.Fatal(b, "got", got, ok, "want", want, wantOK)
	}
	return ok
}

// drawn: a valid term drawn at random, for these numbers of parameters and variables; it has about so many nodes.
func drawn(r *rand.Rand, params, vars, nodes int) api.Term {
	if nodes <= 1 {
		return drawnLeaf(r, params, vars)
	}
	part := func(n int, more int) api.Term { return drawn(r, params, vars+more, n) }
	first := 1 + r.Intn(nodes)
	switch r.Intn(7) {
	case 0, 1:
		return node(binders[r.Intn(2)], part(first/2, 0), part(nodes-first/2-1, 1))
	case 2:
		return node(api.TLet, part(first/3, 0), part(first/3, 0), part(nodes-first*2/3-1, 1))
	case 3:
		return proj(r.Intn(32), drawnName(r), part(nodes-1, 0))
	}
	return node(api.TApp, part(first, 0), part(nodes-first-1, 0))
}

func drawnLeaf(r *rand.Rand, params, vars int) api.Term {
	switch k := r.Intn(8); {
	case k == 0:
		return prop()
	case k == 1:
		return typ(drawnLevel(r, params))
	case k <= 4 || vars == 0:
		t := c(drawnName(r))
		if r.Intn(3) == 0 {
			for range 1 + r.Intn(4) {
				t.Levels = append(t.Levels, drawnLevel(r, params))
			}
		}
		return t
	case k == 5:
		return v(vars - 1 - r.Intn(min(vars, 3)))
	}
	return v(r.Intn(min(vars, 300)))
}

func drawnLevel(r *rand.Rand, params int) api.Level {
	l := level.Num(r.Intn(5))
	if r.Intn(8) == 0 {
		l = level.Num(r.Intn(101))
	}
	for i := range params {
		if r.Intn(2) == 0 {
			l.Plus[i] = r.Intn(l.Base+2) - 1
		}
	}
	return l
}

func drawnName(r *rand.Rand) string {
	return []string{"a", "b", "n", "nat.rec", "s", strings.Repeat("q", 32)}[r.Intn(6)]
}

// drawnDecl: a well-formed declaration drawn at random, with terms of about so many nodes.
func drawnDecl(r *rand.Rand, nodes int) api.Decl {
	params := r.Intn(5)
	d := axiom(drawnName(r), params, drawn(r, params, 0, 1+r.Intn(nodes)))
	switch d.Kind = declKinds[r.Intn(4)]; d.Kind {
	case api.DDef, api.DOpaque:
		d.Value = drawn(r, params, 0, 1+r.Intn(nodes))
	case api.DFamily:
		d.Fixed = r.Intn(17)
		for range r.Intn(9) {
			d.Ctors = append(d.Ctors, api.Ctor{Name: drawnName(r), Type: drawn(r, params, 0, 1+r.Intn(nodes))})
		}
	}
	return d
}

// noNames: texts that are no names, a reserved word among them.
func noNames() []string {
	return []string{"", "fun", "Prop", "u0", "in", ".", "a.", ".a", "a..b", "1", "_a", "a b", "\x00", "a\xff", "é", strings.Repeat("q", 33), strings.Repeat("q", 255), strings.Repeat("q", 256), strings.Repeat("q", 70000)}
}

// names: texts that are names, of the least and of the greatest length among them.
func names() []string {
	return []string{"a", "Z", "ab", "a.b", "a_9", "nat.rec", "u4", "prop", strings.Repeat("q", 31), strings.Repeat("q", 32), strings.Repeat("q.", 15) + "qq"}
}

// samples: terms that have an encoding, of each form and in each place.
func samples() []api.Term {
	u := level.Param(1, 2)
	leaves := []api.Term{v(0), v(1), v(255), v(256), v(65535), v(65536), v(most - 1), prop(), typ(u), typ(level.Num(0)), typ(level.Num(100)), c("a"), c("a.b"), c("a", u), c("a", u, api.Level{}, level.Num(3), u)}
	list := slices.Clone(leaves)
	for _, t := range leaves {
		list = append(list, proj(0, "s", t), proj(31, "a", t), node(api.TApp, t, prop()), node(api.TApp, c("b"), t), node(api.TLet, prop(), t, v(0)))
		for _, kind := range []int{api.TLam, api.TPi} {
			list = append(list, node(kind, t, v(0)), node(kind, prop(), t), node(kind, t, v(most)), node(kind, t, node(api.TLet, v(1), v(2), v(3))))
		}
	}
	r := rand.New(rand.NewSource(100))
	for i := range 60 {
		list = append(list, drawn(r, 4, 9, 2+i), drawn(r, 4, most, 2+i))
	}
	return slices.DeleteFunc(list, func(t api.Term) bool { return !hasTerm(t) })
}

// sampleDecls: well-formed declarations, of each kind.
func sampleDecls() []api.Decl {
	u := level.Param(3, 2)
	long := node(api.TPi, typ(u), node(api.TLam, c("a", u, u), node(api.TApp, v(1), proj(31, "s", v(0)))))
	full := slices.Repeat([]api.Ctor{{Name: "a.c", Type: long}, {Name: "d", Type: prop()}}, 4)
	list := []api.Decl{
		axiom("a", 0, prop()), axiom(strings.Repeat("q", 32), 4, long), def("d", 0, prop(), prop()), def("d.e", 4, long, typ(u)), opaque("t", 0, prop(), c("x")), opaque("t", 4, typ(u), long),
		family("n", 0, prop(), 0), family("n", 4, long, 16), family("n", 1, prop(), 1, api.Ctor{Name: "z", Type: typ(level.Param(0, 0))}), family("n", 4, typ(u), 16, full...),
	}
	r := rand.New(rand.NewSource(101))
	for range 40 {
		list = append(list, drawnDecl(r, 12))
	}
	return list
}

// odd: terms that have no encoding, each for a reason of its own, and some of them large.
func odd() []api.Term {
	heavy := c("heavy", make([]api.Level, 5000)...)
	broad := node(api.TApp, slices.Repeat([]api.Term{c("w")}, 4000)...)
	bad := []api.Level{{Base: -1}, {Base: 101}, level.Num(-1), {Base: 3, Plus: [4]int{4, -1, -1, -1}}, {Base: 3, Plus: [4]int{-1, -2, -1, -1}}, {Base: 256, Plus: [4]int{-1, -1, -1, -1}}, {Base: 1, Plus: [4]int{255, -1, -1, -1}}, {Base: math.MinInt}, {Base: math.MaxInt}}
	list := []api.Term{
		{}, {Kind: -1}, {Kind: 10}, {Kind: math.MinInt}, {Kind: math.MaxInt}, {Kind: 256 + api.TProp}, {Kind: 10, N: -7, Name: "\xff", Levels: make([]api.Level, 3), Args: []api.Term{v(1), c("x")}},
		v(-1), v(math.MinInt), v(math.MaxInt), v(most), v(most + 1), v(most + 200), c("a", make([]api.Level, 5)...), c("a", make([]api.Level, 256)...), {Kind: api.TVar, Name: "a"}, {Kind: api.TVar, Levels: make([]api.Level, 1)}, {Kind: api.TProp, N: 1}, {Kind: api.TProp, Levels: make([]api.Level, 1)}, {Kind: api.TConst, Name: "a", N: 2},
		node(api.TVar, c("a")), node(api.TProp, c("a")), {Kind: api.TType}, {Kind: api.TType, Levels: make([]api.Level, 2)}, {Kind: api.TType, Levels: make([]api.Level, 1), Args: []api.Term{prop()}},
		node(api.TApp), node(api.TApp, c("a")), node(api.TApp, c("a"), c("b"), c("c")), node(api.TLam), node(api.TLam, c("a")), node(api.TPi, c("a"), c("b"), v(0)), node(api.TApp, v(0), v(-1)), node(api.TApp, prop(), api.Term{}),
		node(api.TLet, c("a"), c("b")), node(api.TLet, c("a"), c("b"), v(0), v(1)), node(api.TProj), proj(-1, "s", v(0)), proj(32, "s", v(0)), proj(256, "s", v(0)), proj(0, "s", api.Term{}), {Kind: api.TProj, Name: "s", Levels: make([]api.Level, 1), Args: []api.Term{prop()}},
		node(api.TLam, prop(), v(most+1)), node(api.TPi, v(most), prop()), under(api.TPi, 200, v(most+199)), under(api.TLet, 200, v(most+200)), node(api.TApp, prop(), under(api.TLam, 2, v(most+1))),
		heavy, broad, node(api.TApp, heavy, broad), node(api.TLam, broad, heavy), under(api.TLam, 201, v(0)), under(api.TPi, 5000, v(0)), wide(3001), wide(9000), node(api.TLam, wide(3000), v(0)),
	}
	for _, l := range bad {
		list = append(list, typ(l), c("a", l), c("a", level.Num(0), l))
	}
	for _, s := range noNames() {
		list = append(list, c(s), proj(0, s, prop()))
	}
	return list
}

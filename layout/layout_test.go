package layout

import (
	"bytes"
	"math"
	"math/rand"
	"reflect"
	"slices"
	"strconv"
	"strings"
	"testing"

	"ropewalk/api"
	"ropewalk/names"
	"ropewalk/obj"
)

// frag is a fragment of a section with these bytes; of Zero, with as many noughts.
func frag(sect, align int, s string) api.Frag {
	if sect == api.Zero {
		return api.Frag{Sect: sect, Align: align, Size: len(s)}
	}
	return api.Frag{Sect: sect, Align: align, Bytes: []byte(s)}
}

func frags(l ...api.Frag) api.Part { return api.Part{Frags: l} }

func defs(l ...api.Def) api.Part {
	return api.Part{Frags: []api.Frag{frag(api.Code, 4, "abcd"), frag(api.Zero, 1, "abc")}, Defs: l}
}

func strong(name string, frag, at int) api.Def {
	return api.Def{Name: name, Kind: api.Strong, Frag: frag, At: at}
}

func weak(name string, frag, at int) api.Def {
	return api.Def{Name: name, Kind: api.Weak, Frag: frag, At: at}
}

func common(name string, size, align int) api.Def {
	return api.Def{Name: name, Kind: api.Common, Size: size, Align: align}
}

// sameLayout tells whether two layouts say the same; lists with nothing in them do, nil or not.
func sameLayout(a, b api.Layout) bool {
	return slices.Equal(a.Frags, b.Frags) && slices.Equal(a.Names, b.Names) && slices.Equal(a.Commons, b.Commons) &&
		a.From == b.From && a.To == b.To
}

// wantLayError looks whether Lay has this against what it is given, with nothing else in its answer.
func wantLayError(t *testing.T, what string, p api.Part, base int, want api.Errno) {
	t.Helper()
	l, e := Lay(p, base)
	if e != want || e != api.OK && !reflect.DeepEqual(l, api.Layout{}) {
		t.Errorf("lay: %s: %v, %d, want %d", what, l, e, want)
	}
}

func wantWhere(t *testing.T, what string, p api.Part, l api.Layout, name string, want int, wantE api.Errno) {
	t.Helper()
	if got, e := Where(p, l, name); got != want || e != wantE {
		t.Errorf("where: %s: %d, %d, want %d, %d", what, got, e, want, wantE)
	}
}

// wrongs are parts that chapter 1's Check has something against.
func wrongs() []api.Part {
	place := api.Reloc{Kind: api.Abs1, Frag: 1}
	return []api.Part{
		{Frags: make([]api.Frag, api.MaxFrags+1)},
		{Defs: slices.Repeat([]api.Def{common("c", 1, 1)}, api.MaxDefs+1)},
		frags(frag(0, 1, "")),
		frags(frag(6, 1, "")),
		frags(frag(-1, 1, "")),
		frags(frag(api.Code, 0, "")),
		frags(frag(api.Code, 16, "")),
		frags(frag(api.Code, -1, "")),
		frags(api.Frag{Sect: api.Code, Align: 1, Group: "G"}),
		frags(frag(api.Data, 1, strings.Repeat("a", api.MaxBytes+1))),
		frags(api.Frag{Sect: api.Zero, Align: 1, Size: -1}),
		frags(api.Frag{Sect: api.Zero, Align: 1, Size: api.MaxBytes + 1}),
		frags(api.Frag{Sect: api.Code, Align: 1, Bytes: []byte{0}, Relocs: []api.Reloc{place}}),
		frags(api.Frag{Sect: api.Text, Align: 1, Bytes: []byte{0}, Relocs: []api.Reloc{{Kind: api.Abs1}}}),
		defs(strong("X", 0, 0)),
		defs(strong("x", 2, 0)),
		defs(weak("x", 1, 4)),
		defs(common("x", 0, 1)),
		defs(common("x", 1, 0)),
		defs(api.Def{Name: "x"}),
	}
}

func TestSections(t *testing.T) {
	tests := []struct {
		what     string
		p        api.Part
		base     int
		frags    []int
		from, to [6]int
	}{
		{"nothing", api.Part{}, 0, nil, [6]int{}, [6]int{}},
		{"nothing in lists", api.Part{Frags: []api.Frag{}, Defs: []api.Def{}}, 16, nil, [6]int{0, 16, 16, 16, 16, 16}, [6]int{0, 16, 16, 16, 16, 16}},
		{"a base that 16 doesn't divide", api.Part{}, 1, nil, [6]int{0, 16, 16, 16, 16, 16}, [6]int{0, 16, 16, 16, 16, 16}},
		{"the greatest base", api.Part{}, api.MaxSpace - 1, nil, [6]int{0, 65536, 65536, 65536, 65536, 65536}, [6]int{0, 65536, 65536, 65536, 65536, 65536}},
		{"all sections, the last one first",
			frags(frag(api.Zero, 8, "12345"), frag(api.Data, 4, "1234"), frag(api.Text, 2, "123"), frag(api.Fixed, 1, "12"), frag(api.Code, 1, "1")), 0,
			[]int{64, 48, 32, 16, 0}, [6]int{0, 0, 16, 32, 48, 64}, [6]int{0, 1, 18, 35, 52, 69}},
		{"a section that ends where the next one begins",
			frags(frag(api.Code, 1, "0123456789abcdef"), frag(api.Fixed, 1, "0123456789abcdefg"), frag(api.Zero, 1, "1")), 0,
			[]int{0, 16, 48}, [6]int{0, 0, 16, 48, 48, 48}, [6]int{0, 16, 33, 48, 48, 49}},
		{"each aligned, in order",
			frags(frag(api.Data, 1, "a"), frag(api.Data, 2, "b"), frag(api.Data, 4, "c"), frag(api.Data, 8, "d"), frag(api.Data, 1, "e"), frag(api.Data, 8, "f")), 100,
			[]int{112, 114, 116, 120, 121, 128}, [6]int{0, 112, 112, 112, 112, 144}, [6]int{0, 112, 112, 112, 129, 144}},
		{"sections between each other",
			frags(frag(api.Code, 1, "abc"), frag(api.Data, 1, "d"), frag(api.Code, 2, "ef"), frag(api.Data, 4, "g")), 0,
			[]int{0, 16, 4, 20}, [6]int{0, 0, 16, 16, 16, 32}, [6]int{0, 6, 16, 16, 21, 32}},
		{"fragments of no bytes",
			frags(frag(api.Code, 1, "a"), frag(api.Code, 8, ""), frag(api.Code, 1, ""), frag(api.Code, 1, "b"), frag(api.Zero, 8, ""), frag(api.Zero, 1, "z"), frag(api.Zero, 4, "")), 0,
			[]int{0, 8, 8, 8, 16, 16, 20}, [6]int{0, 0, 16, 16, 16, 16}, [6]int{0, 9, 16, 16, 16, 20}},
	}
	for _, x := range tests {
		got, e := Lay(x.p, x.base)
		if want := (api.Layout{Frags: x.frags, From: x.from, To: x.to}); e != api.OK || !sameLayout(got, want) {
			t.Errorf("%s: %v, %d, want %v", x.what, got, e, want)
		}
	}
}

func TestText(t *testing.T) {
	tests := []struct {
		what string
		l    []api.Frag
		want []int
		to   int
	}{
		{"alike", []api.Frag{frag(api.Text, 1, "ab"), frag(api.Text, 1, "ab")}, []int{0, 0}, 2},
		{"behind all others, not behind one that is alike",
			[]api.Frag{frag(api.Text, 1, "ab"), frag(api.Text, 1, "cde"), frag(api.Text, 1, "ab"), frag(api.Text, 1, "f")}, []int{0, 2, 0, 5}, 6},
		{"the last one is alike", []api.Frag{frag(api.Text, 1, "ab"), frag(api.Text, 1, "c"), frag(api.Text, 1, "ab")}, []int{0, 2, 0}, 3},
		{"another alignment", []api.Frag{frag(api.Text, 2, "abc"), frag(api.Text, 1, "abc"), frag(api.Text, 2, "abc"), frag(api.Text, 1, "abc")}, []int{0, 3, 0, 3}, 6},
		{"the beginning of another", []api.Frag{frag(api.Text, 1, "abc"), frag(api.Text, 1, "ab"), frag(api.Text, 1, "bc"), frag(api.Text, 1, "abcd")}, []int{0, 3, 5, 7}, 11},
		{"no bytes", []api.Frag{frag(api.Text, 1, "a"), frag(api.Text, 1, ""), frag(api.Text, 1, "b"), frag(api.Text, 1, ""), frag(api.Text, 2, "")}, []int{0, 1, 1, 1, 2}, 2},
		{"bytes that are no letters", []api.Frag{frag(api.Text, 1, "\xff"), frag(api.Text, 1, "\xfe"), frag(api.Text, 1, "\x00"), frag(api.Text, 1, "\x00\x00"), frag(api.Text, 1, "\xfe")}, []int{0, 1, 2, 3, 1}, 5},
		{"other groups", []api.Frag{frag(api.Text, 4, "ab"), {Sect: api.Text, Align: 4, Group: "g", Bytes: []byte("ab")}, {Sect: api.Text, Align: 4, Group: "h", Bytes: []byte("ab")}}, []int{0, 0, 0}, 2},
	}
	for _, x := range tests {
		l, e := Lay(api.Part{Frags: x.l}, 0)
		if e != api.OK || !slices.Equal(l.Frags, x.want) || l.To[api.Text] != x.to {
			t.Errorf("%s: %v to %d, %d, want %v to %d", x.what, l.Frags, l.To[api.Text], e, x.want, x.to)
		}
	}
}

// TestApart: fragments that are alike in other sections stand apart, and so do those of two sections.
func TestApart(t *testing.T) {
	for _, sect := range []int{api.Code, api.Fixed, api.Data, api.Zero} {
		l, e := Lay(frags(frag(sect, 1, "ab"), frag(sect, 1, "ab"), frag(sect, 1, "ab")), 32)
		if e != api.OK || !slices.Equal(l.Frags, []int{32, 34, 36}) || l.To[sect] != 38 {
			t.Errorf("section %d: %v, %d", sect, l, e)
		}
	}
	l, e := Lay(frags(frag(api.Code, 1, "ab"), frag(api.Fixed, 1, "ab"), frag(api.Text, 1, "ab"), frag(api.Data, 1, "ab"), frag(api.Text, 1, "ab")), 0)
	if e != api.OK || !slices.Equal(l.Frags, []int{0, 16, 32, 48, 32}) {
		t.Errorf("%v, %d", l, e)
	}
}

// TestCommons: defs' Zero fragment ends at 19, and so common names stand from there on.
func TestCommons(t *testing.T) {
	tests := []struct {
		what    string
		l       []api.Def
		names   string
		commons []int
		to      int
	}{
		{"none", nil, "", nil, 19},
		{"one", []api.Def{common("c", 5, 1)}, "c", []int{19}, 24},
		{"one that is aligned", []api.Def{common("c", 5, 8)}, "c", []int{24}, 29},
		{"rising", []api.Def{common("c", 1, 1), common("_", 2, 1), common("aa", 3, 1), common("a", 4, 1), common("0", 5, 1)}, "0 _ a aa c", []int{19, 24, 26, 30, 33}, 34},
		{"each aligned", []api.Def{common("a", 1, 4), common("b", 1, 8), common("c", 1, 2), common("d", 1, 1)}, "a b c d", []int{20, 24, 26, 27}, 28},
		{"several of one name", []api.Def{common("c", 5, 1), common("d", 1, 1), common("c", 2, 8)}, "c d", []int{24, 29}, 30},
		{"beside weak ones", []api.Def{weak("c", 0, 1), common("c", 4, 1), weak("c", 1, 0)}, "c", []int{19}, 23},
		{"beside a strong one", []api.Def{common("c", 4, 1), strong("c", 0, 1), common("d", 4, 1)}, "d", []int{19}, 23},
		{"beside two strong ones", []api.Def{common("c", 4, 1), strong("c", 0, 1), common("d", 4, 1), strong("c", 0, 2)}, "d", []int{19}, 23},
		{"strong and weak ones alone", []api.Def{strong("a", 0, 0), weak("b", 1, 1), weak("b", 1, 2)}, "", nil, 19},
		{"the greatest", []api.Def{common("c", api.MaxBytes, 8)}, "c", []int{24}, 24 + api.MaxBytes},
	}
	for _, x := range tests {
		got, e := Lay(defs(x.l...), 0)
		want := api.Layout{Frags: []int{0, 16}, Names: strings.Fields(x.names), Commons: x.commons, From: [6]int{0, 0, 16, 16, 16, 16}, To: [6]int{0, 4, 16, 16, 16, x.to}}
		if e != api.OK || !sameLayout(got, want) {
			t.Errorf("%s: %v, %d, want %v", x.what, got, e, want)
		}
	}
	// A name that is wanted alone takes no room.
	place := api.Reloc{Kind: api.Abs1, Name: "c"}
	l, e := Lay(frags(api.Frag{Sect: api.Data, Align: 1, Bytes: []byte{0}, Relocs: []api.Reloc{place}}), 0)
	if e != api.OK || len(l.Names) != 0 || len(l.Commons) != 0 || l.To[api.Zero] != 16 {
		t.Errorf("a name that is wanted: %v, %d", l, e)
	}
}

func TestWrong(t *testing.T) {
	for i, p := range wrongs() {
		want := obj.Check(p)
		if want == api.OK {
			t.Fatalf("part %d isn't wrong", i)
		}
		for _, base := range []int{0, 100, -1, api.MaxSpace} {
			wantLayError(t, "a part that is wrong", p, base, want)
		}
		wantWhere(t, "a part that is wrong", p, api.Layout{Frags: []int{1, 2, 3}, Names: []string{"c", "x"}, Commons: []int{4, 5}}, "x", 0, want)
		wantWhere(t, "a part that is wrong, and no name", p, api.Layout{}, "", 0, want)
	}
	for _, base := range []int{-1, -16, api.MaxSpace, api.MaxSpace + 1, math.MaxInt, math.MinInt} {
		wantLayError(t, "no base", api.Part{}, base, api.ErrRange)
		wantLayError(t, "no base of a part", defs(common("c", 1, 1)), base, api.ErrRange)
	}
}

func TestFull(t *testing.T) {
	top := api.MaxSpace - 16
	tests := []struct {
		what string
		p    api.Part
		base int
		want api.Errno
	}{
		{"to the end", frags(frag(api.Zero, 1, "0123456789abcdef")), top, api.OK},
		{"one more", frags(frag(api.Zero, 1, "0123456789abcdefg")), top, api.ErrFull},
		{"from one more on", frags(frag(api.Zero, 1, "0123456789abcdef")), top + 1, api.ErrFull},
		{"code to the end", frags(frag(api.Code, 1, "a")), top, api.OK},
		{"code at the end", frags(frag(api.Code, 1, "a")), top + 1, api.ErrFull},
		{"no bytes at the end", frags(frag(api.Code, 8, "")), api.MaxSpace - 1, api.OK},
		{"text that is alike", frags(frag(api.Text, 1, "0123456789"), frag(api.Text, 1, "0123456789")), top, api.OK},
		{"text that isn't", frags(frag(api.Text, 1, "0123456789"), frag(api.Text, 2, "0123456789")), top, api.ErrFull},
		{"code to the end, and zeros", frags(frag(api.Code, 1, "a"), frag(api.Zero, 1, "b")), top, api.ErrFull},
		{"a common name to the end", api.Part{Defs: []api.Def{common("c", 16, 1)}}, top, api.OK},
		{"a common name, one more", api.Part{Defs: []api.Def{common("c", 17, 1)}}, top, api.ErrFull},
		{"two common names to the end", api.Part{Defs: []api.Def{common("c", 1, 1), common("d", 8, 8)}}, top, api.OK},
		{"two common names, one more", api.Part{Defs: []api.Def{common("c", 1, 1), common("d", 9, 8)}}, top, api.ErrFull},
		{"a common name that doesn't count", api.Part{Frags: []api.Frag{frag(api.Zero, 1, "")}, Defs: []api.Def{common("c", 17, 1), strong("c", 0, 0)}}, top, api.OK},
	}
	for _, x := range tests {
		wantLayError(t, x.what, x.p, x.base, x.want)
	}
}

// TestMany: as many fragments and names as may be, as long as may be.
func TestMany(t *testing.T) {
	var p api.Part
	for i := range api.MaxFrags {
		p.Frags = append(p.Frags, frag(api.Text, 8, strings.Repeat(string(rune('0'+i)), api.MaxBytes)))
	}
	for i := range api.MaxDefs {
		p.Defs = append(p.Defs, common("c"+strconv.Itoa(i), api.MaxBytes, 8))
	}
	room := (api.MaxFrags + api.MaxDefs) * api.MaxBytes
	l, e := Lay(p, api.MaxSpace-room)
	if want := slow(p, api.MaxSpace-room); e != api.OK || !sameLayout(l, want) || l.To[api.Zero] != api.MaxSpace || len(l.Names) != api.MaxDefs {
		t.Errorf("%v, %d, want %v", l, e, want)
	}
	wantLayError(t, "one more", p, api.MaxSpace-room+1, api.ErrFull)
}

func TestWhere(t *testing.T) {
	p := defs(strong("s", 0, 4), common("c", 2, 8), weak("w", 1, 3), weak("w", 0, 1), common("a", 1, 1), weak("a", 0, 2),
		strong("two", 0, 0), strong("two", 1, 0), strong("t", 1, 1), common("sc", 1, 1), strong("sc", 1, 2), common("z", 1, 1))
	l, e := Lay(p, 0)
	if e != api.OK {
		t.Fatal(e)
	}
	wantWhere(t, "strong, at the end of its fragment", p, l, "s", 4, api.OK)
	wantWhere(t, "strong, of zeros", p, l, "t", 17, api.OK)
	wantWhere(t, "the first weak one", p, l, "w", 19, api.OK)
	wantWhere(t, "common ahead of weak, the first name", p, l, "a", 19, api.OK)
	wantWhere(t, "common", p, l, "c", 24, api.OK)
	wantWhere(t, "common, the last name", p, l, "z", 26, api.OK)
	wantWhere(t, "strong ahead of common", p, l, "sc", 18, api.OK)
	wantWhere(t, "twice", p, l, "two", 0, api.ErrTwice)
	for _, name := range []string{"", "q", "S", "abcdefghi", "\xff", "-"} {
		wantWhere(t, "nowhere", p, l, name, 0, api.ErrUndef)
	}
	// What the layout says of a name that the part doesn't define doesn't count.
	l.Names, l.Commons = []string{"a", "q"}, []int{1, 2}
	wantWhere(t, "nowhere but in the layout", p, l, "q", 0, api.ErrUndef)
}

// TestWhereElse: what counts is what the layout says, whatever it is.
func TestWhereElse(t *testing.T) {
	p := defs(strong("s", 0, 4), weak("w", 1, 3), common("c", 2, 8), common("d", 1, 1))
	lists := api.Layout{Frags: []int{7, -9}, Names: []string{"b", "c", "d", "e"}, Commons: []int{-1, -2, -3, -4}}
	wantWhere(t, "a fragment", p, lists, "s", 11, api.OK)
	wantWhere(t, "a fragment below 0", p, lists, "w", -6, api.OK)
	wantWhere(t, "a common name", p, lists, "c", -2, api.OK)
	wantWhere(t, "another", p, lists, "d", -3, api.OK)
	short := api.Layout{Frags: []int{7}, Names: []string{"b", "c", "d", "e"}, Commons: []int{-1, -2}}
	wantWhere(t, "the last fragment", p, short, "s", 11, api.OK)
	wantWhere(t, "one behind it", p, short, "w", 0, api.ErrWho)
	wantWhere(t, "the last common name", p, short, "c", -2, api.OK)
	wantWhere(t, "one behind it", p, short, "d", 0, api.ErrWho)
	other := api.Layout{Frags: []int{}, Names: []string{"b", "e"}, Commons: []int{1, 2, 3}}
	for _, l := range []api.Layout{{}, other, {From: [6]int{1, 2, 3, 4, 5, 6}, Commons: []int{1, 2}}} {
		for _, name := range []string{"s", "w", "c", "d"} {
			wantWhere(t, "nothing of "+name, p, l, name, 0, api.ErrWho)
		}
	}
	// A common name's Frag is 0, but it is no fragment.
	wantWhere(t, "a common name beside fragments", p, api.Layout{Frags: []int{5, 6}}, "c", 0, api.ErrWho)
}

// TestWhereEnds: whatever names a layout has, in whatever order, there is an answer.
func TestWhereEnds(t *testing.T) {
	p := defs(strong("s", 0, 4), common("c", 2, 8))
	for _, s := range []string{"z c a", "c c c c", "d b", "a \xff c X", "c"} {
		for n := range 5 {
			l := api.Layout{Frags: []int{math.MaxInt, math.MinInt}, Names: strings.Fields(s), Commons: make([]int, n)}
			if at, e := Where(p, l, "c"); at != 0 || e != api.OK && e != api.ErrWho {
				t.Errorf("%q, %d: %d, %d", s, n, at, e)
			}
			if _, e := Where(p, l, "s"); e != api.OK {
				t.Errorf("%q: %d", s, e)
			}
		}
	}
}

// some is a part by chance, with fragments of all sections, some alike.
func some(r *rand.Rand) api.Part {
	var p api.Part
	pick := func() int { return 1 << r.Intn(4) }
	for range 1 + r.Intn(20) {
		// Short ones most of all: they are alike more often.
		s := "ababaabaababbabaabbab"[r.Intn(2):][:r.Intn([]int{4, 4, 18}[r.Intn(3)])]
		sect := []int{api.Code, api.Fixed, api.Text, api.Text, api.Text, api.Data, api.Zero}[r.Intn(7)]
		p.Frags = append(p.Frags, frag(sect, pick(), s))
	}
	for range r.Intn(12) {
		name := strings.Fields("a b c d _ 0 zzzzzzzz")[r.Intn(7)]
		n := r.Intn(len(p.Frags))
		at := r.Intn(obj.Long(p.Frags[n]) + 1)
		p.Defs = append(p.Defs, []api.Def{common(name, 1+r.Intn(9), pick()), common(name, 1+r.Intn(9), pick()), strong(name, n, at), weak(name, n, at)}[r.Intn(4)])
	}
	return p
}

// up goes to an address that align divides, step by step.
func up(at, align int) int {
	for at%align != 0 {
		at++
	}
	return at
}

// ahead tells which Text fragment ahead of number n has its bytes and its alignment; -1: none.
func ahead(l []api.Frag, n int) int {
	return slices.IndexFunc(l[:n], func(f api.Frag) bool {
		return f.Sect == api.Text && l[n].Sect == api.Text && bytes.Equal(f.Bytes, l[n].Bytes) && f.Align == l[n].Align
	})
}

// slow lays as the document's words go, and keeps nothing of what it saw.
func slow(p api.Part, base int) api.Layout {
	l := api.Layout{Frags: make([]int, len(p.Frags))}
	at := base
	for sect := api.Code; sect <= api.Zero; sect++ {
		at = up(at, 16)
		l.From[sect] = at
		for i, f := range p.Frags {
			if f.Sect != sect {
				continue
			}
			if k := ahead(p.Frags, i); k >= 0 {
				l.Frags[i] = l.Frags[k]
				continue
			}
			l.Frags[i] = up(at, f.Align)
			at = l.Frags[i] + len(f.Bytes) + f.Size
		}
		l.To[sect] = at
	}
	for _, d := range p.Defs {
		if best, e := names.Find(p, d.Name); e == api.OK && best.Kind == api.Common && !slices.Contains(l.Names, d.Name) {
			l.Names = append(l.Names, d.Name)
		}
	}
	slices.Sort(l.Names)
	for _, name := range l.Names {
		d, _ := names.Find(p, name)
		l.Commons = append(l.Commons, up(at, d.Align))
		at = up(at, d.Align) + d.Size
	}
	l.To[api.Zero] = at
	return l
}

// TestSlow: what is laid is what the document's words lay, and where names stand is what it says of them.
func TestSlow(t *testing.T) {
	r := rand.New(rand.NewSource(6))
	full, shared := 0, 0
	for range 4000 {
		p, base := some(r), r.Intn(400)
		if r.Intn(4) == 0 {
			base = api.MaxSpace - 1 - r.Intn(300)
		}
		want := slow(p, base)
		got, e := Lay(p, base)
		if want.To[api.Zero] > api.MaxSpace {
			full++
			wantLayError(t, "no room", p, base, api.ErrFull)
			continue
		}
		if e != api.OK || !sameLayout(got, want) {
			t.Fatalf("%v, %d: %v, %d, want %v", p, base, got, e, want)
		}
		for i := range p.Frags {
			if ahead(p.Frags, i) >= 0 {
				shared++
			}
		}
		for _, d := range p.Defs {
			at, e := slowWhere(p, want, d.Name)
			wantWhere(t, "by chance", p, got, d.Name, at, e)
		}
	}
	if full < 100 || shared < 500 {
		t.Errorf("the parts show too little: %d too long, %d fragments shared", full, shared)
	}
}

func slowWhere(p api.Part, l api.Layout, name string) (int, api.Errno) {
	d, e := names.Find(p, name)
	if e != api.OK {
		return 0, e
	}
	if d.Kind == api.Common {
		return l.Commons[slices.Index(l.Names, name)], api.OK
	}
	return l.Frags[d.Frag] + d.At, api.OK
}

// TestDontMeet: P6.3, of parts by chance: fragments stand aligned, in order, within their sections, and no address is of two, but of Text ones that are alike.
func TestDontMeet(t *testing.T) {
	r := rand.New(rand.NewSource(7))
	for range 2000 {
		p := some(r)
		l, e := Lay(p, r.Intn(300))
		if e != api.OK {
			t.Fatalf("%v: %d", p, e)
		}
		taken := map[int]int{}
		take := func(at, long int) {
			for k := range long {
				taken[at+k]++
			}
		}
		end := l.From
		for i, f := range p.Frags {
			at, long := l.Frags[i], obj.Long(f)
			if at%f.Align != 0 || at < l.From[f.Sect] || at+long > l.To[f.Sect] {
				t.Errorf("%v, %v: fragment %d doesn't stand where it may", p, l, i)
			}
			if k := ahead(p.Frags, i); k >= 0 {
				if at != l.Frags[k] {
					t.Errorf("%v, %v: fragments %d and %d are alike", p, l, k, i)
				}
				continue
			}
			if at < end[f.Sect] {
				t.Errorf("%v, %v: fragment %d isn't behind the one ahead", p, l, i)
			}
			end[f.Sect] = at + long
			take(at, long)
		}
		for i, name := range l.Names {
			d, e := names.Find(p, name)
			if at := l.Commons[i]; e != api.OK || at%d.Align != 0 || at < end[api.Zero] || at+d.Size > l.To[api.Zero] {
				t.Errorf("%v, %v: %s doesn't stand where it may", p, l, name)
			}
			take(l.Commons[i], d.Size)
		}
		for at, n := range taken {
			if n > 1 {
				t.Errorf("%v, %v: the address %d is of %d", p, l, at, n)
			}
		}
		for sect := api.Code; sect <= api.Zero; sect++ {
			if l.From[sect]%16 != 0 || l.From[sect] < l.To[sect-1] || l.To[sect] < l.From[sect] {
				t.Errorf("%v, %v: section %d doesn't stand where it may", p, l, sect)
			}
		}
	}
}

// roomy is a part with spare room behind its lists, with something in it.
func roomy() api.Part {
	place := api.Reloc{Kind: api.Abs1, Name: "c"}
	p := frags(frag(api.Text, 1, "ab"), frag(api.Text, 1, "ab"), api.Frag{Sect: api.Data, Align: 1, Bytes: []byte{1}, Relocs: []api.Reloc{place}})
	for i, f := range p.Frags {
		p.Frags[i].Bytes = append(f.Bytes, 99)[:len(f.Bytes)]
		p.Frags[i].Relocs = append(f.Relocs, api.Reloc{Name: "spare"})[:len(f.Relocs)]
	}
	p.Frags = append(p.Frags, frag(api.Code, 1, "spare"))[:len(p.Frags)]
	p.Defs = append([]api.Def{common("d", 1, 1), common("c", 2, 2), weak("w", 2, 1)}, common("spare", 1, 1))[:3]
	return p
}

// whole is a part with its lists as long as their memory, in new memory.
func whole(p api.Part) api.Part {
	l := slices.Clone(p.Frags[:cap(p.Frags)])
	for i, f := range l {
		l[i].Bytes = slices.Clone(f.Bytes[:cap(f.Bytes)])
		l[i].Relocs = slices.Clone(f.Relocs[:cap(f.Relocs)])
	}
	return api.Part{Frags: l, Defs: slices.Clone(p.Defs[:cap(p.Defs)])}
}

// TestOnlyReads: P2: what is handed in stays as it is, the spare room behind it too, which nobody looks at.
func TestOnlyReads(t *testing.T) {
	p := roomy()
	before := whole(p)
	l, e := Lay(p, 3)
	want := api.Layout{Frags: []int{16, 16, 32}, Names: []string{"c", "d"}, Commons: []int{48, 50}, From: [6]int{0, 16, 16, 16, 32, 48}, To: [6]int{0, 16, 16, 18, 33, 51}}
	if e != api.OK || !sameLayout(l, want) {
		t.Errorf("%v, %d, want %v", l, e, want)
	}
	// Lists cut short: what is behind them says nothing.
	cut := api.Layout{Frags: slices.Clone(l.Frags)[:2], Names: slices.Clone(l.Names), Commons: slices.Clone(l.Commons)[:1]}
	wantWhere(t, "a fragment in spare room", p, cut, "w", 0, api.ErrWho)
	wantWhere(t, "a name in spare room", p, cut, "d", 0, api.ErrWho)
	wantWhere(t, "a name", p, cut, "c", 48, api.OK)
	cut.Commons, cut.Names = cut.Commons[:2], cut.Names[:1]
	wantWhere(t, "a name in spare room", p, cut, "d", 0, api.ErrWho)
	cut.Frags, cut.Names = cut.Frags[:3], cut.Names[:2]
	if !slices.Equal(cut.Frags, want.Frags) || !slices.Equal(cut.Names, want.Names) || !slices.Equal(cut.Commons, want.Commons) {
		t.Error("a layout that was handed in was changed")
	}
	if !reflect.DeepEqual(whole(p), before) {
		t.Error("a part that was handed in was changed")
	}
}

// TestOwnLists: P2: no list of an answer shares memory with another one, or with those of an answer ahead; what a call answers hangs on its arguments alone.
func TestOwnLists(t *testing.T) {
	p := roomy()
	l, _ := Lay(p, 3)
	again, _ := Lay(p, 3)
	spare := l.Frags[:cap(l.Frags)]
	for i := range spare {
		spare[i] = -1
	}
	if !slices.Equal(l.Commons, again.Commons) {
		t.Error("lists of one answer share memory")
	}
	clear(l.Names[:cap(l.Names)])
	clear(l.Commons[:cap(l.Commons)])
	if third, _ := Lay(p, 3); !sameLayout(again, third) || again.Frags[0] != 16 {
		t.Errorf("answers share memory: %v, %v", again, third)
	}
}

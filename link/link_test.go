package link

import (
	"bytes"
	"math"
	"math/rand"
	"reflect"
	"slices"
	"strconv"
	"strings"
	"testing"

	"ropewalk/api"
	"ropewalk/archive"
	"ropewalk/fill"
	"ropewalk/layout"
	"ropewalk/names"
	"ropewalk/obj"
	"ropewalk/part"
)

// frag is a fragment of a section with these bytes and places; of Zero, with as many noughts.
func frag(sect, align int, s string, places ...api.Reloc) api.Frag {
	if sect == api.Zero {
		return api.Frag{Sect: sect, Align: align, Size: len(s)}
	}
	return api.Frag{Sect: sect, Align: align, Bytes: []byte(s), Relocs: places}
}

func inGroup(group string, f api.Frag) api.Frag {
	f.Group = group
	return f
}

func toName(at, kind int, name string, add int) api.Reloc {
	return api.Reloc{At: at, Kind: kind, Name: name, Add: add}
}

func toFrag(at, kind, frag, add int) api.Reloc {
	return api.Reloc{At: at, Kind: kind, Frag: frag, Add: add}
}

func strong(name string, frag, at int) api.Def {
	return api.Def{Name: name, Kind: api.Strong, Frag: frag, At: at}
}

func weak(name string, frag, at int) api.Def {
	return api.Def{Name: name, Kind: api.Weak, Frag: frag, At: at}
}

func common(name string, size, align int) api.Def {
	return api.Def{Name: name, Kind: api.Common, Size: size, Align: align}
}

func undef(name string) api.Fault { return api.Fault{E: api.ErrUndef, Name: name} }

func twice(name string) api.Fault { return api.Fault{E: api.ErrTwice, Name: name} }

func place(e api.Errno, frag, at int) api.Fault { return api.Fault{E: e, Frag: frag, At: at} }

func object(p api.Part) api.Item { return api.Item{Parts: []api.Part{p}} }

func library(l ...api.Part) api.Item { return api.Item{Archive: true, Parts: l} }

// segments are those of an image, the flags as the document has them.
func segments(code, fixed, data int, bytes [3]string, zeros int) []api.Segment {
	return []api.Segment{
		{At: code, Bytes: []byte(bytes[0]), Works: true},
		{At: fixed, Bytes: []byte(bytes[1])},
		{At: data, Bytes: []byte(bytes[2]), Zeros: zeros, Writes: true},
	}
}

func wantImage(t *testing.T, what string, p api.Part, base int, entry string, want api.Image) {
	t.Helper()
	got, faults, e := Link(p, base, entry)
	if e != api.OK || len(faults) != 0 || !Same(got, want) {
		t.Errorf("%s: %v, %v, %d, want %v", what, got, faults, e, want)
	}
}

func wantFaults(t *testing.T, what string, p api.Part, base int, entry string, want ...api.Fault) {
	t.Helper()
	got, faults, e := Link(p, base, entry)
	if e != api.OK || !reflect.DeepEqual(got, api.Image{}) || !slices.Equal(faults, want) {
		t.Errorf("%s: %v, %v, %d, want %v", what, got, faults, e, want)
	}
}

// wantError looks whether Link has this against what it is given, with nothing else in its answer.
func wantError(t *testing.T, what string, p api.Part, base int, entry string, want api.Errno) {
	t.Helper()
	got, faults, e := Link(p, base, entry)
	if e != want || !reflect.DeepEqual(got, api.Image{}) || faults != nil {
		t.Errorf("%s: %v, %v, %d, want %d", what, got, faults, e, want)
	}
}

func wantItemsError(t *testing.T, what string, l []api.Item, base int, entry string, want api.Errno) {
	t.Helper()
	got, faults, e := Items(l, base, entry)
	if e != want || !reflect.DeepEqual(got, api.Image{}) || faults != nil {
		t.Errorf("%s: %v, %v, %d, want %d", what, got, faults, e, want)
	}
}

// whole has fragments of all sections, and places and definitions of all kinds.
func whole() api.Part {
	return api.Part{
		Frags: []api.Frag{
			frag(api.Code, 1, "\x01..\x02", toName(1, api.Abs2, "d", 1)),
			frag(api.Data, 2, "\xaa.", toFrag(1, api.Rel1, 0, 0)),
			frag(api.Text, 1, "hi"),
			frag(api.Fixed, 4, ".", toFrag(0, api.Abs1, 2, 0)),
			frag(api.Zero, 8, "000"),
			frag(api.Code, 4, "\x09...", toName(1, api.Rel2, "w", -3), toFrag(3, api.Rel1, 6, 0)),
			frag(api.Text, 1, "hi"),
			frag(api.Data, 4, "..", toName(0, api.Abs2, "c", 0)),
		},
		Defs: []api.Def{strong("main", 5, 0), strong("d", 1, 1), common("c", 4, 4), weak("c", 0, 0), weak("w", 0, 1), weak("w", 1, 1)},
	}
}

func TestImage(t *testing.T) {
	// Fragments at 16, 64, 48, 32, 80, 20, 48 (that of the text ahead), 68; c at 84.
	want := api.Image{Entry: 20, Segments: segments(16, 32, 64, [3]string{
		"\x01\x42\x00\x02\x09\xf9\xff\x19",
		"\x30" + strings.Repeat("\x00", 15) + "hi",
		"\xaa\xcf\x00\x00\x54\x00",
	}, 88-70)}
	wantImage(t, "whole", whole(), 10, "main", want)
	for entry, at := range map[string]int{"d": 65, "c": 84, "w": 17} {
		want.Entry = at
		wantImage(t, "from "+entry+" on", whole(), 10, entry, want)
	}
}

// TestSegments: there are three of them, whatever the part has; each ends where its last section does.
func TestSegments(t *testing.T) {
	noughts := strings.Repeat("\x00", 15)
	tests := []struct {
		what  string
		l     []api.Frag
		at    [3]int
		bytes [3]string
		zeros int
	}{
		{"no fragments", nil, [3]int{32, 32, 32}, [3]string{}, 1},
		{"code", []api.Frag{frag(api.Code, 1, "a")}, [3]int{32, 48, 48}, [3]string{"a"}, 1},
		{"fixed, up to where text would begin", []api.Frag{frag(api.Fixed, 1, "a")}, [3]int{32, 32, 48}, [3]string{"", "a" + noughts}, 1},
		{"text", []api.Frag{frag(api.Text, 1, "a")}, [3]int{32, 32, 48}, [3]string{"", "a"}, 1},
		{"texts that are alike", []api.Frag{frag(api.Text, 1, "ab"), frag(api.Text, 1, "c"), frag(api.Text, 1, "ab")}, [3]int{32, 32, 48}, [3]string{"", "abc"}, 1},
		{"fixed and text", []api.Frag{frag(api.Text, 1, "b"), frag(api.Fixed, 1, "a")}, [3]int{32, 32, 64}, [3]string{"", "a" + noughts + "b"}, 1},
		{"data", []api.Frag{frag(api.Data, 1, "a")}, [3]int{32, 32, 32}, [3]string{"", "", "a"}, 16},
		{"zero", []api.Frag{frag(api.Zero, 1, "0000")}, [3]int{32, 32, 32}, [3]string{}, 5},
		{"data and zero", []api.Frag{frag(api.Zero, 1, "0000"), frag(api.Data, 1, "ab")}, [3]int{32, 32, 32}, [3]string{"", "", "ab"}, 19},
		{"noughts between", []api.Frag{frag(api.Data, 1, "a"), frag(api.Code, 2, "b"), frag(api.Data, 4, "c"), frag(api.Code, 8, "d")}, [3]int{32, 48, 48}, [3]string{"b\x00\x00\x00\x00\x00\x00\x00d", "", "a\x00\x00\x00c"}, 12},
		{"no bytes, aligned at the end", []api.Frag{frag(api.Code, 1, "a"), frag(api.Code, 8, ""), frag(api.Data, 1, "b"), frag(api.Data, 4, "")}, [3]int{32, 48, 48}, [3]string{"a\x00\x00\x00\x00\x00\x00\x00", "", "b\x00\x00\x00"}, 13},
	}
	for _, x := range tests {
		p := api.Part{Frags: x.l, Defs: []api.Def{common("c", 1, 1)}}
		l := segments(x.at[0], x.at[1], x.at[2], x.bytes, x.zeros)
		wantImage(t, x.what, p, 20, "c", api.Image{Entry: l[2].At + len(l[2].Bytes) + x.zeros - 1, Segments: l})
	}
}

// TestEdges: the ends of the space, and of what a kind may have.
func TestEdges(t *testing.T) {
	top := api.MaxSpace - 16
	p := api.Part{Frags: []api.Frag{frag(api.Zero, 1, "0123456789abcdef")}, Defs: []api.Def{strong("end", 0, 16)}}
	wantImage(t, "up to the end", p, top, "end", api.Image{Entry: api.MaxSpace, Segments: segments(top, top, top, [3]string{}, 16)})
	wantImage(t, "at 0", p, 0, "end", api.Image{Entry: 16, Segments: segments(0, 0, 0, [3]string{}, 16)})
	p = api.Part{Frags: []api.Frag{frag(api.Code, 1, "a")}, Defs: []api.Def{strong("end", 0, 1)}}
	wantImage(t, "code at the end", p, top, "end", api.Image{Entry: top + 1, Segments: segments(top, top+16, top+16, [3]string{"a"}, 0)})
	fits := func(kind, base, add int, bytes string) {
		t.Helper()
		p := api.Part{Frags: []api.Frag{frag(api.Data, 1, "..", toName(0, kind, "x", add))}, Defs: []api.Def{strong("x", 0, 0)}}
		wantImage(t, "a number that fits", p, base, "x", api.Image{Entry: base, Segments: segments(base, base, base, [3]string{"", "", bytes}, 14)})
	}
	over := func(kind, base, add int) {
		t.Helper()
		p := api.Part{Frags: []api.Frag{frag(api.Data, 1, "..", toName(0, kind, "x", add))}, Defs: []api.Def{strong("x", 0, 0)}}
		wantFaults(t, "a number that doesn't fit", p, base, "x", place(api.ErrOver, 0, 0))
	}
	fits(api.Abs1, 240, 15, "\xff.")
	over(api.Abs1, 240, 16)
	fits(api.Abs1, 16, -16, "\x00.")
	over(api.Abs1, 16, -17)
	fits(api.Abs2, top, 15, "\xff\xff")
	over(api.Abs2, top, 16)
	fits(api.Rel1, 16, 127, "\x7f.")
	over(api.Rel1, 16, 128)
	fits(api.Rel1, 16, -128, "\x80.")
	over(api.Rel1, 16, -129)
	fits(api.Rel2, 16, -api.MaxAdd, "\xf0\xd8")
	// A place counts from where it stands, not from where its fragment does.
	p = api.Part{Frags: []api.Frag{frag(api.Data, 1, "...", toFrag(1, api.Rel1, 0, -127))}, Defs: []api.Def{strong("x", 0, 3)}}
	wantImage(t, "behind the start", p, 16, "x", api.Image{Entry: 19, Segments: segments(16, 16, 16, [3]string{"", "", ".\x80."}, 13)})
	p.Frags[0].Relocs[0].At = 2
	wantFaults(t, "farther behind", p, 16, "x", place(api.ErrOver, 0, 2))
}

func TestFaults(t *testing.T) {
	code := func(places ...api.Reloc) api.Frag { return frag(api.Code, 1, "........", places...) }
	tests := []struct {
		what  string
		p     api.Part
		entry string
		want  []api.Fault
	}{
		{"an entry of nobody", api.Part{}, "main", []api.Fault{undef("main")}},
		{"an entry behind names that follow it", api.Part{Frags: []api.Frag{code(toName(0, api.Abs1, "z", 0), toName(1, api.Abs1, "y", 0))}}, "main",
			[]api.Fault{undef("y"), undef("z"), undef("main")}},
		{"an entry that is wanted, once", api.Part{Frags: []api.Frag{code(toName(0, api.Abs1, "z", 0), toName(1, api.Abs1, "main", 0))}}, "main",
			[]api.Fault{undef("main"), undef("z")}},
		{"an entry that is defined twice, once", api.Part{Frags: []api.Frag{code()}, Defs: []api.Def{strong("main", 0, 0), strong("main", 0, 1), common("a", 1, 1)}}, "main",
			[]api.Fault{twice("main")}},
		{"twice, and nobody asks", api.Part{Frags: []api.Frag{code()}, Defs: []api.Def{strong("x", 0, 0), weak("main", 0, 0), strong("x", 0, 0)}}, "main",
			[]api.Fault{twice("x")}},
		{"places in their order, behind names", api.Part{
			Frags: []api.Frag{
				frag(api.Zero, 1, "0"),
				frag(api.Data, 1, "........", toFrag(1, api.Abs1, 0, 300), toName(3, api.Abs1, "no", 0), toFrag(5, api.Rel2, -1, 0)),
				code(toFrag(0, api.Abs2, -1, 9), toFrag(2, api.Abs1, 0, 0), toName(3, api.Abs1, "two", 9000), toName(4, api.Abs1, "main", -api.MaxAdd)),
			},
			Defs: []api.Def{strong("two", 0, 0), strong("main", 1, 0), strong("two", 0, 1)},
		}, "main", []api.Fault{undef("no"), twice("two"), place(api.ErrOver, 1, 1), place(api.ErrDead, 1, 5), place(api.ErrDead, 2, 0), place(api.ErrOver, 2, 4)}},
		{"no fault of an entry hides one of a fragment", api.Part{Frags: []api.Frag{code(toFrag(0, api.Rel1, -1, 0), toFrag(1, api.Abs1, 0, -1))}}, "main",
			[]api.Fault{undef("main"), place(api.ErrDead, 0, 0), place(api.ErrOver, 0, 1)}},
		{"dead, whatever it adds", api.Part{Frags: []api.Frag{code(toFrag(7, api.Abs1, -1, api.MaxAdd))}, Defs: []api.Def{weak("main", 0, 0)}}, "main",
			[]api.Fault{place(api.ErrDead, 0, 7)}},
	}
	for _, x := range tests {
		if e := obj.Check(x.p); e != api.OK {
			t.Fatalf("%s: %d", x.what, e)
		}
		wantFaults(t, x.what, x.p, 0, x.entry, x.want...)
	}
}

// TestLetGo: what leads to a fragment that joining let go of is dead.
func TestLetGo(t *testing.T) {
	a := api.Part{Frags: []api.Frag{inGroup("g", frag(api.Code, 1, "a"))}, Defs: []api.Def{strong("main", 0, 0)}}
	b := api.Part{Frags: []api.Frag{inGroup("g", frag(api.Code, 1, "b")), frag(api.Data, 1, "..", toFrag(1, api.Abs1, 0, 0))}, Defs: []api.Def{strong("main", 0, 0)}}
	p, e := part.Join(a, b)
	if e != api.OK {
		t.Fatal(e)
	}
	wantFaults(t, "a fragment of b's own", p, 0, "main", place(api.ErrDead, 1, 1))
	b.Frags[1].Relocs = []api.Reloc{toName(1, api.Rel1, "main", 0)}
	p, e = part.Join(a, b)
	if e != api.OK {
		t.Fatal(e)
	}
	wantImage(t, "by its name", p, 0, "main", api.Image{Segments: segments(0, 16, 16, [3]string{"a", "", ".\xef"}, 14)})
}

// wrongs are parts that chapter 1's Check has something against.
func wrongs() []api.Part {
	return []api.Part{
		{Frags: make([]api.Frag, api.MaxFrags+1)},
		{Defs: slices.Repeat([]api.Def{common("c", 1, 1)}, api.MaxDefs+1)},
		{Frags: []api.Frag{frag(0, 1, "")}},
		{Frags: []api.Frag{frag(6, 1, "")}},
		{Frags: []api.Frag{frag(api.Code, 3, "")}},
		{Frags: []api.Frag{inGroup("G", frag(api.Code, 1, ""))}},
		{Frags: []api.Frag{frag(api.Data, 1, strings.Repeat("a", api.MaxBytes+1))}},
		{Frags: []api.Frag{{Sect: api.Zero, Align: 1, Size: -1}}},
		{Frags: []api.Frag{frag(api.Text, 1, "a", toFrag(0, api.Abs1, 0, 0))}},
		{Frags: []api.Frag{frag(api.Code, 1, "a", toFrag(0, api.Abs2, 0, 0))}},
		{Frags: []api.Frag{frag(api.Code, 1, "a", toFrag(0, api.Abs1, 1, 0))}},
		{Frags: []api.Frag{frag(api.Code, 1, "a", toFrag(0, api.Abs1, -2, 0))}},
		{Frags: []api.Frag{frag(api.Code, 1, "a", toFrag(math.MinInt, api.Abs1, 0, 0))}},
		{Frags: []api.Frag{frag(api.Code, 1, "a", toName(0, api.Abs1, "X", 0))}},
		{Defs: []api.Def{strong("main", 0, 0)}},
		{Defs: []api.Def{common("main", 0, 1)}},
		{Defs: []api.Def{{Name: "main"}}},
	}
}

var noNames = []string{"", "X", "abcdefghi", "a b", "-", "\xff", "ä", "a\x00"}

// TestWrong: what is wrong with the part is told first, then an entry that is no name, then what Lay has against it.
func TestWrong(t *testing.T) {
	for i, p := range wrongs() {
		want := obj.Check(p)
		if want == api.OK {
			t.Fatalf("part %d isn't wrong", i)
		}
		for _, entry := range []string{"main", "", "X"} {
			wantError(t, "a part that is wrong", p, 0, entry, want)
			wantError(t, "a part that is wrong, and no base", p, -1, entry, want)
		}
	}
	for _, entry := range noNames {
		for _, base := range []int{0, -1, api.MaxSpace, api.MaxSpace - 1} {
			wantError(t, "no name", whole(), base, entry, api.ErrText)
			wantError(t, "no name of nothing", api.Part{}, base, entry, api.ErrText)
		}
	}
	dead := api.Part{Frags: []api.Frag{frag(api.Code, 1, "a", toFrag(0, api.Abs1, -1, 0))}}
	for _, base := range []int{-1, api.MaxSpace, math.MaxInt, math.MinInt} {
		wantError(t, "no base", whole(), base, "main", api.ErrRange)
		wantError(t, "no base, and faults", dead, base, "main", api.ErrRange)
	}
	wantError(t, "no room", whole(), api.MaxSpace-64, "main", api.ErrFull)
	wantError(t, "no room, and faults", dead, api.MaxSpace-1, "main", api.ErrFull)
}

func TestItems(t *testing.T) {
	a := api.Part{Frags: []api.Frag{inGroup("g", frag(api.Code, 1, ".", toName(0, api.Abs1, "f", 0)))}, Defs: []api.Def{strong("main", 0, 0)}}
	f := api.Part{Frags: []api.Frag{frag(api.Code, 4, "f"), inGroup("g", frag(api.Data, 1, "x"))}, Defs: []api.Def{strong("f", 0, 0)}}
	g := api.Part{Frags: []api.Frag{frag(api.Code, 1, "g")}, Defs: []api.Def{strong("g", 0, 0), strong("f", 0, 0)}}
	want := api.Image{Segments: segments(0, 16, 16, [3]string{"\x04\x00\x00\x00f"}, 0)}
	for _, l := range [][]api.Item{
		{object(a), library(f, g)},
		// The entry is lacking from the start on.
		{library(a), library(f)},
		{library(f, a)},
	} {
		if got, faults, e := Items(l, 0, "main"); e != api.OK || len(faults) != 0 || !Same(got, want) {
			t.Errorf("%v: %v, %v, %d, want %v", l, got, faults, e, want)
		}
	}
	for _, x := range []struct {
		l    []api.Item
		want []api.Fault
	}{
		{nil, []api.Fault{undef("main")}},
		{[]api.Item{library(f, g)}, []api.Fault{undef("main")}},
		{[]api.Item{library(f), object(a)}, []api.Fault{undef("f")}},
		{[]api.Item{object(a), object(f), object(g)}, []api.Fault{twice("f")}},
	} {
		if got, faults, e := Items(x.l, 0, "main"); e != api.OK || !reflect.DeepEqual(got, api.Image{}) || !slices.Equal(faults, x.want) {
			t.Errorf("%v: %v, %v, %d, want %v", x.l, got, faults, e, x.want)
		}
	}
}

// TestItemsWrong: an entry that is no name is told first, then what Choose, All and Link have against what they get.
func TestItemsWrong(t *testing.T) {
	many := make([]api.Item, api.MaxItems+1)
	half := api.Part{Frags: slices.Repeat([]api.Frag{frag(api.Code, 1, "a")}, api.MaxFrags/2+1)}
	full := []api.Item{object(half), object(half)}
	for _, entry := range noNames {
		for _, l := range [][]api.Item{nil, many, {{}}, {library(wrongs()...)}, full} {
			for _, base := range []int{0, -1} {
				wantItemsError(t, "no name", l, base, entry, api.ErrText)
			}
		}
	}
	for _, base := range []int{0, -1, api.MaxSpace} {
		wantItemsError(t, "too many items", many, base, "main", api.ErrMany)
		wantItemsError(t, "too many parts", []api.Item{library(make([]api.Part, api.MaxMember+1)...)}, base, "main", api.ErrMany)
		wantItemsError(t, "no part", []api.Item{{}}, base, "main", api.ErrForm)
		wantItemsError(t, "two parts", []api.Item{{Parts: make([]api.Part, 2)}}, base, "main", api.ErrForm)
		wantItemsError(t, "no room for all, and one is wrong", append(full, many...)[:3], base, "main", api.ErrForm)
		wantItemsError(t, "no room for all", full, base, "main", api.ErrFull)
		for _, p := range wrongs() {
			wantItemsError(t, "a part that is wrong", []api.Item{object(p)}, base, "main", obj.Check(p))
			wantItemsError(t, "a part that is wrong, and isn't taken", []api.Item{library(p)}, base, "main", obj.Check(p))
		}
	}
	for _, base := range []int{-1, api.MaxSpace, math.MinInt} {
		wantItemsError(t, "no base", []api.Item{object(whole())}, base, "main", api.ErrRange)
		wantItemsError(t, "no base, and faults", nil, base, "main", api.ErrRange)
	}
	wantItemsError(t, "no space", []api.Item{object(whole())}, api.MaxSpace-64, "main", api.ErrFull)
	// What isn't taken takes no room.
	if _, _, e := Items([]api.Item{object(whole()), library(half, half)}, 0, "main"); e != api.OK {
		t.Errorf("what isn't taken: %d", e)
	}
}

func TestSame(t *testing.T) {
	make2 := func() api.Image {
		return api.Image{Entry: 1, Segments: []api.Segment{{At: 2, Bytes: []byte{3, 4}, Zeros: 5, Writes: true}, {Works: true}}}
	}
	if !Same(make2(), make2()) || !Same(api.Image{}, api.Image{}) {
		t.Error("images that are alike")
	}
	if !Same(api.Image{}, api.Image{Segments: []api.Segment{}}) || !Same(api.Image{Segments: []api.Segment{{Bytes: []byte{}}}}, api.Image{Segments: []api.Segment{{}}}) {
		t.Error("lists with nothing in them")
	}
	for i, change := range []func(*api.Image){
		func(m *api.Image) { m.Entry = -1 },
		func(m *api.Image) { m.Segments = nil },
		func(m *api.Image) { m.Segments = m.Segments[:1] },
		func(m *api.Image) { m.Segments = append(m.Segments, api.Segment{}) },
		func(m *api.Image) { slices.Reverse(m.Segments) },
		func(m *api.Image) { m.Segments[0].At = math.MinInt },
		func(m *api.Image) { m.Segments[1].At = 1 },
		func(m *api.Image) { m.Segments[0].Bytes[1]++ },
		func(m *api.Image) { m.Segments[0].Bytes = m.Segments[0].Bytes[:1] },
		func(m *api.Image) { m.Segments[0].Bytes = append(m.Segments[0].Bytes, 0) },
		func(m *api.Image) { m.Segments[1].Bytes = []byte{0} },
		func(m *api.Image) { m.Segments[0].Zeros = -5 },
		func(m *api.Image) { m.Segments[0].Writes = false },
		func(m *api.Image) { m.Segments[1].Writes = true },
		func(m *api.Image) { m.Segments[0].Works = true },
		func(m *api.Image) { m.Segments[1].Works = false },
	} {
		m := make2()
		change(&m)
		if Same(m, make2()) || Same(make2(), m) || !Same(m, m) {
			t.Errorf("change %d: %v", i, m)
		}
	}
}

// some is a part by chance; a tame one has most of what it needs to be an image.
func some(r *rand.Rand, n int, tame bool) api.Part {
	var p api.Part
	pick := func() int { return 1 << r.Intn(4) }
	for range 1 + r.Intn(n) {
		f := frag(api.Code+r.Intn(5), pick(), strings.Repeat("ab.c", 3)[r.Intn(3):][:r.Intn(10)])
		if r.Intn(3) == 0 {
			f.Group = []string{"g", "h", "i"}[r.Intn(3)]
		}
		p.Frags = append(p.Frags, f)
	}
	for range r.Intn(n) {
		i := r.Intn(len(p.Frags))
		at := r.Intn(obj.Long(p.Frags[i]) + 1)
		name := strings.Fields("a b c d e")[r.Intn(5)]
		d := []api.Def{weak(name, i, at), common(name, 1+r.Intn(9), pick()), strong(name, i, at)}[r.Intn(3)]
		if tame && d.Kind == api.Strong && slices.ContainsFunc(p.Defs, func(x api.Def) bool { return x.Name == name && x.Kind == api.Strong }) {
			continue
		}
		p.Defs = append(p.Defs, d)
	}
	for i, f := range p.Frags {
		if f.Sect != api.Text && f.Sect != api.Zero {
			p.Frags[i].Relocs = somePlaces(r, p, len(f.Bytes), tame)
		}
	}
	return p
}

func somePlaces(r *rand.Rand, p api.Part, long int, tame bool) []api.Reloc {
	var l []api.Reloc
	for at := r.Intn(3); len(l) < api.MaxRelocs; at += r.Intn(3) {
		kind := api.Abs1 + r.Intn(4)
		if at+obj.Wide(kind) > long {
			break
		}
		place := toFrag(at, kind, r.Intn(len(p.Frags)), r.Intn(9)-4)
		if !tame && r.Intn(9) == 0 {
			place.Frag, place.Add = -1+r.Intn(2), r.Intn(2*api.MaxAdd+1)-api.MaxAdd
		}
		if r.Intn(2) == 0 && (!tame || len(p.Defs) > 0) {
			place.Frag, place.Name = 0, "q"
			if len(p.Defs) > 0 && (tame || r.Intn(20) > 0) {
				place.Name = p.Defs[r.Intn(len(p.Defs))].Name
			}
		}
		l = append(l, place)
		at += obj.Wide(kind)
	}
	return l
}

// asked tells the number that a place asks for, as the document's words go.
func asked(p api.Part, l api.Layout, frag int, r api.Reloc) (int, api.Errno) {
	if r.Name == "" && r.Frag == -1 {
		return 0, api.ErrDead
	}
	var to int
	if r.Name == "" {
		to = l.Frags[r.Frag]
	} else if d, _ := names.Find(p, r.Name); d.Kind == api.Common {
		to = l.Commons[slices.Index(l.Names, r.Name)]
	} else {
		to = l.Frags[d.Frag] + d.At
	}
	least, most := fill.Range(r.Kind)
	n := to + r.Add
	if r.Kind == api.Rel1 || r.Kind == api.Rel2 {
		n -= l.Frags[frag] + r.At
	}
	if n < least || n > most {
		return 0, api.ErrOver
	}
	return n, api.OK
}

// slow links as the document's words go, byte by byte by their addresses.
func slow(p api.Part, l api.Layout, entry string) (api.Image, []api.Fault) {
	faults, _ := names.Faults(p)
	wanted, _ := names.Wanted(p)
	defined, _ := names.Defined(p)
	if !slices.Contains(wanted, entry) && !slices.Contains(defined, entry) {
		faults = append(faults, undef(entry))
	}
	there := map[int]byte{}
	for i, f := range p.Frags {
		for k, b := range f.Bytes {
			there[l.Frags[i]+k] = b
		}
		for _, r := range f.Relocs {
			if slices.ContainsFunc(faults, func(x api.Fault) bool { return r.Name != "" && x.Name == r.Name }) {
				continue
			}
			n, e := asked(p, l, i, r)
			if e != api.OK {
				faults = append(faults, place(e, i, r.At))
			}
			for k := range obj.Wide(r.Kind) {
				there[l.Frags[i]+r.At+k] = byte(n >> (8 * k))
			}
		}
	}
	if len(faults) > 0 {
		return api.Image{}, faults
	}
	read := func(from, to int) string {
		var b []byte
		for at := from; at < to; at++ {
			b = append(b, there[at])
		}
		return string(b)
	}
	at, _ := layout.Where(p, l, entry)
	return api.Image{Entry: at, Segments: segments(l.From[api.Code], l.From[api.Fixed], l.From[api.Data], [3]string{
		read(l.From[api.Code], l.To[api.Code]), read(l.From[api.Fixed], l.To[api.Text]), read(l.From[api.Data], l.To[api.Data]),
	}, l.To[api.Zero]-l.To[api.Data])}, nil
}

// TestSlow: what is linked is what the document's words link.
func TestSlow(t *testing.T) {
	r := rand.New(rand.NewSource(8))
	images, faulty, dead, over := 0, 0, 0, 0
	for k := range 6000 {
		p, base := some(r, 1+r.Intn(12), k%2 == 0), r.Intn(100)
		if r.Intn(4) == 0 {
			base = r.Intn(api.MaxSpace - 1000)
		}
		entry := strings.Fields("a b c d e q main")[r.Intn(7)]
		if len(p.Defs) > 0 && k%2 == 0 {
			entry = p.Defs[0].Name
		}
		l, e := layout.Lay(p, base)
		if e != api.OK {
			t.Fatalf("%v: %d", p, e)
		}
		want, faults := slow(p, l, entry)
		for _, f := range faults {
			switch f.E {
			case api.ErrDead:
				dead++
			case api.ErrOver:
				over++
			}
		}
		if len(faults) > 0 {
			faulty++
			wantFaults(t, "by chance", p, base, entry, faults...)
			continue
		}
		images++
		wantImage(t, "by chance", p, base, entry, want)
	}
	if images < 1000 || faulty < 1000 || dead < 100 || over < 100 {
		t.Errorf("the parts show too little: %d images, %d parts with faults, %d dead places, %d numbers too great", images, faulty, dead, over)
	}
}

// TestPlaces: P8.3, of parts by chance: each place of an image has the number that its kind asks for.
func TestPlaces(t *testing.T) {
	r := rand.New(rand.NewSource(9))
	var seen [api.Rel2 + 1]int
	for range 4000 {
		p, base := some(r, 8, true), r.Intn(60)
		p.Defs = append(p.Defs, common("main", 1, 1))
		m, faults, e := Link(p, base, "main")
		if e != api.OK {
			t.Fatalf("%v: %d", p, e)
		}
		if len(faults) > 0 {
			continue
		}
		l, _ := layout.Lay(p, base)
		for i, f := range p.Frags {
			for _, r := range f.Relocs {
				want, e := asked(p, l, i, r)
				s := m.Segments[map[int]int{api.Code: 0, api.Fixed: 1, api.Data: 2}[f.Sect]]
				got, ge := fill.Get(s.Bytes, l.Frags[i]+r.At-s.At, r.Kind)
				if e != api.OK || ge != api.OK || got != want {
					t.Errorf("%v at %d: fragment %d, place %v: %d, %d, want %d, %d", p, base, i, r, got, ge, want, e)
				}
				seen[r.Kind]++
			}
		}
	}
	for kind := api.Abs1; kind <= api.Rel2; kind++ {
		if seen[kind] < 500 {
			t.Errorf("the images show too little: %d places of kind %d", seen[kind], kind)
		}
	}
}

// joined makes one part of parts, in a way by chance.
func joined(r *rand.Rand, l []api.Part) api.Part {
	if len(l) == 1 {
		return l[0]
	}
	n := 1 + r.Intn(len(l)-1)
	p, _ := part.Join(joined(r, l[:n]), joined(r, l[n:]))
	return p
}

// TestJoined: in whatever way parts are joined, they are the same image, or the same faults; so are the items of which they are taken.
func TestJoined(t *testing.T) {
	r := rand.New(rand.NewSource(10))
	images := 0
	for k := range 1500 {
		var l []api.Part
		var items []api.Item
		for i := range 2 + r.Intn(4) {
			p := some(r, 4, k%3 > 0)
			if k%3 > 0 {
				p.Defs = slices.DeleteFunc(p.Defs, func(d api.Def) bool { return d.Kind == api.Strong })
				for i := range p.Frags {
					p.Frags[i].Group = ""
				}
			}
			p.Defs = append(p.Defs, strong("m"+strconv.Itoa(i), 0, 0))
			items = append(items, object(p))
			if r.Intn(2) == 0 {
				items[i] = library(some(r, 4, true), p, some(r, 4, true))
			}
		}
		l, e := archive.Choose(items, []string{"m1"})
		if e != api.OK || len(l) == 0 {
			continue
		}
		m, faults, e := Items(items, k, "m1")
		if e != api.OK {
			t.Fatalf("%v: %d", items, e)
		}
		if len(faults) == 0 {
			images++
		}
		for range 4 {
			again, faults2, e := Link(joined(r, l), k, "m1")
			if e != api.OK || !Same(m, again) || !slices.Equal(faults, faults2) {
				t.Fatalf("%v: %v, %v, %d, want %v, %v", l, again, faults2, e, m, faults)
			}
		}
	}
	if images < 100 {
		t.Errorf("the parts show too little: %d images", images)
	}
}

// TestMany: as many fragments, places and definitions as may be, as long as may be.
func TestMany(t *testing.T) {
	var p api.Part
	for i := range api.MaxFrags {
		f := frag(api.Code, 8, strings.Repeat(string(rune('0'+i)), api.MaxBytes))
		for k := range api.MaxRelocs {
			f.Relocs = append(f.Relocs, toName(8*k, api.Abs2, "n"+strconv.Itoa((i+k)%api.MaxDefs), k))
		}
		p.Frags = append(p.Frags, f)
	}
	for i := range api.MaxDefs {
		p.Defs = append(p.Defs, common("n"+strconv.Itoa(i), api.MaxBytes, 8))
	}
	base := api.MaxSpace - (api.MaxFrags+api.MaxDefs)*api.MaxBytes
	l, e := layout.Lay(p, base)
	if e != api.OK {
		t.Fatal(e)
	}
	want, faults := slow(p, l, "n0")
	if len(faults) > 0 {
		t.Fatal(faults)
	}
	wantImage(t, "many", p, base, "n0", want)
	wantError(t, "one more", p, base+1, "n0", api.ErrFull)
	for i := range p.Defs {
		p.Defs[i] = common("z"+strconv.Itoa(i), 1, 1)
	}
	want2, _ := names.Faults(p)
	if len(want2) != api.MaxDefs {
		t.Fatal(want2)
	}
	wantFaults(t, "many faults", p, 0, "z0", want2...)
	for i := range p.Frags {
		p.Frags[i].Relocs[0] = toFrag(0, api.Rel1, -1, 0)
		want2 = append(want2, place(api.ErrDead, i, 0))
	}
	wantFaults(t, "many faults, places too", p, 0, "z0", want2...)
}

// roomy has spare room behind its lists, with something in it.
func roomy(p api.Part) api.Part {
	for i, f := range p.Frags {
		p.Frags[i].Bytes = append(slices.Clone(f.Bytes), 99)[:len(f.Bytes)]
		p.Frags[i].Relocs = append(slices.Clone(f.Relocs), toName(0, api.Abs1, "spare", 0))[:len(f.Relocs)]
	}
	p.Frags = append(slices.Clone(p.Frags), frag(api.Code, 1, "spare"))[:len(p.Frags)]
	p.Defs = append(slices.Clone(p.Defs), common("spare", 1, 1))[:len(p.Defs)]
	return p
}

// copied has the lists of a part as long as their memory, in new memory.
func copied(p api.Part) api.Part {
	l := slices.Clone(p.Frags[:cap(p.Frags)])
	for i, f := range l {
		l[i].Bytes = slices.Clone(f.Bytes[:cap(f.Bytes)])
		l[i].Relocs = slices.Clone(f.Relocs[:cap(f.Relocs)])
	}
	return api.Part{Frags: l, Defs: slices.Clone(p.Defs[:cap(p.Defs)])}
}

// TestOnlyReads: P2: what is handed in stays as it is, the spare room behind it too, which nobody looks at.
func TestOnlyReads(t *testing.T) {
	p := roomy(whole())
	before := copied(p)
	want, _, _ := Link(whole(), 10, "main")
	wantImage(t, "spare room", p, 10, "main", want)
	wantFaults(t, "spare room", p, 10, "spare", undef("spare"))
	all := []api.Item{object(p), library(roomy(whole()), p), object(roomy(whole()))}
	items, behind := all[:2], copied(all[2].Parts[0])
	if m, faults, e := Items(items, 10, "main"); e != api.OK || len(faults) != 0 || !Same(m, want) {
		t.Errorf("items with spare room: %v, %v, %d", m, faults, e)
	}
	m := api.Image{Entry: want.Entry, Segments: append(slices.Clone(want.Segments), api.Segment{At: 9})[:3]}
	if !Same(m, want) || !Same(want, m) || m.Segments[:4][3].At != 9 {
		t.Error("an image with spare room")
	}
	if !reflect.DeepEqual(copied(p), before) || !reflect.DeepEqual(copied(items[1].Parts[1]), before) || !reflect.DeepEqual(copied(all[2].Parts[0]), behind) {
		t.Error("what was handed in was changed")
	}
}

// TestOwnMemory: P2: no list of an answer shares memory with another one, with what was handed in, or with an answer ahead.
func TestOwnMemory(t *testing.T) {
	p := whole()
	// Fragments without places, too: their bytes are copied as they are.
	p.Frags = append(p.Frags, frag(api.Code, 1, "x"), frag(api.Data, 1, "y"))
	before := copied(p)
	link := func() api.Image {
		m, faults, e := Link(p, 10, "main")
		if e != api.OK || len(faults) != 0 {
			t.Fatal(faults, e)
		}
		return m
	}
	first, again := link(), link()
	for i := range first.Segments {
		m := link()
		clear(m.Segments[i].Bytes[:cap(m.Segments[i].Bytes)])
		for k := range m.Segments {
			if k != i && !bytes.Equal(m.Segments[k].Bytes, first.Segments[k].Bytes) {
				t.Errorf("segments %d and %d share memory", i, k)
			}
		}
		clear(m.Segments[:cap(m.Segments)])
	}
	if !Same(first, again) || !Same(first, link()) {
		t.Error("answers share memory")
	}
	if !reflect.DeepEqual(copied(p), before) {
		t.Error("an answer shares memory with what was handed in")
	}
	_, faults, _ := Link(p, 10, "no")
	_, faults2, _ := Link(p, 10, "no")
	clear(faults[:cap(faults)])
	if len(faults2) != 1 || faults2[0] != undef("no") {
		t.Error("faults share memory")
	}
}

package archive

import (
	"math/rand"
	"reflect"
	"slices"
	"strings"
	"testing"

	"ropewalk/api"
	"ropewalk/names"
	"ropewalk/obj"
	"ropewalk/part"
)

// unit is a part that is known by its first byte; words say what it wants (?), and defines as Strong (!), Weak (~), Common (=).
func unit(id byte, words ...string) api.Part {
	p := api.Part{Frags: []api.Frag{{Sect: api.Data, Align: 2, Group: "g", Bytes: []byte{id, 0}}}}
	for _, word := range words {
		name := word[1:]
		switch word[0] {
		case '?':
			place := api.Reloc{Kind: api.Abs1, Name: name, Add: 3}
			p.Frags = append(p.Frags, api.Frag{Sect: api.Code, Align: 1, Bytes: []byte{7}, Relocs: []api.Reloc{place}})
		case '!':
			p.Defs = append(p.Defs, api.Def{Name: name, Kind: api.Strong, At: 1})
		case '~':
			p.Defs = append(p.Defs, api.Def{Name: name, Kind: api.Weak, At: 2})
		case '=':
			p.Defs = append(p.Defs, api.Def{Name: name, Kind: api.Common, Size: 4, Align: 8})
		}
	}
	return p
}

func object(p api.Part) api.Item { return api.Item{Parts: []api.Part{p}} }

func library(l ...api.Part) api.Item { return api.Item{Archive: true, Parts: l} }

// ids tells by which bytes parts are known.
func ids(l []api.Part) string {
	var s []byte
	for _, p := range l {
		s = append(s, p.Frags[0].Bytes[0])
	}
	return string(s)
}

// wrongs are parts that chapter 1's Check has something against.
func wrongs() []api.Part {
	return []api.Part{
		{Frags: make([]api.Frag, api.MaxFrags+1)},
		{Defs: slices.Repeat([]api.Def{{Name: "c", Kind: api.Common, Size: 1, Align: 1}}, api.MaxDefs+1)},
		{Frags: []api.Frag{{Sect: 6, Align: 1}}},
		{Frags: []api.Frag{{Sect: api.Code, Align: 3}}},
		{Frags: []api.Frag{{Sect: api.Code, Align: 1, Group: "G"}}},
		{Frags: []api.Frag{{Sect: api.Zero, Align: 1, Size: -1}}},
		{Frags: []api.Frag{{Sect: api.Code, Align: 1, Bytes: []byte{0}, Relocs: []api.Reloc{{Kind: api.Abs1, Frag: 1}}}}},
		unit('a', "?X"),
		unit('a', "!"),
		{Defs: []api.Def{{Name: "x", Kind: api.Strong}}},
		{Defs: []api.Def{{Name: "x", Kind: 4}}},
	}
}

func TestCheck(t *testing.T) {
	one, wrong := unit('a', "?x", "!y"), api.Part{Frags: []api.Frag{{Sect: 6, Align: 1}}}
	many := slices.Repeat([]api.Part{one}, api.MaxMember+1)
	tests := []struct {
		what string
		l    []api.Item
		want api.Errno
	}{
		{"nothing", nil, api.OK},
		{"nothing in a list", []api.Item{}, api.OK},
		{"an object", []api.Item{object(one)}, api.OK},
		{"an object with nothing in it", []api.Item{object(api.Part{})}, api.OK},
		{"an archive", []api.Item{library(one, api.Part{}, one)}, api.OK},
		{"an archive of one", []api.Item{library(one)}, api.OK},
		{"an archive of none", []api.Item{library()}, api.OK},
		{"as many parts as may be", []api.Item{library(many[1:]...)}, api.OK},
		{"one part more", []api.Item{library(many...)}, api.ErrMany},
		{"as many items as may be", slices.Repeat([]api.Item{library(many[1:]...)}, api.MaxItems), api.OK},
		{"one item more", make([]api.Item, api.MaxItems+1), api.ErrMany},
		{"an object of none", []api.Item{{}}, api.ErrForm},
		{"an object of two", []api.Item{{Parts: many[:2]}}, api.ErrForm},
		{"an object of as many as an archive", []api.Item{{Parts: many[1:]}}, api.ErrForm},
		{"an object of one more", []api.Item{{Parts: many}}, api.ErrMany},
		{"form ahead of its parts", []api.Item{{Parts: []api.Part{wrong, one}}}, api.ErrForm},
		{"many ahead of its parts", []api.Item{library(append([]api.Part{wrong}, many...)...)}, api.ErrMany},
		{"the first item ahead of the second", []api.Item{object(wrong), library(many...)}, api.ErrRange},
		{"the first item ahead of the second's form", []api.Item{object(wrong), {}}, api.ErrRange},
		{"the second item", []api.Item{library(), {}, object(wrong)}, api.ErrForm},
		{"the first part ahead of the second", []api.Item{library(one, unit('b', "!"), wrong)}, api.ErrText},
		{"the last part of the last item", []api.Item{object(one), library(one, one, wrong)}, api.ErrRange},
	}
	for _, x := range tests {
		if e := Check(x.l); e != x.want {
			t.Errorf("%s: %d, want %d", x.what, e, x.want)
		}
		wantError(t, x.what, x.l, []string{"x"}, x.want)
	}
}

// wantError looks whether Choose has this against its items, with nothing else in its answer.
func wantError(t *testing.T, what string, l []api.Item, first []string, want api.Errno) {
	t.Helper()
	got, e := Choose(l, first)
	if e != want || e != api.OK && got != nil {
		t.Errorf("choose: %s: %v, %d, want %d", what, got, e, want)
	}
}

func TestWrongParts(t *testing.T) {
	for _, p := range wrongs() {
		want := obj.Check(p)
		if want == api.OK {
			t.Fatalf("%v isn't wrong", p)
		}
		for _, l := range [][]api.Item{{object(p)}, {library(p)}, {object(unit('a')), library(unit('b'), p), {}}} {
			if e := Check(l); e != want {
				t.Errorf("%v: %d, want %d", p, e, want)
			}
			wantError(t, "a part that is wrong", l, nil, want)
		}
	}
}

func TestWrongFirst(t *testing.T) {
	right := []api.Item{object(unit('a', "!x"))}
	full := slices.Repeat([]string{"abcdefgh"}, api.MaxItems)
	for _, name := range []string{"", "X", "abcdefghi", "x ", "x\x00", "\xff", "é", "-"} {
		wantError(t, name, right, []string{name}, api.ErrText)
		wantError(t, name+" behind others", right, []string{"x", "y", name}, api.ErrText)
		wantError(t, name+", and too many", right, append([]string{name}, full...), api.ErrMany)
		wantError(t, name+", and an item that is wrong", []api.Item{{}}, []string{name}, api.ErrForm)
	}
	wantError(t, "as many as may be", right, full, api.OK)
	wantError(t, "one more", right, append([]string{"x"}, full...), api.ErrMany)
	wantError(t, "one more, and an item that is wrong", []api.Item{{}}, append([]string{"x"}, full...), api.ErrForm)
}

func TestChoose(t *testing.T) {
	tests := []struct {
		what  string
		l     []api.Item
		first string
		want  string
	}{
		{"nothing", nil, "x", ""},
		{"objects", []api.Item{object(unit('a')), object(unit('b', "!x")), object(unit('c', "!x"))}, "", "abc"},
		{"an archive alone", []api.Item{library(unit('a', "!x"), unit('b', "?x"))}, "", ""},
		{"wanted at first", []api.Item{library(unit('a', "!x"), unit('b', "!y"))}, "y", "b"},
		{"wanted at first, twice", []api.Item{library(unit('a', "!x"), unit('b', "!x"))}, "x x", "a"},
		{"wanted at first, not there", []api.Item{library(unit('a', "!x"), unit('b', "!y"))}, "z", ""},
		{"wanted at first, in the order of the archive", []api.Item{library(unit('a', "!x"), unit('b', "!y"))}, "y x", "ab"},
		{"wanted at first, defined by an object", []api.Item{object(unit('a', "!x")), library(unit('b', "!x"))}, "x", "a"},
		{"wanted by an object", []api.Item{object(unit('a', "?x")), library(unit('b', "!y"), unit('c', "!x"))}, "", "ac"},
		{"wanted behind the archive", []api.Item{library(unit('b', "!x")), object(unit('a', "?x"))}, "", "a"},
		{"wanted and defined by one object", []api.Item{object(unit('a', "?x", "!x")), library(unit('b', "!x"))}, "", "a"},
		{"defined ahead of who wants it", []api.Item{object(unit('a', "~x")), object(unit('b', "?x")), library(unit('c', "!x"))}, "", "ab"},
		{"defined as common by an object", []api.Item{object(unit('a', "?x", "=x")), library(unit('b', "!x"))}, "", "a"},
		{"weak", []api.Item{object(unit('a', "?x")), library(unit('b', "~x"), unit('c', "!x"))}, "", "ab"},
		{"common", []api.Item{object(unit('a', "?x")), library(unit('b', "=x"), unit('c', "!x"))}, "", "ac"},
		{"common, taken for another name", []api.Item{object(unit('a', "?x", "?y")), library(unit('b', "=x", "~y"), unit('c', "!x"))}, "", "ab"},
		{"common and strong of one name", []api.Item{object(unit('a', "?x")), library(unit('b', "=x", "!x"))}, "", "ab"},
		{"common alone", []api.Item{object(unit('a', "?x")), library(unit('b', "=x"))}, "x", "a"},
		{"the last definition of a part", []api.Item{object(unit('a', "?x")), library(unit('b', "=w", "!y", "~z", "!x"))}, "", "ab"},
		{"a second round", []api.Item{object(unit('a', "?x")), library(unit('b', "!y"), unit('c', "!x", "?y"))}, "", "acb"},
		{"the same round", []api.Item{object(unit('a', "?x")), library(unit('b', "!x", "?y"), unit('c', "!y"))}, "", "abc"},
		{"round by round, from the first part on", []api.Item{library(unit('a', "!y"), unit('b', "!x", "?y", "?z"), unit('c', "!z"))}, "x", "bca"},
		{"one part a round", []api.Item{library(unit('a', "!w"), unit('b', "!x", "?w"), unit('c', "!y", "?x"), unit('d', "!z", "?y"))}, "z", "dcba"},
		{"no longer lacking in a later round", []api.Item{library(unit('a', "!y"), unit('b', "!x", "?y"), unit('c', "!y"))}, "x", "bc"},
		{"parts that want each other", []api.Item{library(unit('a', "!x", "?y"), unit('b', "!y", "?x"))}, "y", "ba"},
		{"parts that are alike", []api.Item{library(unit('a', "!x", "?y"), unit('a', "!x", "?y"))}, "x", "a"},
		{"the first archive that has it", []api.Item{library(unit('a', "!x")), library(unit('b', "!x"))}, "x", "a"},
		{"no way back to an archive", []api.Item{library(unit('a', "!y")), library(unit('b', "!x", "?y"))}, "x", "b"},
		{"an archive twice", []api.Item{library(unit('a', "!y")), library(unit('b', "!x", "?y")), library(unit('a', "!y"))}, "x", "ba"},
		{"an archive ahead of an object that defines it", []api.Item{library(unit('a', "!x")), object(unit('b', "!x"))}, "x", "ab"},
		{"an archive of none", []api.Item{library(), object(unit('a', "?x")), library()}, "x", "a"},
		{"two names of one part", []api.Item{library(unit('a', "!x", "!y"), unit('b', "!y"))}, "x y", "a"},
		{"nothing but what is no archive", []api.Item{library(unit('a')), object(unit('b')), library(unit('c'))}, "x", "b"},
	}
	for _, x := range tests {
		l, e := Choose(x.l, strings.Fields(x.first))
		if got := ids(l); e != api.OK || got != x.want {
			t.Errorf("%s: %s, %d, want %s", x.what, got, e, x.want)
		}
	}
}

// TestFragmentPlaces: a place that leads to a fragment wants no name.
func TestFragmentPlaces(t *testing.T) {
	a := unit('a')
	a.Frags[0].Relocs = []api.Reloc{{Kind: api.Abs1}, {At: 1, Kind: api.Abs1, Frag: -1}}
	l, e := Choose([]api.Item{object(a), library(unit('b', "!x"))}, nil)
	if e != api.OK || len(l) != 1 || !obj.Same(l[0], a) {
		t.Errorf("%v, %d", l, e)
	}
}

// TestLetGo: what joining lets go of a part that was taken is defined all the same.
func TestLetGo(t *testing.T) {
	l, e := Choose([]api.Item{object(unit('a', "?x")), object(unit('b', "!x")), library(unit('c', "!x"))}, nil)
	if e != api.OK || ids(l) != "ab" {
		t.Fatalf("%s, %d", ids(l), e)
	}
	// Both have the group g: the definition of b is gone when they are joined.
	p, e := part.All(l)
	if e != api.OK {
		t.Fatal(e)
	}
	if lack, e := names.Lacking(p); e != api.OK || !slices.Equal(lack, []string{"x"}) {
		t.Errorf("%q, %d", lack, e)
	}
}

// TestMany: as many parts as a link can have, the last ones of each archive taken first.
func TestMany(t *testing.T) {
	var l []api.Item
	var want []byte
	id := byte(1)
	chain := func(n byte) string { return "n" + string([]byte{'a' + n/10, '0' + n%10}) }
	for range api.MaxItems {
		parts := make([]api.Part, api.MaxMember)
		for i := range parts {
			parts[len(parts)-1-i] = unit(id, "!"+chain(id), "?"+chain(id+1))
			want = append(want, id)
			id++
		}
		l = append(l, library(parts...))
	}
	got, e := Choose(l, []string{chain(1)})
	if e != api.OK || ids(got) != string(want) || len(got) != api.MaxItems*api.MaxMember {
		t.Errorf("%v, %d, want %v", []byte(ids(got)), e, want)
	}
}

// some makes items by chance; each part is known by a byte of its own.
func some(r *rand.Rand) []api.Item {
	id := byte(0)
	next := func() api.Part {
		id++
		var words []string
		for range r.Intn(4) {
			words = append(words, string("???!!~~="[r.Intn(8)])+string("abcdefgh"[r.Intn(8)]))
		}
		return unit(id, words...)
	}
	var l []api.Item
	for range r.Intn(6) {
		if r.Intn(3) == 0 {
			l = append(l, object(next()))
			continue
		}
		item := library()
		for range r.Intn(api.MaxMember + 1) {
			item.Parts = append(item.Parts, next())
		}
		l = append(l, item)
	}
	return l
}

// lacks tells, from the parts that were taken alone, whether a name is lacking.
func lacks(taken []api.Part, first []string, name string) bool {
	want := slices.Contains(first, name)
	for _, p := range taken {
		for _, d := range p.Defs {
			if d.Name == name {
				return false
			}
		}
		for _, f := range p.Frags {
			for _, place := range f.Relocs {
				want = want || place.Name == name
			}
		}
	}
	return want
}

// lacked tells whether a part defines, as Strong or Weak, a name that is lacking.
func lacked(taken []api.Part, first []string, p api.Part) bool {
	for _, d := range p.Defs {
		if (d.Kind == api.Strong || d.Kind == api.Weak) && lacks(taken, first, d.Name) {
			return true
		}
	}
	return false
}

// TestLeft: P5.3, of items by chance: each part of an archive that was taken was lacked, and none that was left is.
func TestLeft(t *testing.T) {
	r := rand.New(rand.NewSource(3))
	took, left := 0, 0
	for range 3000 {
		l, first := some(r), strings.Fields("a b")[:r.Intn(3)]
		got, e := Choose(l, first)
		if e != api.OK {
			t.Fatalf("%v: %d", l, e)
		}
		told := ids(got)
		n := 0
		for _, item := range l {
			for n < len(got) && strings.Contains(ids(item.Parts), told[n:n+1]) {
				if item.Archive && !lacked(got[:n], first, got[n]) {
					t.Errorf("%v: part %d was taken, and not lacked", l, told[n])
				}
				n++
			}
			for i, p := range item.Parts {
				if strings.Contains(told[:n], ids(item.Parts)[i:i+1]) {
					took++
				} else if left++; !item.Archive || lacked(got[:n], first, p) {
					t.Errorf("%v: part %v was left", l, p)
				}
			}
		}
		if n != len(got) {
			t.Errorf("%v: %v were taken out of their turn", l, []byte(told[n:]))
		}
	}
	if took < 1000 || left < 1000 {
		t.Errorf("the items show too little: %d taken, %d left", took, left)
	}
}

// slow chooses as the document's words go, and keeps nothing of what it saw.
func slow(l []api.Item, first []string) []api.Part {
	var out []api.Part
	for _, item := range l {
		if !item.Archive {
			out = append(out, item.Parts...)
			continue
		}
		left := slices.Clone(item.Parts)
		for n := -1; n != len(out); {
			n = len(out)
			left = slices.DeleteFunc(left, func(p api.Part) bool {
				if !lacked(out, first, p) {
					return false
				}
				out = append(out, p)
				return true
			})
		}
	}
	return out
}

// TestSlow: what is chosen is what the document's words choose, part by part, whole.
func TestSlow(t *testing.T) {
	r := rand.New(rand.NewSource(4))
	for range 3000 {
		l, first := some(r), strings.Fields("c a b")[:r.Intn(4)]
		got, e := Choose(l, first)
		if want := slow(l, first); e != api.OK || !slices.EqualFunc(got, want, obj.Same) {
			t.Fatalf("%v, %q: %v, %d, want %v", l, first, []byte(ids(got)), e, []byte(ids(want)))
		}
	}
}

// sample has items of both kinds, of which all parts are taken.
func sample() []api.Item {
	return []api.Item{
		object(unit('a', "?x", "=c")),
		library(unit('b', "!y"), unit('c', "~x", "?y", "?z")),
		library(unit('d', "!z", "!w")),
	}
}

// roomy is the sample with spare room behind its lists, with something in it.
func roomy() []api.Item {
	l := sample()
	for i, item := range l {
		for k, p := range item.Parts {
			for n, f := range p.Frags {
				p.Frags[n].Bytes = append(slices.Clone(f.Bytes), 99)[:len(f.Bytes)]
				p.Frags[n].Relocs = append(slices.Clone(f.Relocs), api.Reloc{Name: "spare"})[:len(f.Relocs)]
			}
			item.Parts[k].Frags = append(p.Frags, api.Frag{Group: "spare"})[:len(p.Frags)]
			item.Parts[k].Defs = append(p.Defs, api.Def{Name: "spare"})[:len(p.Defs)]
		}
		l[i].Parts = append(item.Parts, unit('s', "!z", "!x"))[:len(item.Parts)]
	}
	return append(l, object(unit('s')))[:len(l)]
}

// whole is items with their lists as long as their memory, in new memory.
func whole(l []api.Item) []api.Item {
	l = slices.Clone(l[:cap(l)])
	for i, item := range l {
		l[i].Parts = slices.Clone(item.Parts[:cap(item.Parts)])
		for k, p := range l[i].Parts {
			frags := slices.Clone(p.Frags[:cap(p.Frags)])
			for n, f := range frags {
				frags[n].Bytes = slices.Clone(f.Bytes[:cap(f.Bytes)])
				frags[n].Relocs = slices.Clone(f.Relocs[:cap(f.Relocs)])
			}
			l[i].Parts[k] = api.Part{Frags: frags, Defs: slices.Clone(p.Defs[:cap(p.Defs)])}
		}
	}
	return l
}

// spoil writes over all that the lists of parts have room for.
func spoil(l []api.Part) {
	for _, p := range l {
		for _, f := range p.Frags {
			clear(f.Bytes[:cap(f.Bytes)])
			clear(f.Relocs[:cap(f.Relocs)])
		}
		clear(p.Frags[:cap(p.Frags)])
		clear(p.Defs[:cap(p.Defs)])
	}
	clear(l[:cap(l)])
}

// TestOnlyReads: P2: what is handed in stays as it is, the spare room behind it too, which nobody looks at, and isn't what is answered.
func TestOnlyReads(t *testing.T) {
	l := roomy()
	first := append(make([]string, 0, 3), "w", "x", "z")[:1]
	before := whole(l)
	if e := Check(l); e != api.OK {
		t.Error(e)
	}
	got, e := Choose(l, first)
	if want := slow(sample(), first); e != api.OK || !slices.EqualFunc(got, want, obj.Same) || ids(got) != "acbd" {
		t.Errorf("%s, %d, want %s", ids(got), e, ids(want))
	}
	spoil(got)
	if !reflect.DeepEqual(whole(l), before) || !slices.Equal(first[:3], []string{"w", "x", "z"}) {
		t.Error("what was handed in was changed")
	}
}

// TestOwnLists: P2: parts that share their lists when they are handed in don't when they are answered.
func TestOwnLists(t *testing.T) {
	p := unit('a', "?x", "!y")
	// One fragment twice: its lists are shared within a part, too.
	p.Frags = append(p.Frags, p.Frags[1])
	l := []api.Item{object(p), object(p)}
	got, e := Choose(l, nil)
	if e != api.OK || len(got) != 2 {
		t.Fatalf("%v, %d", got, e)
	}
	again, _ := Choose(l, nil)
	got[0].Frags[1].Bytes[0] = 1
	got[0].Frags[1].Relocs[0].Name = "z"
	if f := got[0].Frags[2]; f.Bytes[0] != 7 || f.Relocs[0].Name != "x" {
		t.Errorf("fragments share their lists: %v", f)
	}
	spoil(got[:1:1])
	for _, q := range []api.Part{got[1], again[0], again[1], p} {
		if !obj.Same(q, unitTwice()) {
			t.Errorf("parts share their lists: %v", q)
		}
	}
}

// unitTwice is the part of TestOwnLists, made anew.
func unitTwice() api.Part {
	p := unit('a', "?x", "!y")
	p.Frags = append(p.Frags, unit('a', "?x").Frags[1])
	return p
}

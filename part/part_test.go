package part

import (
	"math/rand"
	"reflect"
	"slices"
	"strconv"
	"testing"

	"ropewalk/api"
	"ropewalk/obj"
)

// data is a fragment of a group, with a place for each of what it leads to.
func data(group string, to ...int) api.Frag {
	f := api.Frag{Sect: api.Data, Align: 1, Group: group, Bytes: make([]byte, len(to))}
	for i, n := range to {
		f.Relocs = append(f.Relocs, api.Reloc{At: i, Kind: api.Abs1, Frag: n})
	}
	return f
}

// sample is a part with two groups, between and among fragments of none; each call makes a new one.
func sample() api.Part {
	named := data("", 0, 1, 2, 3, 4, 5, -1)
	named.Relocs[0] = api.Reloc{Kind: api.Rel1, Name: "g", Add: -api.MaxAdd}
	return api.Part{
		Frags: []api.Frag{
			data("g", 0, 3),
			{Sect: api.Text, Align: 2, Bytes: []byte("text")},
			data("h", 5, 2),
			data("g", 1),
			{Sect: api.Zero, Align: 8, Group: "h", Size: 5},
			named,
		},
		Defs: []api.Def{
			{Name: "a", Kind: api.Strong, Frag: 0, At: 2},
			{Name: "b", Kind: api.Weak, Frag: 1, At: 4},
			{Name: "c", Kind: api.Common, Size: 64, Align: 8},
			{Name: "d", Kind: api.Weak, Frag: 3},
			{Name: "e", Kind: api.Strong, Frag: 4, At: 5},
			{Name: "a", Kind: api.Strong, Frag: 5, At: 1},
		},
	}
}

// wrongs are parts that Check has something against.
func wrongs() []api.Part {
	return []api.Part{
		{Frags: make([]api.Frag, api.MaxFrags+1)},
		{Defs: make([]api.Def, api.MaxDefs+1)},
		{Frags: []api.Frag{{Sect: 6, Align: 1}}},
		{Frags: []api.Frag{{Sect: api.Data, Align: 1, Group: "G"}}},
		{Frags: []api.Frag{{Sect: api.Zero, Align: 1, Size: -1}}},
		{Frags: []api.Frag{data("g", 1)}},
		{Frags: []api.Frag{data("g", -2)}},
		{Defs: []api.Def{{Name: "x", Kind: api.Strong}}},
		{Defs: []api.Def{{Name: "x", Kind: api.Common, Frag: -1, Size: 1, Align: 1}}},
		{Defs: []api.Def{{Name: "x", Kind: 4}}},
	}
}

// many is a part of so many fragments and common names.
func many(frags, defs int) api.Part {
	var p api.Part
	for range frags {
		p.Frags = append(p.Frags, data(""))
	}
	for i := range defs {
		p.Defs = append(p.Defs, api.Def{Name: "x" + strconv.Itoa(i), Kind: api.Common, Size: 1, Align: 1})
	}
	return p
}

// targets are the fragments to which the places of a fragment lead.
func targets(f api.Frag) []int {
	var l []int
	for _, r := range f.Relocs {
		l = append(l, r.Frag)
	}
	return l
}

func wantPart(t *testing.T, what string, got api.Part, e api.Errno, want api.Part) {
	t.Helper()
	if e != api.OK || !obj.Same(got, want) {
		t.Errorf("%s: %v, %d, want %v", what, got, e, want)
	}
}

func wantErrno(t *testing.T, what string, got api.Part, e, want api.Errno) {
	t.Helper()
	if e != want || got.Frags != nil || got.Defs != nil {
		t.Errorf("%s: %v, %d, want nothing, %d", what, got, e, want)
	}
}

func TestGroups(t *testing.T) {
	tests := []struct {
		groups, want []string
	}{
		{nil, nil},
		{[]string{"", ""}, nil},
		{[]string{"z", "", "a", "z", "a", "zz", ""}, []string{"z", "a", "zz"}},
		{[]string{"", "g", "g", "h", "g"}, []string{"g", "h"}},
	}
	for _, x := range tests {
		var p api.Part
		for _, g := range x.groups {
			p.Frags = append(p.Frags, data(g))
		}
		l, e := Groups(p)
		if e != api.OK || !slices.Equal(l, x.want) {
			t.Errorf("%q: %q, %d, want %q", x.groups, l, e, x.want)
		}
	}
	// The names of places and definitions are no groups.
	if l, e := Groups(sample()); e != api.OK || !slices.Equal(l, []string{"g", "h"}) {
		t.Errorf("%q, %d", l, e)
	}
}

func TestDrop(t *testing.T) {
	p, e := Drop(sample(), []string{"x", "g", "", "g"})
	named := data("", 0, 0, 1, -1, 2, 3, -1)
	named.Relocs[0] = api.Reloc{Kind: api.Rel1, Name: "g", Add: -api.MaxAdd}
	wantPart(t, "g", p, e, api.Part{
		Frags: []api.Frag{
			{Sect: api.Text, Align: 2, Bytes: []byte("text")},
			data("h", 3, 1),
			{Sect: api.Zero, Align: 8, Group: "h", Size: 5},
			named,
		},
		Defs: []api.Def{
			{Name: "b", Kind: api.Weak, Frag: 0, At: 4},
			{Name: "c", Kind: api.Common, Size: 64, Align: 8},
			{Name: "e", Kind: api.Strong, Frag: 2, At: 5},
			{Name: "a", Kind: api.Strong, Frag: 3, At: 1},
		},
	})
	p, e = Drop(sample(), []string{"h", "g"})
	named.Relocs[2].Frag, named.Relocs[4].Frag, named.Relocs[5].Frag = -1, -1, 1
	wantPart(t, "g, h", p, e, api.Part{
		Frags: []api.Frag{{Sect: api.Text, Align: 2, Bytes: []byte("text")}, named},
		Defs: []api.Def{
			{Name: "b", Kind: api.Weak, Frag: 0, At: 4},
			{Name: "c", Kind: api.Common, Size: 64, Align: 8},
			{Name: "a", Kind: api.Strong, Frag: 1, At: 1},
		},
	})
}

func TestDropNothing(t *testing.T) {
	for _, l := range [][]string{nil, {}, {""}, {"x", "", "gg", "G", "a", "text"}} {
		p, e := Drop(sample(), l)
		wantPart(t, "none of them", p, e, sample())
	}
	p, e := Drop(api.Part{}, []string{"", "g"})
	wantPart(t, "of nothing", p, e, api.Part{})
}

func TestDropAll(t *testing.T) {
	p := api.Part{Frags: []api.Frag{data("g", 0, 1), data("g")}, Defs: []api.Def{{Name: "x", Kind: api.Weak, Frag: 1}}}
	q, e := Drop(p, []string{"g"})
	wantPart(t, "all", q, e, api.Part{})
	// A common name's Frag is 0, but it isn't in that fragment.
	p.Defs[0] = many(0, 1).Defs[0]
	q, e = Drop(p, []string{"g"})
	wantPart(t, "a common name stays", q, e, many(0, 1))
}

func TestJoin(t *testing.T) {
	a := api.Part{
		Frags: []api.Frag{data("g", 1, -1), data("", 0, 1)},
		Defs:  []api.Def{{Name: "x", Kind: api.Strong, Frag: 1}, many(0, 1).Defs[0]},
	}
	p, e := Join(a, sample())
	named := data("", 0, 2, 3, -1, 4, 5, -1)
	named.Relocs[0] = api.Reloc{Kind: api.Rel1, Name: "g", Add: -api.MaxAdd}
	wantPart(t, "a group that both have, and one of b", p, e, api.Part{
		Frags: []api.Frag{
			data("g", 1, -1),
			data("", 0, 1),
			{Sect: api.Text, Align: 2, Bytes: []byte("text")},
			data("h", 5, 3),
			{Sect: api.Zero, Align: 8, Group: "h", Size: 5},
			named,
		},
		Defs: []api.Def{
			{Name: "x", Kind: api.Strong, Frag: 1},
			many(0, 1).Defs[0],
			{Name: "b", Kind: api.Weak, Frag: 2, At: 4},
			{Name: "c", Kind: api.Common, Size: 64, Align: 8},
			{Name: "e", Kind: api.Strong, Frag: 4, At: 5},
			{Name: "a", Kind: api.Strong, Frag: 5, At: 1},
		},
	})
}

// TestJoinOneGroup: a group's fragments stay together with those of their own part alone.
func TestJoinOneGroup(t *testing.T) {
	a := api.Part{Frags: []api.Frag{data("g"), data("g", 0)}}
	b := api.Part{Frags: []api.Frag{data("", 1), data("g"), data("g", 1), data("g", 2), data("", 4)}}
	p, e := Join(a, b)
	wantPart(t, "a, b", p, e, api.Part{Frags: []api.Frag{data("g"), data("g", 0), data("", -1), data("", 3)}})
	p, e = Join(b, a)
	wantPart(t, "b, a", p, e, b)
	p, e = Join(a, a)
	wantPart(t, "a, a", p, e, a)
}

// TestJoinKeepsNames: definitions of a name that both have all stay, even two strong ones.
func TestJoinKeepsNames(t *testing.T) {
	a := api.Part{Frags: []api.Frag{data("")}, Defs: []api.Def{{Name: "x", Kind: api.Strong}}}
	p, e := Join(a, a)
	wantPart(t, "x twice", p, e, api.Part{
		Frags: []api.Frag{data(""), data("")},
		Defs:  []api.Def{{Name: "x", Kind: api.Strong}, {Name: "x", Kind: api.Strong, Frag: 1}},
	})
}

func TestJoinNothing(t *testing.T) {
	for _, none := range []api.Part{{}, {Frags: []api.Frag{}, Defs: []api.Def{}}} {
		p, e := Join(none, sample())
		wantPart(t, "nothing ahead", p, e, sample())
		p, e = Join(sample(), none)
		wantPart(t, "nothing behind", p, e, sample())
		p, e = Join(none, none)
		wantPart(t, "nothing at all", p, e, api.Part{})
	}
}

func TestJoinFull(t *testing.T) {
	half := api.MaxFrags / 2
	p, e := Join(many(half, 0), many(api.MaxFrags-half, 0))
	wantPart(t, "as many fragments as may be", p, e, many(api.MaxFrags, 0))
	p, e = Join(many(half, 0), many(api.MaxFrags-half+1, 0))
	wantErrno(t, "one fragment more", p, e, api.ErrFull)
	p, e = Join(many(api.MaxFrags, api.MaxDefs), many(api.MaxFrags, 0))
	wantErrno(t, "as many again", p, e, api.ErrFull)
	p, e = Join(many(0, api.MaxDefs), api.Part{})
	wantPart(t, "as many definitions as may be", p, e, many(0, api.MaxDefs))
	p, e = Join(many(0, api.MaxDefs), many(0, 1))
	wantErrno(t, "one definition more", p, e, api.ErrFull)
	// Only what isn't let go takes room.
	a, b := many(api.MaxFrags-1, api.MaxDefs-1), many(2, 2)
	a.Frags[7].Group, b.Frags[0].Group = "g", "g"
	b.Defs[0] = api.Def{Name: "x", Kind: api.Weak}
	b.Defs[1] = api.Def{Name: "y", Kind: api.Weak, Frag: 1}
	p, e = Join(a, b)
	a.Frags = append(a.Frags, data(""))
	a.Defs = append(a.Defs, api.Def{Name: "y", Kind: api.Weak, Frag: api.MaxFrags - 1})
	wantPart(t, "with one let go", p, e, a)
}

func TestWrong(t *testing.T) {
	for _, p := range wrongs() {
		want := obj.Check(p)
		if want == api.OK {
			t.Fatalf("%v isn't wrong", p)
		}
		if l, e := Groups(p); l != nil || e != want {
			t.Errorf("Groups of %v: %q, %d, want %d", p, l, e, want)
		}
		q, e := Drop(p, []string{"g"})
		wantErrno(t, "Drop", q, e, want)
		q, e = Join(p, sample())
		wantErrno(t, "Join, ahead", q, e, want)
		q, e = Join(sample(), p)
		wantErrno(t, "Join, behind", q, e, want)
		q, e = Join(many(api.MaxFrags, api.MaxDefs), p)
		wantErrno(t, "Join, behind, with no room", q, e, want)
		q, e = All([]api.Part{sample(), p, sample()})
		wantErrno(t, "All", q, e, want)
		q, e = All([]api.Part{p})
		wantErrno(t, "All of one", q, e, want)
	}
}

// TestWrongFirst: of two that are wrong, the first one's error is told.
func TestWrongFirst(t *testing.T) {
	for _, a := range wrongs() {
		for _, b := range wrongs() {
			p, e := Join(a, b)
			wantErrno(t, "Join", p, e, obj.Check(a))
			p, e = All([]api.Part{{}, a, b})
			wantErrno(t, "All", p, e, obj.Check(a))
		}
	}
}

func TestAll(t *testing.T) {
	for _, l := range [][]api.Part{nil, {}, {{}}, {{}, {}}} {
		p, e := All(l)
		wantPart(t, "of nothing", p, e, api.Part{})
	}
	p, e := All([]api.Part{sample()})
	wantPart(t, "of one", p, e, sample())
	x := api.Part{Frags: []api.Frag{data("", 0)}}
	g := api.Part{Frags: []api.Frag{data("", 1), data("g", 0)}}
	p, e = All([]api.Part{x, g, x, g})
	wantPart(t, "of some", p, e, api.Part{Frags: []api.Frag{data("", 0), data("", 2), data("g", 1), data("", 3), data("", -1)}})
}

func TestAllMany(t *testing.T) {
	l := make([]api.Part, api.MaxItems*api.MaxMember)
	l[len(l)-1] = sample()
	p, e := All(l)
	wantPart(t, "as many as may be", p, e, sample())
	l = append(l, api.Part{})
	p, e = All(l)
	wantErrno(t, "one more", p, e, api.ErrMany)
	// Too many parts is told ahead of what is wrong with the first one of them.
	l[0] = api.Part{Frags: []api.Frag{data("g", 1)}}
	p, e = All(l)
	wantErrno(t, "one more, with a wrong one", p, e, api.ErrMany)
}

// TestAllFull: the first Join that has an error is the one whose error is told.
func TestAllFull(t *testing.T) {
	bad := api.Part{Frags: []api.Frag{data("", 1)}}
	full := many(api.MaxFrags, 0)
	p, e := All([]api.Part{full, full, bad})
	wantErrno(t, "no room, then a wrong one", p, e, api.ErrFull)
	p, e = All([]api.Part{full, bad, full})
	wantErrno(t, "a wrong one, then no room", p, e, api.ErrWho)
	p, e = All([]api.Part{many(20, 0), many(20, 0), many(20, 0)})
	wantPart(t, "all the room", p, e, full)
}

// some makes a part by chance; many groups are alike.
func some(r *rand.Rand) api.Part {
	var p api.Part
	words := []string{"a", "f", "g", "_0", "zzzzzzzz"}
	aligns := []int{1, 2, 4, 8}
	frags := r.Intn(6)
	for range frags {
		f := api.Frag{Sect: 1 + r.Intn(5), Align: aligns[r.Intn(4)]}
		if r.Intn(2) == 0 {
			f.Group = words[r.Intn(len(words))]
		}
		if f.Sect == api.Zero {
			f.Size = r.Intn(api.MaxBytes + 1)
		} else {
			f.Bytes = make([]byte, r.Intn(20))
			r.Read(f.Bytes)
		}
		if f.Sect != api.Zero && f.Sect != api.Text {
			for at := 0; at+2 <= len(f.Bytes) && len(f.Relocs) < api.MaxRelocs; at += 2 + r.Intn(9) {
				x := api.Reloc{At: at, Kind: 1 + r.Intn(4), Add: r.Intn(2*api.MaxAdd+1) - api.MaxAdd}
				if r.Intn(3) == 0 {
					x.Name = words[r.Intn(len(words))]
				} else {
					x.Frag = r.Intn(frags+1) - 1
				}
				f.Relocs = append(f.Relocs, x)
			}
		}
		p.Frags = append(p.Frags, f)
	}
	for range r.Intn(6) {
		d := api.Def{Name: words[r.Intn(len(words))], Kind: api.Common, Size: 1 + r.Intn(api.MaxBytes), Align: aligns[r.Intn(4)]}
		if frags > 0 && r.Intn(3) > 0 {
			d.Kind, d.Size, d.Align = 1+r.Intn(2), 0, 0
			d.Frag = r.Intn(frags)
			d.At = r.Intn(obj.Long(p.Frags[d.Frag]) + 1)
		}
		p.Defs = append(p.Defs, d)
	}
	return p
}

// joined joins parts in some way, but in their order.
func joined(t *testing.T, r *rand.Rand, l []api.Part) api.Part {
	t.Helper()
	if len(l) == 1 {
		return l[0]
	}
	n := 1 + r.Intn(len(l)-1)
	p, e := Join(joined(t, r, l[:n]), joined(t, r, l[n:]))
	if e != api.OK || obj.Check(p) != api.OK {
		t.Fatalf("%v: %d, %d", l, e, obj.Check(p))
	}
	return p
}

// TestWhateverWay: P3.3, of parts that fit, in whatever way they are joined.
func TestWhateverWay(t *testing.T) {
	r := rand.New(rand.NewSource(3))
	for range 500 {
		l := make([]api.Part, 1+r.Intn(9))
		for i := range l {
			l[i] = some(r)
		}
		want, e := All(l)
		if e != api.OK {
			t.Fatalf("%v: %d", l, e)
		}
		for range 5 {
			wantPart(t, "in some way", joined(t, r, l), api.OK, want)
		}
		p, e := All(slices.Insert(slices.Clone(l), r.Intn(len(l)+1), api.Part{}))
		wantPart(t, "with nothing among them", p, e, want)
	}
}

// TestNoRoomOnTheWay: what would be let go later takes room until then, so one way may have an error that another hasn't.
func TestNoRoomOnTheWay(t *testing.T) {
	a, b, c := many(1, 0), many(40, 0), many(40, 0)
	a.Frags[0].Group = "g"
	for i := range b.Frags {
		b.Frags[i].Group = "g"
	}
	p, e := Join(b, c)
	wantErrno(t, "b and c first", p, e, api.ErrFull)
	p, e = All([]api.Part{a, b, c})
	want := many(41, 0)
	want.Frags[0].Group = "g"
	wantPart(t, "a and b first", p, e, want)
}

// TestDropOfSome: what is left has no such group, and what leads on leads to the same fragment as it did.
func TestDropOfSome(t *testing.T) {
	r := rand.New(rand.NewSource(4))
	for range 2000 {
		p := some(r)
		l := []string{"", "g", "_0"}[:r.Intn(4)]
		q, e := Drop(p, l)
		if e != api.OK || obj.Check(q) != api.OK {
			t.Fatalf("%v: %d, %d", p, e, obj.Check(q))
		}
		var stay []int
		for i, f := range p.Frags {
			if f.Group == "" || !slices.Contains(l, f.Group) {
				stay = append(stay, i)
			}
		}
		if len(q.Frags) != len(stay) {
			t.Fatalf("%v without %q: %v", p, l, q)
		}
		for i, f := range q.Frags {
			old := p.Frags[stay[i]]
			for k, n := range targets(f) {
				want := slices.Index(stay, old.Relocs[k].Frag)
				if old.Relocs[k].Name != "" {
					want = 0
				}
				if n != want {
					t.Errorf("%v without %q: place %d of %d leads to %d, want %d", p, l, k, i, n, want)
				}
			}
		}
	}
}

// roomy is the sample with spare room behind each list, with something in it.
func roomy() api.Part {
	p := sample()
	for i, f := range p.Frags {
		p.Frags[i].Bytes = append(slices.Clone(f.Bytes), 1, 2, 3)[:len(f.Bytes)]
		p.Frags[i].Relocs = append(slices.Clone(f.Relocs), api.Reloc{At: 9})[:len(f.Relocs)]
	}
	p.Frags = append(p.Frags, data("x"))[:len(p.Frags)]
	p.Defs = append(p.Defs, api.Def{Name: "y"})[:len(p.Defs)]
	return p
}

// whole is a part with all its lists as long as their memory.
func whole(p api.Part) api.Part {
	p.Frags = slices.Clone(p.Frags[:cap(p.Frags)])
	p.Defs = p.Defs[:cap(p.Defs)]
	for i, f := range p.Frags {
		p.Frags[i].Bytes = f.Bytes[:cap(f.Bytes)]
		p.Frags[i].Relocs = f.Relocs[:cap(f.Relocs)]
	}
	return p
}

// scribble writes over all memory of a part.
func scribble(p api.Part) {
	p = api.Part{Frags: p.Frags[:cap(p.Frags)], Defs: p.Defs[:cap(p.Defs)]}
	for i, f := range p.Frags {
		for k := range f.Bytes[:cap(f.Bytes)] {
			f.Bytes[:cap(f.Bytes)][k]++
		}
		for k := range f.Relocs[:cap(f.Relocs)] {
			f.Relocs[:cap(f.Relocs)][k].At += 100
		}
		p.Frags[i].Align++
	}
	for i := range p.Defs {
		p.Defs[i].At += 100
	}
}

// calls are all ways to a part that is made of the sample.
func calls() map[string]func(p api.Part) api.Part {
	return map[string]func(p api.Part) api.Part{
		"Drop": func(p api.Part) api.Part { q, _ := Drop(p, []string{"g"}); return q },
		"keep": func(p api.Part) api.Part { q, _ := Drop(p, nil); return q },
		"Join": func(p api.Part) api.Part { q, _ := Join(p, p); return q },
		"left": func(p api.Part) api.Part { q, _ := Join(p, api.Part{}); return q },
		"back": func(p api.Part) api.Part { q, _ := Join(api.Part{}, p); return q },
		"All":  func(p api.Part) api.Part { q, _ := All([]api.Part{p, p}); return q },
		"one":  func(p api.Part) api.Part { q, _ := All([]api.Part{p}); return q },
	}
}

// TestOnlyReads: P2: what is handed in stays as it is, and what is answered shares nothing with it.
func TestOnlyReads(t *testing.T) {
	for name, call := range calls() {
		p, before := roomy(), roomy()
		q := call(p)
		if !reflect.DeepEqual(whole(p), whole(before)) {
			t.Errorf("%s changes what it is given", name)
		}
		scribble(q)
		if !reflect.DeepEqual(whole(p), whole(before)) {
			t.Errorf("%s answers memory of what it is given", name)
		}
	}
	l := []string{"g", "h", "x"}
	if Drop(sample(), l[:1]); !slices.Equal(l, []string{"g", "h", "x"}) {
		t.Errorf("Drop changes its list: %q", l)
	}
}

// TestOwnLists: P2: no two lists of an answer share memory.
func TestOwnLists(t *testing.T) {
	f := data("", 0, 0)
	d := api.Def{Name: "x", Kind: api.Weak, At: 1}
	p := api.Part{Frags: []api.Frag{f, f, f}, Defs: []api.Def{d, d}}
	for name, call := range calls() {
		q, want := call(p), call(p)
		for i := range q.Frags {
			g := q.Frags[i]
			g.Bytes[0] = 5
			g.Relocs[0].At = 5
			_ = append(g.Bytes, 6)
			_ = append(g.Relocs, api.Reloc{At: 6})
			want.Frags[i].Bytes[0] = 5
			want.Frags[i].Relocs[0].At = 5
			if !obj.Same(q, want) {
				t.Errorf("%s: lists of one answer share memory", name)
			}
		}
	}
}

// TestGroupsOwnList: what Groups answers is new each time.
func TestGroupsOwnList(t *testing.T) {
	p := sample()
	l, _ := Groups(p)
	l[0] = "x"
	if m, e := Groups(p); e != api.OK || !slices.Equal(m, []string{"g", "h"}) {
		t.Errorf("%q, %d", m, e)
	}
}

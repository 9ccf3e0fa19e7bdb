package names

import (
	"math/rand"
	"reflect"
	"slices"
	"strconv"
	"testing"

	"ropewalk/api"
	"ropewalk/obj"
	"ropewalk/part"
)

// wants is a fragment with a place for each name; "": the place leads to what was let go.
func wants(l ...string) api.Frag {
	f := api.Frag{Sect: api.Data, Align: 1, Bytes: make([]byte, len(l))}
	for i, name := range l {
		r := api.Reloc{At: i, Kind: api.Abs1, Name: name}
		if name == "" {
			r.Frag = -1
		}
		f.Relocs = append(f.Relocs, r)
	}
	return f
}

func strong(name string, at int) api.Def { return api.Def{Name: name, Kind: api.Strong, At: at} }

func weak(name string, at int) api.Def { return api.Def{Name: name, Kind: api.Weak, At: at} }

func common(name string, size, align int) api.Def {
	return api.Def{Name: name, Kind: api.Common, Size: size, Align: align}
}

// defs is a part of one fragment, of eight bytes, with these definitions.
func defs(l ...api.Def) api.Part {
	return api.Part{Frags: []api.Frag{{Sect: api.Code, Align: 1, Bytes: make([]byte, 8)}}, Defs: l}
}

// sample wants and defines names in all ways; each call makes a new one.
func sample() api.Part {
	return api.Part{
		Frags: []api.Frag{
			wants("z", "x", "", "_a", "9", "z"),
			{Sect: api.Zero, Align: 8, Group: "g", Size: 8},
			wants("y", "z", "a", "aa"),
			wants("", ""),
		},
		Defs: []api.Def{weak("y", 0), strong("x", 1), common("c", 3, 2), weak("_a", 2), strong("x", 2), weak("y", 1)},
	}
}

// wrongs are parts that chapter 1's Check has something against, though there are names in them.
func wrongs() []api.Part {
	return []api.Part{
		{Frags: make([]api.Frag, api.MaxFrags+1)},
		{Defs: slices.Repeat([]api.Def{common("c", 1, 1)}, api.MaxDefs+1)},
		{Frags: []api.Frag{wants("x"), {Sect: 6, Align: 1}}},
		{Frags: []api.Frag{wants("X")}},
		{Frags: []api.Frag{wants("abcdefghi")}},
		{Frags: []api.Frag{{Sect: api.Zero, Align: 1, Size: -1}}},
		{Frags: []api.Frag{{Sect: api.Data, Align: 1, Bytes: []byte{0}, Relocs: []api.Reloc{{Kind: api.Abs1, Frag: 1}}}}},
		{Defs: []api.Def{strong("x", 0)}},
		defs(weak("x", 9)),
		defs(common("x", 0, 1)),
		defs(weak("", 0)),
		defs(api.Def{Name: "x", Kind: 4}),
	}
}

func wantNames(t *testing.T, what string, got []string, e api.Errno, want ...string) {
	t.Helper()
	if e != api.OK || !slices.Equal(got, want) {
		t.Errorf("%s: %q, %d, want %q", what, got, e, want)
	}
}

func wantFaults(t *testing.T, what string, got []api.Fault, e api.Errno, want ...api.Fault) {
	t.Helper()
	if e != api.OK || !slices.Equal(got, want) {
		t.Errorf("%s: %v, %d, want %v", what, got, e, want)
	}
}

func TestLists(t *testing.T) {
	l, e := Wanted(sample())
	wantNames(t, "wanted", l, e, "9", "_a", "a", "aa", "x", "y", "z")
	l, e = Defined(sample())
	wantNames(t, "defined", l, e, "_a", "c", "x", "y")
	l, e = Lacking(sample())
	wantNames(t, "lacking", l, e, "9", "a", "aa", "z")
}

func TestFaults(t *testing.T) {
	l, e := Faults(sample())
	wantFaults(t, "all kinds", l, e,
		api.Fault{E: api.ErrUndef, Name: "9"},
		api.Fault{E: api.ErrUndef, Name: "a"},
		api.Fault{E: api.ErrUndef, Name: "aa"},
		api.Fault{E: api.ErrTwice, Name: "x"},
		api.Fault{E: api.ErrUndef, Name: "z"})
	l, e = Faults(defs(strong("b", 0), strong("a", 0), strong("b", 1), strong("a", 1), strong("a", 2)))
	wantFaults(t, "twice, and wanted by none", l, e, api.Fault{E: api.ErrTwice, Name: "a"}, api.Fault{E: api.ErrTwice, Name: "b"})
	l, e = Faults(defs(strong("a", 0), weak("a", 1), weak("b", 0), weak("b", 1), common("c", 1, 1), common("c", 2, 1)))
	wantFaults(t, "none", l, e)
}

// TestNothing: no names are wanted or defined by nothing, nor by a place that leads to a fragment.
func TestNothing(t *testing.T) {
	to := wants("", "")
	to.Relocs[0].Frag = 0
	for _, p := range []api.Part{{}, {Frags: []api.Frag{}, Defs: []api.Def{}}, {Frags: []api.Frag{to}}} {
		for i, call := range lists() {
			l, e := call(p)
			wantNames(t, "list "+strconv.Itoa(i), l, e)
		}
		l, e := Faults(p)
		wantFaults(t, "faults", l, e)
		if d, e := Find(p, ""); d != (api.Def{}) || e != api.ErrUndef {
			t.Errorf("find: %v, %d", d, e)
		}
	}
}

// lists are the calls that answer names: Wanted, Defined, Lacking.
func lists() [3]func(api.Part) ([]string, api.Errno) {
	return [3]func(api.Part) ([]string, api.Errno){Wanted, Defined, Lacking}
}

func TestFind(t *testing.T) {
	tests := []struct {
		what string
		defs []api.Def
		want api.Def
		e    api.Errno
	}{
		{"none", nil, api.Def{}, api.ErrUndef},
		{"of another name", []api.Def{strong("xx", 0), weak("y", 0), common("_x", 1, 1)}, api.Def{}, api.ErrUndef},
		{"strong", []api.Def{strong("y", 1), strong("x", 8)}, strong("x", 8), api.OK},
		{"strong behind all others", []api.Def{weak("x", 1), common("x", 64, 8), strong("x", 2)}, strong("x", 2), api.OK},
		{"strong ahead of all others", []api.Def{strong("x", 2), common("x", 64, 8), weak("x", 1)}, strong("x", 2), api.OK},
		{"twice", []api.Def{strong("x", 1), strong("x", 2)}, api.Def{}, api.ErrTwice},
		{"twice alike", []api.Def{strong("x", 1), strong("x", 1)}, api.Def{}, api.ErrTwice},
		{"three times, among others", []api.Def{weak("x", 1), strong("x", 1), common("x", 1, 1), strong("x", 2), strong("x", 3)}, api.Def{}, api.ErrTwice},
		{"weak ahead of common", []api.Def{weak("x", 1), common("x", 4, 1)}, common("x", 4, 1), api.OK},
		{"common ahead of weak", []api.Def{common("x", 4, 1), weak("x", 1)}, common("x", 4, 1), api.OK},
		{"size and align of two", []api.Def{common("x", 4, 2), common("x", 3, 8)}, common("x", 4, 8), api.OK},
		{"size and align of two, turned round", []api.Def{common("x", 3, 8), common("x", 4, 2)}, common("x", 4, 8), api.OK},
		{"greatest between", []api.Def{common("x", 1, 1), common("x", 64, 4), common("x", 9, 2)}, common("x", 64, 4), api.OK},
		{"greater ones of another name", []api.Def{common("y", 64, 8), common("x", 1, 2), common("z", 64, 8)}, common("x", 1, 2), api.OK},
		{"first weak", []api.Def{weak("y", 0), weak("x", 5), weak("x", 1)}, weak("x", 5), api.OK},
	}
	for _, x := range tests {
		if d, e := Find(defs(x.defs...), "x"); d != x.want || e != x.e {
			t.Errorf("%s: %v, %d, want %v, %d", x.what, d, e, x.want, x.e)
		}
	}
}

// TestFindFragment: the definition that counts keeps the number of its fragment.
func TestFindFragment(t *testing.T) {
	p := sample()
	p.Defs = append(p.Defs, api.Def{Name: "s", Kind: api.Strong, Frag: 1, At: 8}, api.Def{Name: "w", Kind: api.Weak, Frag: 3, At: 2})
	for _, want := range p.Defs[6:] {
		if d, e := Find(p, want.Name); d != want || e != api.OK {
			t.Errorf("%v, %d, want %v", d, e, want)
		}
	}
}

// TestFindNoName: what is no name is defined nowhere.
func TestFindNoName(t *testing.T) {
	for _, s := range []string{"", "X", "abcdefghi", "x\x00", "x ", "\xff", "#0"} {
		if d, e := Find(sample(), s); d != (api.Def{}) || e != api.ErrUndef {
			t.Errorf("%q: %v, %d", s, d, e)
		}
	}
}

func TestWrong(t *testing.T) {
	for _, p := range wrongs() {
		want := obj.Check(p)
		if want == api.OK {
			t.Fatalf("%v isn't wrong", p)
		}
		for i, call := range lists() {
			if l, e := call(p); l != nil || e != want {
				t.Errorf("list %d of %v: %q, %d, want %d", i, p, l, e, want)
			}
		}
		if l, e := Faults(p); l != nil || e != want {
			t.Errorf("faults of %v: %v, %d, want %d", p, l, e, want)
		}
		// A name that is defined nowhere, and one that would be found.
		for _, name := range []string{"q", "x", "c", ""} {
			if d, e := Find(p, name); d != (api.Def{}) || e != want {
				t.Errorf("%q in %v: %v, %d, want %d", name, p, d, e, want)
			}
		}
	}
}

// TestMany: as many names as a part can have.
func TestMany(t *testing.T) {
	var p api.Part
	var want, defined []string
	for i := range api.MaxFrags {
		var l []string
		for k := range api.MaxRelocs {
			l = append(l, "n"+strconv.Itoa(1000-i*api.MaxRelocs-k))
		}
		p.Frags = append(p.Frags, wants(l...))
		want = append(want, l...)
	}
	for i := range api.MaxDefs {
		p.Defs = append(p.Defs, common(want[i*7], 1, 1))
		defined = append(defined, want[i*7])
	}
	slices.Sort(want)
	slices.Sort(defined)
	l, e := Wanted(p)
	wantNames(t, "wanted", l, e, want...)
	l, e = Defined(p)
	wantNames(t, "defined", l, e, defined...)
	lacking := slices.DeleteFunc(want, func(s string) bool { return slices.Contains(defined, s) })
	l, e = Lacking(p)
	wantNames(t, "lacking", l, e, lacking...)
	faults, e := Faults(p)
	if e != api.OK || len(faults) != api.MaxFrags*api.MaxRelocs-api.MaxDefs {
		t.Errorf("%d faults, %d", len(faults), e)
	}
}

// words are few, so that names meet.
func words() []string { return []string{"a", "b", "c", "_", "zzzzzzzz"} }

// some makes a part by chance, with groups that are let go when it is joined.
func some(r *rand.Rand) api.Part {
	var p api.Part
	word := func() string { return words()[r.Intn(len(words()))] }
	frags := 1 + r.Intn(3)
	for range frags {
		f := wants([]string{word(), "", word()}[:r.Intn(4)]...)
		if r.Intn(2) == 0 {
			f.Group = word()
		}
		p.Frags = append(p.Frags, f)
	}
	for range r.Intn(4) {
		d := common(word(), 1+r.Intn(api.MaxBytes), 1<<r.Intn(4))
		if kind := 1 + r.Intn(3); kind != api.Common {
			frag := r.Intn(frags)
			d = api.Def{Name: d.Name, Kind: kind, Frag: frag, At: r.Intn(len(p.Frags[frag].Bytes) + 1)}
		}
		p.Defs = append(p.Defs, d)
	}
	return p
}

// joined joins parts in some way, but in their order.
func joined(t *testing.T, r *rand.Rand, l []api.Part) api.Part {
	t.Helper()
	if len(l) == 1 {
		return l[0]
	}
	n := 1 + r.Intn(len(l)-1)
	p, e := part.Join(joined(t, r, l[:n]), joined(t, r, l[n:]))
	if e != api.OK {
		t.Fatalf("%v: %d", l, e)
	}
	return p
}

// told is all that is said of the names of a part.
type told struct {
	lists  [3][]string
	faults []api.Fault
	defs   []api.Def
	errors []api.Errno
}

func tell(p api.Part) told {
	var x told
	for i, call := range lists() {
		l, e := call(p)
		x.lists[i] = append([]string{}, l...)
		x.errors = append(x.errors, e)
	}
	l, e := Faults(p)
	x.faults = append(x.faults, l...)
	x.errors = append(x.errors, e)
	for _, name := range words() {
		d, e := Find(p, name)
		x.defs = append(x.defs, d)
		x.errors = append(x.errors, e)
	}
	return x
}

// TestWhateverWay: P4.3, of parts that fit, in whatever way they are joined.
func TestWhateverWay(t *testing.T) {
	r := rand.New(rand.NewSource(5))
	seen := map[api.Errno]int{}
	for range 500 {
		l := make([]api.Part, 1+r.Intn(9))
		for i := range l {
			l[i] = some(r)
		}
		all, e := part.All(l)
		if e != api.OK {
			t.Fatalf("%v: %d", l, e)
		}
		want := tell(all)
		for _, e := range want.errors {
			seen[e]++
		}
		for range 5 {
			if got := tell(joined(t, r, l)); !reflect.DeepEqual(got, want) {
				t.Errorf("%v: %v, want %v", l, got, want)
			}
		}
	}
	if len(seen) != 3 || seen[api.ErrTwice] < 100 || seen[api.ErrUndef] < 100 {
		t.Errorf("the parts show too little: %v", seen)
	}
}

// TestSeveralParts: which definition counts, of a name that stands in three parts, whichever two are joined first.
func TestSeveralParts(t *testing.T) {
	grouped := func(d api.Def) api.Part {
		p := defs(d)
		p.Frags[0].Group = "g"
		return p
	}
	behind := func(d api.Def, frag int) api.Def {
		d.Frag = frag
		return d
	}
	tests := []struct {
		what  string
		parts [3]api.Part
		want  api.Def
		e     api.Errno
	}{
		{"first weak", [3]api.Part{defs(), defs(weak("x", 5)), defs(weak("x", 1))}, behind(weak("x", 5), 1), api.OK},
		{"common of two", [3]api.Part{defs(common("x", 9, 1)), defs(weak("x", 1)), defs(common("x", 1, 8))}, common("x", 9, 8), api.OK},
		{"strong", [3]api.Part{defs(weak("x", 1)), defs(common("x", 9, 1)), defs(strong("x", 3))}, behind(strong("x", 3), 2), api.OK},
		{"twice", [3]api.Part{defs(strong("x", 1)), defs(), defs(strong("x", 1))}, api.Def{}, api.ErrTwice},
		{"once, by groups", [3]api.Part{grouped(strong("x", 1)), grouped(strong("x", 2)), grouped(strong("x", 3))}, strong("x", 1), api.OK},
		{"let go", [3]api.Part{grouped(strong("y", 1)), grouped(strong("x", 2)), defs(weak("x", 3))}, behind(weak("x", 3), 1), api.OK},
		{"none left", [3]api.Part{grouped(strong("y", 1)), grouped(strong("x", 2)), grouped(weak("x", 3))}, api.Def{}, api.ErrUndef},
	}
	for _, x := range tests {
		left, _ := part.Join(x.parts[0], x.parts[1])
		left, _ = part.Join(left, x.parts[2])
		right, _ := part.Join(x.parts[1], x.parts[2])
		right, _ = part.Join(x.parts[0], right)
		for _, p := range []api.Part{left, right} {
			if d, e := Find(p, "x"); d != x.want || e != x.e {
				t.Errorf("%s: %v, %d, want %v, %d", x.what, d, e, x.want, x.e)
			}
		}
	}
}

// roomy is the sample with spare room behind its lists, with something in it.
func roomy() api.Part {
	p := sample()
	for i, f := range p.Frags {
		p.Frags[i].Relocs = append(slices.Clone(f.Relocs), api.Reloc{Name: "spare"})[:len(f.Relocs)]
	}
	p.Frags = append(p.Frags, wants("spare"))[:len(p.Frags)]
	p.Defs = append(p.Defs, weak("spare", 0))[:len(p.Defs)]
	return p
}

// whole is a part with its lists as long as their memory.
func whole(p api.Part) api.Part {
	p.Frags = slices.Clone(p.Frags[:cap(p.Frags)])
	p.Defs = p.Defs[:cap(p.Defs)]
	for i, f := range p.Frags {
		p.Frags[i].Relocs = f.Relocs[:cap(f.Relocs)]
	}
	return p
}

// TestOnlyReads: P2: what is handed in stays as it is, the spare room behind it too, which nobody looks at.
func TestOnlyReads(t *testing.T) {
	p := roomy()
	if got, want := tell(p), tell(sample()); !reflect.DeepEqual(got, want) {
		t.Errorf("%v, want %v", got, want)
	}
	if !reflect.DeepEqual(whole(p), whole(roomy())) {
		t.Error("the part was changed")
	}
}

// TestOwnLists: P2: what is answered is new each time.
func TestOwnLists(t *testing.T) {
	p := sample()
	want := tell(p)
	for _, call := range lists() {
		l, _ := call(p)
		clear(l[:cap(l)])
	}
	l, _ := Faults(p)
	clear(l[:cap(l)])
	if got := tell(p); !reflect.DeepEqual(got, want) || !obj.Same(p, sample()) {
		t.Errorf("%v, want %v", got, want)
	}
}

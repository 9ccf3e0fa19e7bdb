package obj

import (
	"math"
	"reflect"
	"strings"
	"testing"

	"ropewalk/api"
)

// sample is a right part with all that a part may have; each call makes a new one.
func sample() api.Part {
	return api.Part{
		Frags: []api.Frag{
			{Sect: api.Code, Align: 4, Group: "g", Bytes: []byte{1, 2, 3, 4, 5, 6}, Relocs: []api.Reloc{
				{At: 0, Kind: api.Abs1, Name: "f", Add: -api.MaxAdd},
				{At: 1, Kind: api.Rel2, Frag: -1},
				{At: 4, Kind: api.Abs2, Frag: 4, Add: api.MaxAdd},
			}},
			{Sect: api.Fixed, Align: 1, Bytes: []byte{7}, Relocs: []api.Reloc{{Kind: api.Rel1}}},
			{Sect: api.Text, Align: 2, Bytes: []byte("text")},
			{Sect: api.Data, Align: 8},
			{Sect: api.Zero, Align: 8, Size: 5},
		},
		Defs: []api.Def{
			{Name: "f", Kind: api.Strong, Frag: 0, At: 6},
			{Name: "w", Kind: api.Weak, Frag: 4, At: 5},
			{Name: "c", Kind: api.Common, Size: 1, Align: 8},
		},
	}
}

func TestName(t *testing.T) {
	for _, s := range []string{"a", "z", "0", "9", "_", "a_1", "abcdefgh", "01234567"} {
		if !Name(s) {
			t.Errorf("%q is a name", s)
		}
	}
	wrong := []string{"", "abcdefghi", strings.Repeat("a", 1000), "A", "Z", "a b", "a-", "#1", "é", "a\n", "a\x00", "\xff", "`", "{", "/", ":", "^", "aé"}
	for _, s := range wrong {
		if Name(s) {
			t.Errorf("%q is no name", s)
		}
	}
}

func TestNameOfOneByte(t *testing.T) {
	for i := range 256 {
		s := string([]byte{byte(i)})
		want := strings.Contains("abcdefghijklmnopqrstuvwxyz0123456789_", s)
		if Name(s) != want {
			t.Errorf("%q: want %t", s, want)
		}
	}
}

func TestWide(t *testing.T) {
	for kind, want := range map[int]int{
		api.Abs1: 1, api.Rel1: 1, api.Abs2: 2, api.Rel2: 2,
		0: 0, 5: 0, -1: 0, math.MaxInt: 0, math.MinInt: 0,
	} {
		if got := Wide(kind); got != want {
			t.Errorf("%d: %d, want %d", kind, got, want)
		}
	}
}

func TestLong(t *testing.T) {
	for _, x := range []struct {
		f    api.Frag
		want int
	}{
		{api.Frag{}, 0},
		{api.Frag{Sect: api.Data, Bytes: []byte{1, 2, 3}}, 3},
		{api.Frag{Sect: api.Text, Bytes: []byte{1}, Size: 9}, 1},
		{api.Frag{Sect: 77, Bytes: []byte{1, 2}, Size: 9}, 2},
		{api.Frag{Sect: api.Zero, Size: 5}, 5},
		{api.Frag{Sect: api.Zero, Size: 5, Bytes: []byte{1}}, 5},
		{api.Frag{Sect: api.Zero, Size: -5}, -5},
	} {
		if got := Long(x.f); got != x.want {
			t.Errorf("%v: %d, want %d", x.f, got, x.want)
		}
	}
}

func TestSame(t *testing.T) {
	if !Same(sample(), sample()) || !Same(api.Part{}, api.Part{}) {
		t.Error("alike ones aren't the same")
	}
	empty := api.Part{Frags: []api.Frag{}, Defs: []api.Def{}}
	if !Same(api.Part{}, empty) || !Same(empty, api.Part{}) {
		t.Error("nil and empty lists aren't the same")
	}
	inner := api.Part{Frags: []api.Frag{{Bytes: []byte{}, Relocs: []api.Reloc{}}}}
	if !Same(inner, api.Part{Frags: []api.Frag{{}}}) {
		t.Error("nil and empty lists of a fragment aren't the same")
	}
	wrong := api.Part{Frags: make([]api.Frag, 500), Defs: []api.Def{{Name: "NO", Kind: -3}}}
	if !Same(wrong, wrong) {
		t.Error("a wrong part isn't the same as itself")
	}
}

func TestSameSeesEachField(t *testing.T) {
	for i, change := range []func(p *api.Part){
		func(p *api.Part) { p.Frags[0].Sect = 9 },
		func(p *api.Part) { p.Frags[0].Align = 8 },
		func(p *api.Part) { p.Frags[0].Group = "" },
		func(p *api.Part) { p.Frags[0].Bytes[5] = 9 },
		func(p *api.Part) { p.Frags[0].Bytes = p.Frags[0].Bytes[:5] },
		func(p *api.Part) { p.Frags[0].Bytes = append(p.Frags[0].Bytes, 0) },
		func(p *api.Part) { p.Frags[0].Size = 1 },
		func(p *api.Part) { p.Frags[0].Relocs[2].At = 3 },
		func(p *api.Part) { p.Frags[0].Relocs[2].Kind = api.Abs1 },
		func(p *api.Part) { p.Frags[0].Relocs[2].Name = "x" },
		func(p *api.Part) { p.Frags[0].Relocs[2].Frag = 3 },
		func(p *api.Part) { p.Frags[0].Relocs[2].Add = 0 },
		func(p *api.Part) { p.Frags[0].Relocs = p.Frags[0].Relocs[:2] },
		func(p *api.Part) { p.Frags = p.Frags[:4] },
		func(p *api.Part) { p.Frags = append(p.Frags, api.Frag{}) },
		func(p *api.Part) { p.Frags[1], p.Frags[2] = p.Frags[2], p.Frags[1] },
		func(p *api.Part) { p.Defs[0].Name = "g" },
		func(p *api.Part) { p.Defs[0].Kind = api.Weak },
		func(p *api.Part) { p.Defs[0].Frag = 1 },
		func(p *api.Part) { p.Defs[0].At = 0 },
		func(p *api.Part) { p.Defs[2].Size = 2 },
		func(p *api.Part) { p.Defs[2].Align = 4 },
		func(p *api.Part) { p.Defs = p.Defs[:2] },
		func(p *api.Part) { p.Defs = append(p.Defs, api.Def{}) },
		func(p *api.Part) { p.Defs[0], p.Defs[1] = p.Defs[1], p.Defs[0] },
	} {
		q := sample()
		change(&q)
		if Same(sample(), q) || Same(q, sample()) {
			t.Errorf("change %d isn't seen", i)
		}
		if !Same(q, q) {
			t.Errorf("change %d: it isn't the same as itself", i)
		}
	}
}

// change is a change of the sample, and what Check says of it then.
type change struct {
	what string
	do   func(p *api.Part)
	want api.Errno
}

func tryChanges(t *testing.T, l []change) {
	t.Helper()
	for _, x := range l {
		p := sample()
		x.do(&p)
		if got := Check(p); got != x.want {
			t.Errorf("%s: %d, want %d", x.what, got, x.want)
		}
	}
}

func TestCheckRight(t *testing.T) {
	tryChanges(t, []change{
		{"sample", func(p *api.Part) {}, api.OK},
		{"nothing", func(p *api.Part) { *p = api.Part{} }, api.OK},
		{"empty lists", func(p *api.Part) { *p = api.Part{Frags: []api.Frag{}, Defs: []api.Def{}} }, api.OK},
		{"empty lists of zero", func(p *api.Part) { p.Frags[4].Bytes, p.Frags[4].Relocs = []byte{}, []api.Reloc{} }, api.OK},
		{"most fragments", func(p *api.Part) { p.Frags = fragments(api.MaxFrags); p.Defs = nil }, api.OK},
		{"most definitions", func(p *api.Part) { p.Defs = commons(api.MaxDefs) }, api.OK},
		{"most bytes", func(p *api.Part) { p.Frags[3].Bytes = make([]byte, api.MaxBytes) }, api.OK},
		{"most noughts", func(p *api.Part) { p.Frags[4].Size = api.MaxBytes }, api.OK},
		{"most places", func(p *api.Part) { p.Frags[0] = places(api.MaxRelocs) }, api.OK},
		{"greatest common", func(p *api.Part) { p.Defs[2].Size = api.MaxBytes }, api.OK},
		{"zero of no noughts", func(p *api.Part) { p.Frags[4].Size, p.Defs[1].At = 0, 0 }, api.OK},
	})
}

// fragments makes n right fragments.
func fragments(n int) []api.Frag {
	l := make([]api.Frag, n)
	for i := range l {
		l[i] = api.Frag{Sect: api.Data, Align: 1}
	}
	return l
}

// commons makes n right definitions.
func commons(n int) []api.Def {
	l := make([]api.Def, n)
	for i := range l {
		l[i] = api.Def{Name: "c", Kind: api.Common, Size: 4, Align: 4}
	}
	return l
}

// places makes a fragment, six bytes long at least, of n places with nothing between.
func places(n int) api.Frag {
	f := api.Frag{Sect: api.Code, Align: 1, Bytes: make([]byte, max(n, 6))}
	for i := range n {
		f.Relocs = append(f.Relocs, api.Reloc{At: i, Kind: api.Abs1, Name: "x"})
	}
	return f
}

func TestCheckMany(t *testing.T) {
	tryChanges(t, []change{
		{"fragments", func(p *api.Part) { p.Frags = fragments(api.MaxFrags + 1) }, api.ErrMany},
		{"definitions", func(p *api.Part) { p.Defs = commons(api.MaxDefs + 1) }, api.ErrMany},
		{"definitions, ahead of a wrong fragment", func(p *api.Part) { p.Defs = commons(api.MaxDefs + 1); p.Frags[0].Sect = 0 }, api.ErrMany},
		{"bytes", func(p *api.Part) { p.Frags[3].Bytes = make([]byte, api.MaxBytes+1) }, api.ErrMany},
		{"places", func(p *api.Part) { p.Frags[0] = places(api.MaxRelocs + 1) }, api.ErrMany},
		{"bytes of zero", func(p *api.Part) { p.Frags[4].Bytes = make([]byte, api.MaxBytes+1) }, api.ErrMany},
	})
}

func TestCheckFragment(t *testing.T) {
	tryChanges(t, []change{
		{"section 0", func(p *api.Part) { p.Frags[0].Sect = 0 }, api.ErrRange},
		{"section 6", func(p *api.Part) { p.Frags[0].Sect = 6 }, api.ErrRange},
		{"section -1", func(p *api.Part) { p.Frags[0].Sect = -1 }, api.ErrRange},
		{"align 0", func(p *api.Part) { p.Frags[0].Align = 0 }, api.ErrRange},
		{"align 3", func(p *api.Part) { p.Frags[0].Align = 3 }, api.ErrRange},
		{"align 16", func(p *api.Part) { p.Frags[0].Align = 16 }, api.ErrRange},
		{"align -2", func(p *api.Part) { p.Frags[0].Align = -2 }, api.ErrRange},
		{"group", func(p *api.Part) { p.Frags[0].Group = "-" }, api.ErrText},
		{"long group", func(p *api.Part) { p.Frags[0].Group = "abcdefghi" }, api.ErrText},
		{"zero with bytes", func(p *api.Part) { p.Frags[4].Bytes = []byte{0} }, api.ErrForm},
		{"zero with places", func(p *api.Part) { p.Frags[4].Relocs = []api.Reloc{{Kind: api.Abs1}} }, api.ErrForm},
		{"zero below 0", func(p *api.Part) { p.Frags[4].Size = -1 }, api.ErrForm},
		{"zero too great", func(p *api.Part) { p.Frags[4].Size = api.MaxBytes + 1 }, api.ErrForm},
		{"size of code", func(p *api.Part) { p.Frags[0].Size = 6 }, api.ErrForm},
		{"size of text", func(p *api.Part) { p.Frags[2].Size = 1 }, api.ErrForm},
		{"size of data", func(p *api.Part) { p.Frags[3].Size = -1 }, api.ErrForm},
		{"text with places", func(p *api.Part) { p.Frags[2].Relocs = []api.Reloc{{Kind: api.Abs1}} }, api.ErrForm},
	})
}

func TestCheckPlace(t *testing.T) {
	at := func(i int, do func(r *api.Reloc)) func(p *api.Part) {
		return func(p *api.Part) { do(&p.Frags[0].Relocs[i]) }
	}
	tryChanges(t, []change{
		{"kind 0", at(0, func(r *api.Reloc) { r.Kind = 0 }), api.ErrRange},
		{"kind 5", at(2, func(r *api.Reloc) { r.Kind = 5 }), api.ErrRange},
		{"below 0", at(0, func(r *api.Reloc) { r.At = -1 }), api.ErrRange},
		{"far below 0", at(0, func(r *api.Reloc) { r.At = math.MinInt }), api.ErrRange},
		{"in the one ahead", at(1, func(r *api.Reloc) { r.At = 0 }), api.ErrRange},
		{"in the wide one ahead", at(2, func(r *api.Reloc) { r.At = 2 }), api.ErrRange},
		{"right behind the one ahead", at(2, func(r *api.Reloc) { r.At = 3 }), api.OK},
		{"half behind the bytes", at(2, func(r *api.Reloc) { r.At = 5 }), api.ErrRange},
		{"the last byte", at(2, func(r *api.Reloc) { r.At, r.Kind = 5, api.Rel1 }), api.OK},
		{"behind the bytes", at(2, func(r *api.Reloc) { r.At, r.Kind = 6, api.Rel1 }), api.ErrRange},
		{"far behind the bytes", at(2, func(r *api.Reloc) { r.At = math.MaxInt }), api.ErrRange},
		{"add below", at(0, func(r *api.Reloc) { r.Add = -api.MaxAdd - 1 }), api.ErrRange},
		{"add above", at(2, func(r *api.Reloc) { r.Add = api.MaxAdd + 1 }), api.ErrRange},
		{"fragment -2", at(1, func(r *api.Reloc) { r.Frag = -2 }), api.ErrWho},
		{"fragment 5 of 5", at(1, func(r *api.Reloc) { r.Frag = 5 }), api.ErrWho},
		{"no name", at(0, func(r *api.Reloc) { r.Name = "F" }), api.ErrText},
		{"a name, and fragment 1", at(0, func(r *api.Reloc) { r.Frag = 1 }), api.ErrText},
		{"a name, and fragment -1", at(0, func(r *api.Reloc) { r.Frag = -1 }), api.ErrText},
		{"a name, and fragment 99", at(0, func(r *api.Reloc) { r.Frag = 99 }), api.ErrText},
		{"no bytes", func(p *api.Part) { p.Frags[3].Relocs = []api.Reloc{{Kind: api.Rel1}} }, api.ErrRange},
		{"each fragment's places from 0 on", func(p *api.Part) { p.Frags[1].Relocs[0].At = 0 }, api.OK},
	})
}

func TestCheckDefinition(t *testing.T) {
	at := func(i int, do func(d *api.Def)) func(p *api.Part) {
		return func(p *api.Part) { do(&p.Defs[i]) }
	}
	tryChanges(t, []change{
		{"empty name", at(0, func(d *api.Def) { d.Name = "" }), api.ErrText},
		{"no name", at(2, func(d *api.Def) { d.Name = "c.c" }), api.ErrText},
		{"fragment -1", at(0, func(d *api.Def) { d.Frag = -1 }), api.ErrWho},
		{"fragment 5 of 5", at(1, func(d *api.Def) { d.Frag = 5 }), api.ErrWho},
		{"no fragments", func(p *api.Part) { p.Frags = nil }, api.ErrWho},
		{"at -1", at(0, func(d *api.Def) { d.At = -1 }), api.ErrRange},
		{"at behind the end", at(0, func(d *api.Def) { d.At = 7 }), api.ErrRange},
		{"at behind the end of zero", at(1, func(d *api.Def) { d.At = 6 }), api.ErrRange},
		{"size of strong", at(0, func(d *api.Def) { d.Size = 1 }), api.ErrRange},
		{"align of weak", at(1, func(d *api.Def) { d.Align = 1 }), api.ErrRange},
		{"fragment of common", at(2, func(d *api.Def) { d.Frag = 1 }), api.ErrRange},
		{"at of common", at(2, func(d *api.Def) { d.At = 1 }), api.ErrRange},
		{"size 0 of common", at(2, func(d *api.Def) { d.Size = 0 }), api.ErrRange},
		{"size of common too great", at(2, func(d *api.Def) { d.Size = api.MaxBytes + 1 }), api.ErrRange},
		{"align 0 of common", at(2, func(d *api.Def) { d.Align = 0 }), api.ErrRange},
		{"kind 0", at(0, func(d *api.Def) { d.Kind = 0 }), api.ErrForm},
		{"kind 4", at(2, func(d *api.Def) { d.Kind = 4 }), api.ErrForm},
	})
}

func TestCheckTellsTheFirst(t *testing.T) {
	tryChanges(t, []change{
		{"range ahead of group", func(p *api.Part) { p.Frags[0].Align, p.Frags[0].Group = 3, "G" }, api.ErrRange},
		{"group ahead of bytes", func(p *api.Part) { p.Frags[0].Group, p.Frags[0].Bytes = "G", make([]byte, 65) }, api.ErrText},
		{"bytes ahead of size", func(p *api.Part) { p.Frags[0].Bytes, p.Frags[0].Size = make([]byte, 65), 1 }, api.ErrMany},
		{"size ahead of places", func(p *api.Part) { p.Frags[0].Size, p.Frags[0].Relocs[0].Kind = 1, 0 }, api.ErrForm},
		{"add ahead of fragment", func(p *api.Part) { p.Frags[0].Relocs[1].Add, p.Frags[0].Relocs[1].Frag = 10001, 9 }, api.ErrRange},
		{"first place ahead of second", func(p *api.Part) { p.Frags[0].Relocs[0].Name, p.Frags[0].Relocs[1].Kind = "F", 0 }, api.ErrText},
		{"places of a fragment ahead of the next one", func(p *api.Part) { p.Frags[0].Relocs[1].Frag, p.Frags[1].Sect = 9, 0 }, api.ErrWho},
		{"fragments ahead of definitions", func(p *api.Part) { p.Frags[4].Size, p.Defs[0].Name = -1, "" }, api.ErrForm},
		{"name ahead of kind", func(p *api.Part) { p.Defs[0].Name, p.Defs[0].Kind = "", 9 }, api.ErrText},
		{"fragment ahead of at", func(p *api.Part) { p.Defs[0].Frag, p.Defs[0].At = 9, -1 }, api.ErrWho},
		{"first definition ahead of second", func(p *api.Part) { p.Defs[0].Kind, p.Defs[1].Name = 9, "" }, api.ErrForm},
	})
}

func TestHandedInIsOnlyRead(t *testing.T) {
	p := sample()
	p.Frags = append(make([]api.Frag, 0, 20), p.Frags...)
	p.Frags[0].Bytes = append(make([]byte, 0, 90), p.Frags[0].Bytes...)
	p.Defs = append(make([]api.Def, 0, 20), p.Defs...)
	Check(p)
	Same(p, p)
	Long(p.Frags[0])
	if !reflect.DeepEqual(p, sample()) {
		t.Error("the part was changed")
	}
	if !reflect.DeepEqual(p.Frags[5:20], make([]api.Frag, 15)) || !reflect.DeepEqual(p.Defs[3:20], make([]api.Def, 17)) {
		t.Error("the room behind a list was changed")
	}
	if !reflect.DeepEqual(p.Frags[0].Bytes[6:90], make([]byte, 84)) {
		t.Error("the room behind bytes was changed")
	}
}

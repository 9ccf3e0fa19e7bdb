package script

import (
	"bytes"
	"math"
	"math/rand"
	"reflect"
	"strconv"
	"strings"
	"testing"

	"ropewalk/api"
	"ropewalk/obj"
)

// sample is a part with each kind of line; each call makes a new one.
func sample() api.Part {
	return api.Part{
		Frags: []api.Frag{
			{Sect: api.Code, Align: 4, Group: "g", Bytes: []byte{0, 0x19, 0xa2, 0xff, 0x0f, 0xf0}, Relocs: []api.Reloc{
				{At: 0, Kind: api.Abs1, Name: "f", Add: -api.MaxAdd},
				{At: 1, Kind: api.Rel2, Frag: -1},
				{At: 4, Kind: api.Abs2, Frag: 4, Add: api.MaxAdd},
			}},
			{Sect: api.Fixed, Align: 1, Bytes: []byte{7}, Relocs: []api.Reloc{{Kind: api.Rel1}}},
			{Sect: api.Text, Align: 2, Bytes: []byte("text")},
			{Sect: api.Data, Align: 8},
			{Sect: api.Zero, Align: 8, Group: "_9", Size: 5},
			{Sect: api.Zero, Align: 1},
		},
		Defs: []api.Def{
			{Name: "f", Kind: api.Strong, Frag: 0, At: 6},
			{Name: "w", Kind: api.Weak, Frag: 4, At: 5},
			{Name: "c", Kind: api.Common, Size: 64, Align: 8},
		},
	}
}

const sampleText = `frag code 4 g 0019a2ff0ff0
at 0 abs1 f -10000
at 1 rel2 #-1 0
at 4 abs2 #4 10000
frag fixed 1 - 07
at 0 rel1 #0 0
frag text 2 - 74657874
frag data 8 - -
frag zero 8 _9 5
frag zero 1 - 0
def f strong 0 6
def w weak 4 5
def c common 64 8
`

func TestPrint(t *testing.T) {
	s, e := Print(sample())
	if s != sampleText || e != api.OK {
		t.Errorf("%q, %d", s, e)
	}
}

func TestPrintNothing(t *testing.T) {
	for _, p := range []api.Part{{}, {Frags: []api.Frag{}, Defs: []api.Def{}}} {
		if s, e := Print(p); s != "" || e != api.OK {
			t.Errorf("%q, %d", s, e)
		}
	}
}

func TestPrintWrong(t *testing.T) {
	for want, change := range map[api.Errno]func(*api.Part){
		api.ErrMany:  func(p *api.Part) { p.Frags = make([]api.Frag, api.MaxFrags+1) },
		api.ErrRange: func(p *api.Part) { p.Frags[0].Sect = 6 },
		api.ErrText:  func(p *api.Part) { p.Frags[0].Group = "-" },
		api.ErrForm:  func(p *api.Part) { p.Defs[2].Kind = 4 },
		api.ErrWho:   func(p *api.Part) { p.Defs[0].Frag = 6 },
	} {
		p := sample()
		change(&p)
		if s, e := Print(p); s != "" || e != want {
			t.Errorf("%q, %d, want %d", s, e, want)
		}
	}
}

func TestPrintOnlyReads(t *testing.T) {
	p := sample()
	for i, f := range p.Frags {
		p.Frags[i].Bytes = append(bytes.Clone(f.Bytes), 1, 2)[:len(f.Bytes)]
	}
	Print(p)
	if !obj.Same(p, sample()) {
		t.Error("the part was changed")
	}
	for _, f := range p.Frags {
		if spare := f.Bytes[:len(f.Bytes)+2][len(f.Bytes):]; spare[0] != 1 || spare[1] != 2 {
			t.Error("the spare room was changed")
		}
	}
}

func TestParse(t *testing.T) {
	p, at, e := Parse(sampleText)
	if at != 0 || e != api.OK || !obj.Same(p, sample()) {
		t.Errorf("%v, %d, %d", p, at, e)
	}
}

func TestParseNothing(t *testing.T) {
	p, at, e := Parse("")
	if at != 0 || e != api.OK || !obj.Same(p, api.Part{}) {
		t.Errorf("%v, %d, %d", p, at, e)
	}
}

func TestParseEachByte(t *testing.T) {
	for i := range 256 {
		s, e := Print(api.Part{Frags: []api.Frag{{Sect: api.Data, Align: 1, Bytes: []byte{byte(i)}}}})
		hex := strconv.FormatInt(int64(i)+256, 16)[1:]
		if s != "frag data 1 - "+hex+"\n" || e != api.OK {
			t.Errorf("%q, %d", s, e)
		}
		p, _, e := Parse(s)
		if e != api.OK || len(p.Frags) != 1 || !bytes.Equal(p.Frags[0].Bytes, []byte{byte(i)}) {
			t.Errorf("%v, %d", p, e)
		}
	}
}

// wrong asks Parse for an error, and for nothing beside it.
func wrong(t *testing.T, s string, wantAt int, want api.Errno) {
	t.Helper()
	p, at, e := Parse(s)
	if at != wantAt || e != want {
		t.Errorf("%.60q: at %d: %d; want at %d: %d", s, at, e, wantAt, want)
	}
	if !reflect.DeepEqual(p, api.Part{}) {
		t.Errorf("%.60q: an error, and a part", s)
	}
}

// A line in the middle of a text that is right but for it.
func TestParseWrongLine(t *testing.T) {
	for _, l := range []string{
		"",
		" ",
		"    ",
		"frag",
		"frag code 1 -",
		"frag code 1 - 00 ",
		" frag code 1 - 00",
		"frag  code 1 - 00",
		"frag code 1 - 00 00",
		"frag code 1  00",
		"frag code 1 - ",
		"frag\tcode 1 - 00",
		"frag code 1 - 00\r",
		"Frag code 1 - 00",
		"frags code 1 - 00",
		"- code 1 - 00",
		"frag Code 1 - 00",
		"frag strong 1 - 00",
		"frag abs1 1 - 00",
		"frag 1 1 - 00",
		"frag - 1 - 00",
		"frag code 01 - 00",
		"frag code +1 - 00",
		"frag code -0 - 00",
		"frag code 1_0 - 00",
		"frag code 0x1 - 00",
		"frag code - - 00",
		"frag code x - 00",
		"frag code 9223372036854775808 - 00",
		"frag code 1 - 0",
		"frag code 1 - 000",
		"frag code 1 - 0A",
		"frag code 1 - A0",
		"frag code 1 - 0g",
		"frag code 1 - g0",
		"frag code 1 - --",
		"frag code 1 - -0",
		"frag text 1 - é",
		"frag zero 1 - -",
		"frag zero 1 - 00",
		"frag zero 1 - 0a",
		"at 00 abs1 f 0",
		"at x abs1 f 0",
		"at 0 abs3 f 0",
		"at 0 abs f 0",
		"at 0 code f 0",
		"at 0 weak f 0",
		"at 0 1 f 0",
		"at 0 abs1 # 0",
		"at 0 abs1 #x 0",
		"at 0 abs1 ## 0",
		"at 0 abs1 ##0 0",
		"at 0 abs1 #00 0",
		"at 0 abs1 #-0 0",
		"at 0 abs1 #+1 0",
		"at 0 abs1 f +0",
		"at 0 abs1 f -",
		"at 0 abs1  0",
		"at 0 abs1 f",
		"at 0 abs1 f 0 0",
		"place 0 abs1 f 0",
	} {
		wrong(t, "frag code 1 - 00\n"+l+"\nfrag code 1 - 00\ndef f strong 0 0\n", 1, api.ErrText)
	}
	for _, l := range []string{
		"",
		"def  strong 0 0",
		"def f Strong 0 0",
		"def f rel1 0 0",
		"def f zero 0 0",
		"def f 1 0 0",
		"def f strong 00 0",
		"def f strong 0 00",
		"def f strong - 0",
		"def f weak 0 -",
		"def f weak #0 0",
		"def f common 1 01",
		"def f common 1",
		"def f common 1 1 1",
		"at 0 abs1 f 0",
		"frag code 1 - 00",
	} {
		wrong(t, "frag code 1 - 00\ndef g strong 0 0\n"+l+"\ndef h weak 0 0\n", 2, api.ErrText)
	}
}

func TestParseWrongPlaces(t *testing.T) {
	wrong(t, "at 0 abs1 f 0\n", 0, api.ErrText)
	wrong(t, "at 0 abs1 f 0\nfrag code 1 - 00\n", 0, api.ErrText)
	wrong(t, "def f common 1 1\nat 0 abs1 f 0\n", 1, api.ErrText)
	wrong(t, "def f common 1 1\nfrag code 1 - 00\n", 1, api.ErrText)
}

func TestParseLastLine(t *testing.T) {
	wrong(t, "x", 0, api.ErrText)
	wrong(t, "frag code 1 - 00", 0, api.ErrText)
	wrong(t, "frag code 1 - 00\nfrag code 1 - 00", 1, api.ErrText)
	wrong(t, "\n", 0, api.ErrText)
	wrong(t, sampleText+"\n", 13, api.ErrText)
	wrong(t, strings.TrimSuffix(sampleText, "\n"), 12, api.ErrText)
}

func TestParseFirstWrongLine(t *testing.T) {
	wrong(t, "frag code 1 - 00\nfrag code 1 - 0\nfrag code x - 00\nfrag", 1, api.ErrText)
	// What a line says comes ahead of what the part is.
	wrong(t, "frag code 3 - 00\ndef f strong 5 0\nx\n", 2, api.ErrText)
}

// Lines that are written so, of parts that may not be.
func TestParseThenCheck(t *testing.T) {
	many := func(n int, l string) string { return strings.Repeat(l, n) }
	for _, c := range []struct {
		s    string
		want api.Errno
	}{
		{many(api.MaxFrags+1, "frag code 1 - 00\n"), api.ErrMany},
		{many(api.MaxDefs+1, "def c common 1 1\n"), api.ErrMany},
		{"frag code 1 - " + many(api.MaxBytes+1, "00") + "\n", api.ErrMany},
		{"frag code 1 - " + many(9, "00") + "\n" + "at 0 abs1 f 0\n" + many(8, "at 0 abs1 f 0\n"), api.ErrMany},
		{"frag code 3 - 00\n", api.ErrRange},
		{"frag code -1 - 00\n", api.ErrRange},
		{"frag code " + strconv.Itoa(math.MaxInt) + " - 00\n", api.ErrRange},
		{"frag code " + strconv.Itoa(math.MinInt) + " - 00\n", api.ErrRange},
		{"frag code 1 G 00\n", api.ErrText},
		{"frag code 1 -- 00\n", api.ErrText},
		{"frag code 1 # 00\n", api.ErrText},
		{"frag code 1 a\tb\r\xff 00\n", api.ErrText},
		{"frag zero 1 - 65\n", api.ErrForm},
		{"frag zero 1 - -1\n", api.ErrForm},
		{"frag zero 1 - 5\nat 0 abs1 f 0\n", api.ErrForm},
		{"frag text 1 - 00\nat 0 abs1 f 0\n", api.ErrForm},
		{"frag code 1 - 00\nat 1 abs1 f 0\n", api.ErrRange},
		{"frag code 1 - 00\nat -1 abs1 f 0\n", api.ErrRange},
		{"frag code 1 - 00\nat 0 abs2 f 0\n", api.ErrRange},
		{"frag code 1 - 00\nat 0 abs1 f 10001\n", api.ErrRange},
		{"frag code 1 - 00\nat 0 abs1 #1 0\n", api.ErrWho},
		{"frag code 1 - 00\nat 0 abs1 #-2 0\n", api.ErrWho},
		{"frag code 1 - 00\nat 0 abs1 - 0\n", api.ErrText},
		{"frag code 1 - 00\nat 0 abs1 f# 0\n", api.ErrText},
		{"frag code 1 - 00\nat 0 abs1 " + many(9, "f") + " 0\n", api.ErrText},
		{"frag code 1 - 00\ndef #0 strong 0 0\n", api.ErrText},
		{"frag code 1 - 00\ndef - weak 0 0\n", api.ErrText},
		{"frag code 1 - 00\ndef f strong 1 0\n", api.ErrWho},
		{"frag code 1 - 00\ndef f weak -1 0\n", api.ErrWho},
		{"frag code 1 - 00\ndef f weak 0 2\n", api.ErrRange},
		{"def f common 0 1\n", api.ErrRange},
		{"def f common 1 3\n", api.ErrRange},
	} {
		wrong(t, c.s, 0, c.want)
	}
}

// sized is a text of n bytes whose one line is right but for the name in it.
func sized(n int) string {
	const ahead, behind = "def ", " common 1 1\n"
	return ahead + strings.Repeat("x", n-len(ahead)-len(behind)) + behind
}

func TestParseLong(t *testing.T) {
	wrong(t, sized(api.MaxText), 0, api.ErrText)
	wrong(t, sized(api.MaxText)[1:], 0, api.ErrText)
	wrong(t, sized(api.MaxText+1), 0, api.ErrMany)
	// Too long comes ahead of what the lines say.
	wrong(t, sampleText+strings.Repeat("x", api.MaxText), 0, api.ErrMany)
	wrong(t, strings.Repeat("\n", api.MaxText+1), 0, api.ErrMany)
	wrong(t, strings.Repeat("\n", api.MaxText), 0, api.ErrText)
}

// full is a part with as much as may be; its text is longer than Parse takes.
func full() api.Part {
	var p api.Part
	for range api.MaxFrags {
		f := api.Frag{Sect: api.Fixed, Align: 8, Group: "aaaaaaaa", Bytes: make([]byte, api.MaxBytes)}
		for i := range api.MaxRelocs {
			f.Relocs = append(f.Relocs, api.Reloc{At: 8 * i, Kind: api.Abs2, Name: "bbbbbbbb", Add: -api.MaxAdd})
		}
		p.Frags = append(p.Frags, f)
	}
	for range api.MaxDefs {
		p.Defs = append(p.Defs, api.Def{Name: "cccccccc", Kind: api.Strong, Frag: api.MaxFrags - 1, At: api.MaxBytes})
	}
	return p
}

func TestTooLongToComeBack(t *testing.T) {
	s, e := Print(full())
	if e != api.OK || len(s) <= api.MaxText || strings.Count(s, "\n") != api.MaxFrags*(1+api.MaxRelocs)+api.MaxDefs {
		t.Fatalf("%d bytes, %d", len(s), e)
	}
	wrong(t, s, 0, api.ErrMany)
}

// some makes a part of what a source of numbers says.
func some(r *rand.Rand) api.Part {
	var p api.Part
	words := []string{"a", "f", "g", "_0", "zzzzzzzz", "strong"}
	aligns := []int{1, 2, 4, 8}
	frags := r.Intn(6)
	for range frags {
		f := api.Frag{Sect: 1 + r.Intn(5), Align: aligns[r.Intn(4)]}
		if r.Intn(2) == 0 {
			f.Group = words[r.Intn(len(words))]
		}
		if f.Sect == api.Zero {
			f.Size = r.Intn(api.MaxBytes + 1)
		} else {
			f.Bytes = make([]byte, r.Intn(api.MaxBytes+1))
			r.Read(f.Bytes)
		}
		if f.Sect != api.Zero && f.Sect != api.Text {
			for at := 0; at+2 <= len(f.Bytes) && len(f.Relocs) < api.MaxRelocs; at += 2 + r.Intn(9) {
				x := api.Reloc{At: at, Kind: 1 + r.Intn(4), Add: r.Intn(2*api.MaxAdd+1) - api.MaxAdd}
				if r.Intn(2) == 0 {
					x.Name = words[r.Intn(len(words))]
				} else {
					x.Frag = r.Intn(frags+1) - 1
				}
				f.Relocs = append(f.Relocs, x)
			}
		}
		p.Frags = append(p.Frags, f)
	}
	for range r.Intn(6) {
		d := api.Def{Name: words[r.Intn(len(words))], Kind: api.Common, Size: 1 + r.Intn(api.MaxBytes), Align: aligns[r.Intn(4)]}
		if frags > 0 && r.Intn(3) > 0 {
			d.Kind, d.Size, d.Align = 1+r.Intn(2), 0, 0
			d.Frag = r.Intn(frags)
			d.At = r.Intn(obj.Long(p.Frags[d.Frag]) + 1)
		}
		p.Defs = append(p.Defs, d)
	}
	return p
}

func TestParseOfPrint(t *testing.T) {
	r := rand.New(rand.NewSource(2))
	for range 2000 {
		p := some(r)
		s, e := Print(p)
		if e != api.OK {
			t.Fatalf("%v: %d", p, e)
		}
		q, at, e := Parse(s)
		if at != 0 || e != api.OK || !obj.Same(p, q) {
			t.Fatalf("%q: %v, %d, %d", s, q, at, e)
		}
	}
}

// Texts that were changed by a byte are refused, or come back as they are: there is one way to write a part.
func TestPrintOfParse(t *testing.T) {
	r := rand.New(rand.NewSource(3))
	const bytesToTake = "0123456789abcdef #-+\n_zrstong\xff"
	for range 20000 {
		b := []byte(sampleText)
		for range 1 + r.Intn(2) {
			b[r.Intn(len(b))] = bytesToTake[r.Intn(len(bytesToTake))]
		}
		p, at, e := Parse(string(b))
		if e != api.OK {
			if e != api.ErrText && at != 0 || !reflect.DeepEqual(p, api.Part{}) {
				t.Fatalf("%q: at %d: %d", b, at, e)
			}
			continue
		}
		if s, e := Print(p); s != string(b) || e != api.OK {
			t.Fatalf("%q: %q, %d", b, s, e)
		}
	}
}

// No list of an answer shares room with another: growing one leaves all others as they are.
func TestParseNewMemory(t *testing.T) {
	p, _, _ := Parse(sampleText)
	for _, f := range p.Frags {
		_ = append(f.Bytes, 0xee)
		_ = append(f.Relocs, api.Reloc{At: 77})
	}
	if !obj.Same(p, sample()) {
		t.Error("lists share room")
	}
}

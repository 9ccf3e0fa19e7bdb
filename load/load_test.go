package load

import (
	"bytes"
	"math"
	"math/rand"
	"reflect"
	"slices"
	"strconv"
	"strings"
	"testing"

	"ropewalk/api"
	"ropewalk/layout"
	"ropewalk/link"
	"ropewalk/obj"
	"ropewalk/part"
)

// seg is a segment with these bytes, and noughts behind them.
func seg(at int, s string, zeros int) api.Segment {
	return api.Segment{At: at, Bytes: []byte(s), Zeros: zeros}
}

func written(s api.Segment) api.Segment {
	s.Writes = true
	return s
}

func working(s api.Segment) api.Segment {
	s.Works = true
	return s
}

func image(entry int, l ...api.Segment) api.Image {
	return api.Image{Entry: entry, Segments: l}
}

// seen is what Byte tells of an address.
type seen struct {
	b                    byte
	there, writes, works bool
}

func wantByte(t *testing.T, what string, m api.Image, at int, want seen) {
	t.Helper()
	var got seen
	var e api.Errno
	got.b, got.there, got.writes, got.works, e = Byte(m, at)
	if e != api.OK || got != want {
		t.Errorf("%s: at %d: %v, %d, want %v", what, at, got, e, want)
	}
}

func wantRange(t *testing.T, what string, m api.Image, at int, want string) {
	t.Helper()
	if got, e := Range(m, at, len(want)); e != api.OK || string(got) != want {
		t.Errorf("%s: from %d on: %q, %d, want %q", what, at, got, e, want)
	}
}

// wantRangeError looks whether Range has this against what it is given, with no list in its answer.
func wantRangeError(t *testing.T, what string, m api.Image, at, n int, want api.Errno) {
	t.Helper()
	if got, e := Range(m, at, n); got != nil || e != want {
		t.Errorf("%s: %d from %d on: %v, %d, want %d", what, n, at, got, e, want)
	}
}

// wantError looks whether all calls have this against an image, whatever address they are asked for.
func wantError(t *testing.T, what string, m api.Image, want api.Errno) {
	t.Helper()
	if e := Check(m); e != want {
		t.Errorf("%s: check: %d, want %d", what, e, want)
	}
	for _, at := range []int{0, 5, -1, api.MaxSpace, api.MaxSpace + 1, math.MaxInt, math.MinInt} {
		if b, there, writes, works, e := Byte(m, at); b != 0 || there || writes || works || e != want {
			t.Errorf("%s: byte at %d: %d, %v, %v, %v, %d, want %d", what, at, b, there, writes, works, e, want)
		}
		for _, n := range []int{0, 1, -1, api.MaxBytes + 1} {
			wantRangeError(t, what, m, at, n, want)
		}
	}
}

func long(n int) string { return strings.Repeat("a", n) }

func TestCheck(t *testing.T) {
	const top = api.MaxSpace
	many := make([]api.Segment, api.MaxItems)
	for what, m := range map[string]api.Image{
		"nothing":                    {},
		"an empty list":              {Segments: []api.Segment{}},
		"an entry at the end":        image(top),
		"an entry where nothing is":  image(99, seg(4, "abc", 1)),
		"as many as may be":          image(0, many...),
		"one":                        image(0, seg(4, "abc", 1)),
		"a gap":                      image(0, seg(4, "abc", 1), seg(9, "d", 0)),
		"no gap":                     image(0, seg(4, "abc", 1), seg(8, "d", 0), seg(9, "", 1), seg(10, "e", 0)),
		"nothing in one":             image(0, seg(4, "a", 0), seg(5, "", 0), seg(5, "", 0), seg(5, "b", 0)),
		"nothing at the end":         image(0, seg(top, "", 0), seg(top, "", 0)),
		"bytes up to the end":        image(0, seg(top-2, "ab", 0)),
		"noughts up to the end":      image(0, seg(top-2, "a", 1)),
		"all of the space, bytes":    image(0, seg(0, long(top), 0), seg(top, "", 0)),
		"all of the space, noughts":  image(0, seg(0, "", top)),
		"all of the space, in parts": image(0, seg(0, long(top/2), 0), seg(top/2, "", top/2)),
		"all flags":                  image(0, written(working(seg(0, "a", 0))), working(seg(1, "a", 0)), written(seg(2, "a", 0))),
	} {
		if e := Check(m); e != api.OK {
			t.Errorf("%s: %d", what, e)
		}
	}
}

// TestCheckWrong: one thing that is wrong, at the edge.
func TestCheckWrong(t *testing.T) {
	const top = api.MaxSpace
	for _, x := range []struct {
		what string
		m    api.Image
		want api.Errno
	}{
		{"too many", image(0, make([]api.Segment, api.MaxItems+1)...), api.ErrMany},
		{"below 0", image(0, seg(-1, "ab", 0)), api.ErrRange},
		{"far below 0", image(0, seg(math.MinInt, "", 0)), api.ErrRange},
		{"above the space", image(0, seg(top+1, "", 0)), api.ErrRange},
		{"far above the space", image(0, seg(math.MaxInt, "", 0)), api.ErrRange},
		{"they meet, in bytes", image(0, seg(4, "abc", 0), seg(6, "d", 0)), api.ErrRange},
		{"they meet, in noughts", image(0, seg(4, "abc", 1), seg(7, "d", 0)), api.ErrRange},
		{"one with nothing in it, within another", image(0, seg(4, "abc", 1), seg(7, "", 0)), api.ErrRange},
		{"one with nothing in it, ahead of the one ahead", image(0, seg(4, "", 0), seg(3, "", 0)), api.ErrRange},
		{"not behind the one ahead", image(0, seg(4, "a", 0), seg(0, "a", 0)), api.ErrRange},
		{"the first one doesn't count any more", image(0, seg(4, "a", 0), seg(9, "a", 0), seg(6, "a", 0)), api.ErrRange},
		{"noughts below 0", image(0, seg(4, "abc", -1)), api.ErrRange},
		{"noughts far below 0", image(0, seg(4, "abc", math.MinInt)), api.ErrRange},
		{"too many noughts", image(0, seg(0, "", top+1)), api.ErrRange},
		{"far too many noughts", image(0, seg(4, "abc", math.MaxInt)), api.ErrRange},
		{"too many bytes", image(0, seg(0, long(top+1), 0)), api.ErrRange},
		{"too far, bytes", image(0, seg(top, "a", 0)), api.ErrFull},
		{"too far, noughts", image(0, seg(top, "", 1)), api.ErrFull},
		{"too far, both", image(0, seg(top-1, "a", 1)), api.ErrFull},
		{"too far, as far as may be", image(0, seg(top, long(top), top)), api.ErrFull},
		{"an entry below 0", image(-1), api.ErrRange},
		{"an entry far below 0", image(math.MinInt, seg(4, "abc", 1)), api.ErrRange},
		{"an entry above the space", image(top+1, seg(4, "abc", 1)), api.ErrRange},
		{"an entry far above the space", image(math.MaxInt), api.ErrRange},
	} {
		wantError(t, x.what, x.m, x.want)
	}
}

// TestCheckOrder: of several things that are wrong, the one that is told first is the answer.
func TestCheckOrder(t *testing.T) {
	const top = api.MaxSpace
	bad, far := seg(-1, "", 0), seg(top, "a", 0)
	many := slices.Repeat([]api.Segment{bad}, api.MaxItems+1)
	wantError(t, "too many, ahead of what they are", image(-1, many...), api.ErrMany)
	wantError(t, "too many, ahead of where they end", image(0, append([]api.Segment{far}, many...)...), api.ErrMany)
	wantError(t, "the first one's range", image(0, bad, far), api.ErrRange)
	wantError(t, "the first one's end", image(0, far, bad), api.ErrFull)
	wantError(t, "a later one's end", image(-1, seg(4, "abc", 1), seg(8, "", top), bad), api.ErrFull)
	wantError(t, "an end, ahead of the entry", image(-1, far), api.ErrFull)
	// What ends too far has a number that may not be, too.
	wantError(t, "noughts, ahead of the end", image(0, seg(top, "a", -1)), api.ErrRange)
	wantError(t, "too many bytes, ahead of the end", image(0, seg(top, long(top+1), 0)), api.ErrRange)
	wantError(t, "meeting, ahead of the end", image(0, seg(4, "abc", 1), seg(7, "", top)), api.ErrRange)
}

func TestByte(t *testing.T) {
	m := image(0, written(seg(4, "abc", 2)), working(seg(9, "d", 0)), seg(12, "", 1), seg(13, "", 0), written(working(seg(13, "e", 0))))
	want := map[int]seen{
		4: {'a', true, true, false}, 5: {'b', true, true, false}, 6: {'c', true, true, false},
		7: {0, true, true, false}, 8: {0, true, true, false},
		9: {'d', true, false, true}, 12: {0, true, false, false}, 13: {'e', true, true, true},
	}
	for at := -2; at < 20; at++ {
		wantByte(t, "some", m, at, want[at])
	}
	for _, at := range []int{api.MaxSpace - 1, api.MaxSpace, api.MaxSpace + 1, math.MaxInt, math.MinInt} {
		wantByte(t, "far off", m, at, seen{})
		wantByte(t, "of nothing", api.Image{}, at, seen{})
	}
	full := image(0, working(seg(0, long(api.MaxSpace-1)+"z", 0)))
	wantByte(t, "the first one", full, 0, seen{'a', true, false, true})
	wantByte(t, "the last one", full, api.MaxSpace-1, seen{'z', true, false, true})
	wantByte(t, "behind it", full, api.MaxSpace, seen{})
	noughts := image(0, written(seg(0, "", api.MaxSpace)))
	wantByte(t, "the last nought", noughts, api.MaxSpace-1, seen{0, true, true, false})
	wantByte(t, "behind it", noughts, api.MaxSpace, seen{})
}

func TestRange(t *testing.T) {
	m := image(0, written(seg(4, "abc", 2)), working(seg(9, "d", 0)), seg(10, "", 0), seg(12, "e", 0))
	wantRange(t, "bytes", m, 4, "abc")
	wantRange(t, "bytes and noughts", m, 5, "bc\x00\x00")
	wantRange(t, "two segments", m, 4, "abc\x00\x00d")
	wantRange(t, "one byte", m, 12, "e")
	for _, at := range []int{0, 3, 4, 10, 11, 13, api.MaxSpace} {
		wantRange(t, "none, wherever", m, at, "")
		wantRange(t, "none of nothing", api.Image{}, at, "")
	}
	full := image(0, seg(0, long(api.MaxSpace-1)+"z", 0))
	wantRange(t, "as many as may be", full, 0, long(api.MaxBytes))
	wantRange(t, "up to the end", full, api.MaxSpace-api.MaxBytes, long(api.MaxBytes-1)+"z")
	wantRangeError(t, "behind the end", full, api.MaxSpace-api.MaxBytes+1, api.MaxBytes, api.ErrWho)
	wantRangeError(t, "at the end", full, api.MaxSpace, 1, api.ErrWho)
	for _, x := range [][2]int{{4, 7}, {3, 1}, {3, 2}, {10, 1}, {10, 3}, {11, 2}, {12, 2}, {13, 1}, {0, api.MaxBytes}} {
		wantRangeError(t, "one isn't there", m, x[0], x[1], api.ErrWho)
	}
	for _, at := range []int{-1, api.MaxSpace + 1, math.MaxInt, math.MinInt} {
		for _, n := range []int{0, 1, api.MaxBytes, api.MaxBytes + 1} {
			wantRangeError(t, "no address", m, at, n, api.ErrRange)
		}
	}
	for _, n := range []int{-1, api.MaxBytes + 1, math.MaxInt, math.MinInt} {
		for _, at := range []int{0, 4, 5, api.MaxSpace} {
			wantRangeError(t, "no number", m, at, n, api.ErrRange)
			wantRangeError(t, "no number, all there", full, at, n, api.ErrRange)
		}
	}
}

// someSegments is a list by chance, of which most can be loaded.
func someSegments(r *rand.Rand) []api.Segment {
	var l []api.Segment
	end := 0
	for range r.Intn(6) {
		s := seg(end+r.Intn(4), strings.Repeat("abcdef", 2)[r.Intn(6):][:r.Intn(5)], r.Intn(4)*r.Intn(2))
		s.Writes, s.Works = r.Intn(2) == 0, r.Intn(2) == 0
		if r.Intn(30) == 0 {
			s.At -= 3
		}
		end = s.At + len(s.Bytes) + s.Zeros
		l = append(l, s)
	}
	return l
}

// slow tells what stands at each address as the document's words go, and whether two segments meet.
func slow(m api.Image) (all map[int]seen, meet bool) {
	all = map[int]seen{}
	farthest := 0
	for _, s := range m.Segments {
		meet = meet || s.At < farthest
		farthest = s.At
		for _, b := range append(slices.Clone(s.Bytes), make([]byte, s.Zeros)...) {
			all[farthest] = seen{b, true, s.Writes, s.Works}
			farthest++
		}
	}
	return all, meet
}

// TestSlow: what is told of images by chance is what the document's words tell.
func TestSlow(t *testing.T) {
	r := rand.New(rand.NewSource(9))
	fine, wrong, lacking, whole := 0, 0, 0, 0
	for range 3000 {
		m := image(r.Intn(9), someSegments(r)...)
		all, meet := slow(m)
		if meet {
			wrong++
			wantError(t, "by chance", m, api.ErrRange)
			continue
		}
		fine++
		for at := -2; at < 60; at++ {
			wantByte(t, "by chance", m, at, all[at])
		}
		for range 40 {
			at, n := r.Intn(40), r.Intn(8)
			var want []byte
			for i := range n {
				if x := all[at+i]; x.there {
					want = append(want, x.b)
				}
			}
			if len(want) < n {
				lacking++
				wantRangeError(t, "by chance", m, at, n, api.ErrWho)
				continue
			}
			whole++
			wantRange(t, "by chance", m, at, string(want))
		}
	}
	if fine < 1000 || wrong < 100 || lacking < 1000 || whole < 1000 {
		t.Errorf("the images show too little: %d fine, %d wrong, %d ranges that lack, %d that are whole", fine, wrong, lacking, whole)
	}
}

// somePart is a part by chance that has most of what it needs to be linked.
func somePart(r *rand.Rand) api.Part {
	p := api.Part{Defs: []api.Def{{Name: "main", Kind: api.Common, Size: 1, Align: 1}}}
	n := 1 + r.Intn(8)
	for range n {
		f := api.Frag{Sect: api.Code + r.Intn(5), Align: 1 << r.Intn(4)}
		if r.Intn(4) == 0 {
			f.Group = "g" + strconv.Itoa(r.Intn(3))
		}
		if f.Sect == api.Zero {
			f.Size = r.Intn(12)
		} else {
			f.Bytes = []byte(strings.Repeat("xyz", 5)[:r.Intn(12)])
		}
		if f.Sect != api.Text && f.Sect != api.Zero {
			f.Relocs = somePlaces(r, n, len(f.Bytes))
		}
		p.Frags = append(p.Frags, f)
	}
	return p
}

func somePlaces(r *rand.Rand, frags, long int) []api.Reloc {
	var l []api.Reloc
	for at := r.Intn(4); len(l) < api.MaxRelocs; at += r.Intn(4) {
		kind := api.Abs1 + r.Intn(4)
		if at+obj.Wide(kind) > long {
			break
		}
		place := api.Reloc{At: at, Kind: kind, Frag: r.Intn(frags), Add: r.Intn(5)}
		if r.Intn(2) == 0 {
			place.Name, place.Frag = "main", 0
		}
		l = append(l, place)
		at += obj.Wide(kind)
	}
	return l
}

// wantFragment looks whether a fragment stands at an address, but for its places, with the rights of its section.
func wantFragment(t *testing.T, m api.Image, f api.Frag, at int) {
	t.Helper()
	got, e := Range(m, at, obj.Long(f))
	if e != api.OK {
		t.Fatalf("%v at %d: %d", f, at, e)
	}
	want := make([]byte, obj.Long(f))
	copy(want, f.Bytes)
	for _, r := range f.Relocs {
		copy(want[r.At:], got[r.At:r.At+obj.Wide(r.Kind)])
	}
	if !bytes.Equal(got, want) {
		t.Errorf("%v at %d: %v", f, at, got)
	}
	for i, b := range got {
		wantByte(t, "of a fragment", m, at+i, seen{b, true, f.Sect == api.Data || f.Sect == api.Zero, f.Sect == api.Code})
	}
}

// TestLinked: P9.3: what is linked can be loaded; each fragment's bytes stand where the layout says, but for its places.
func TestLinked(t *testing.T) {
	r := rand.New(rand.NewSource(10))
	images, places := 0, 0
	var sects [api.Zero + 1]int
	for range 4000 {
		p := somePart(r)
		if r.Intn(2) == 0 {
			p, _ = part.Join(p, somePart(r))
		}
		base := r.Intn(40)
		if r.Intn(3) == 0 {
			base = r.Intn(api.MaxSpace - 2000)
		}
		m, faults, e := link.Link(p, base, "main")
		if e != api.OK {
			t.Fatalf("%v at %d: %d", p, base, e)
		}
		if len(faults) > 0 {
			continue
		}
		images++
		if e := Check(m); e != api.OK {
			t.Fatalf("%v at %d: %v: %d", p, base, m, e)
		}
		l, _ := layout.Lay(p, base)
		for i, f := range p.Frags {
			wantFragment(t, m, f, l.Frags[i])
			sects[f.Sect]++
			places += len(f.Relocs)
		}
		wantByte(t, "a common name", m, l.Commons[0], seen{0, true, true, false})
	}
	if images < 1000 || places < 1000 || slices.Min(sects[1:]) < 1000 {
		t.Errorf("the parts show too little: %d images, %d places, sections %v", images, places, sects)
	}
}

// TestLinkedEdges: what is linked up to the end of the space can be loaded, too; so can what has nothing in it.
func TestLinkedEdges(t *testing.T) {
	full := api.Part{Defs: []api.Def{{Name: "main", Kind: api.Strong, At: api.MaxBytes}}}
	for range api.MaxFrags {
		full.Frags = append(full.Frags, api.Frag{Sect: api.Zero, Align: 8, Size: api.MaxBytes})
	}
	empty := api.Part{Frags: []api.Frag{{Sect: api.Code, Align: 1}}, Defs: []api.Def{{Name: "main", Kind: api.Strong}}}
	for _, x := range []struct {
		p    api.Part
		base int
	}{
		{full, 0}, {full, api.MaxSpace - api.MaxFrags*api.MaxBytes}, {empty, 0}, {empty, api.MaxSpace - 1},
	} {
		m, faults, e := link.Link(x.p, x.base, "main")
		if e != api.OK || len(faults) > 0 {
			t.Fatal(faults, e)
		}
		if e := Check(m); e != api.OK {
			t.Errorf("from %d on: %d", x.base, e)
		}
		l, _ := layout.Lay(x.p, x.base)
		for i, f := range x.p.Frags {
			wantFragment(t, m, f, l.Frags[i])
		}
	}
	if e := Check(api.Image{}); e != api.OK {
		t.Errorf("no image: %d", e)
	}
}

// TestEmpty: lists that have nothing in them may be nil or empty.
func TestEmpty(t *testing.T) {
	for _, b := range [][]byte{nil, {}} {
		m := image(0, api.Segment{At: 3, Bytes: b, Zeros: 1})
		wantByte(t, "a nought alone", m, 3, seen{0, true, false, false})
		wantRange(t, "a nought alone", m, 3, "\x00")
		wantRange(t, "none", image(0, api.Segment{At: 3, Bytes: b}), 3, "")
		wantRangeError(t, "nothing", image(0, api.Segment{At: 3, Bytes: b}), 3, 1, api.ErrWho)
	}
	for _, l := range [][]api.Segment{nil, {}} {
		wantByte(t, "no segments", api.Image{Segments: l}, 0, seen{})
		wantRangeError(t, "no segments", api.Image{Segments: l}, 0, 1, api.ErrWho)
	}
}

// roomy is an image with spare room behind its lists, with something in it.
func roomy() api.Image {
	l := []api.Segment{seg(4, "abcXY", 1), seg(9, "dZ", 0), seg(-1, "spare", 0)}
	l[0].Bytes, l[1].Bytes = l[0].Bytes[:3], l[1].Bytes[:1]
	return image(0, l[:2]...)
}

// copied has the lists of an image as long as their memory, in new memory.
func copied(m api.Image) api.Image {
	l := slices.Clone(m.Segments[:cap(m.Segments)])
	for i, s := range l {
		l[i].Bytes = slices.Clone(s.Bytes[:cap(s.Bytes)])
	}
	return api.Image{Entry: m.Entry, Segments: l}
}

// TestOnlyReads: P2: what is handed in stays as it is, the spare room behind it too, which nobody looks at; what is answered is new memory.
func TestOnlyReads(t *testing.T) {
	m := roomy()
	before := copied(m)
	wantByte(t, "a nought, not what is behind", m, 7, seen{0, true, false, false})
	wantByte(t, "not what is behind", m, 10, seen{})
	wantRange(t, "a nought, not what is behind", m, 4, "abc\x00")
	wantRangeError(t, "not what is behind", m, 9, 2, api.ErrWho)
	first, _ := Range(m, 4, 3)
	again, _ := Range(m, 4, 3)
	clear(first[:cap(first)])
	if string(again) != "abc" {
		t.Error("answers share memory")
	}
	if !reflect.DeepEqual(copied(m), before) {
		t.Error("what was handed in was changed")
	}
}

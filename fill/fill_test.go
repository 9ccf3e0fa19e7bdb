package fill

import (
	"bytes"
	"math"
	"math/rand"
	"slices"
	"testing"

	"ropewalk/api"
)

var kinds = []int{api.Abs1, api.Abs2, api.Rel1, api.Rel2}

// noKinds are numbers that are no kind of a place.
var noKinds = []int{0, 5, 6, -1, -2, 255, 256, 257, math.MaxInt, math.MinInt}

func wantValue(t *testing.T, kind, at, to, add, want int, wantE api.Errno) {
	t.Helper()
	if n, e := Value(kind, at, to, add); n != want || e != wantE {
		t.Errorf("value of %d at %d to %d, %d: %d, %d, want %d, %d", kind, at, to, add, n, e, want, wantE)
	}
}

// wantPutError looks whether Put has this against what it is given, with no list in its answer.
func wantPutError(t *testing.T, b []byte, at, kind, n int, want api.Errno) {
	t.Helper()
	if out, e := Put(b, at, kind, n); out != nil || e != want {
		t.Errorf("put of %d, %d into %d bytes at %d: %d bytes, %d, want %d", kind, n, len(b), at, len(out), e, want)
	}
}

func wantPut(t *testing.T, b []byte, at, kind, n int, want []byte) {
	t.Helper()
	if out, e := Put(b, at, kind, n); e != api.OK || !bytes.Equal(out, want) {
		t.Errorf("put of %d, %d into %v at %d: %v, %d, want %v", kind, n, b, at, out, e, want)
	}
}

func wantGet(t *testing.T, b []byte, at, kind, want int, wantE api.Errno) {
	t.Helper()
	if n, e := Get(b, at, kind); n != want || e != wantE {
		t.Errorf("get of %d in %d bytes at %d: %d, %d, want %d, %d", kind, len(b), at, n, e, want, wantE)
	}
}

func TestRange(t *testing.T) {
	for kind, want := range map[int][2]int{
		api.Abs1: {0, 255}, api.Abs2: {0, 65535}, api.Rel1: {-128, 127}, api.Rel2: {-32768, 32767},
	} {
		if least, most := Range(kind); least != want[0] || most != want[1] {
			t.Errorf("%d: %d, %d, want %v", kind, least, most, want)
		}
	}
	for _, kind := range noKinds {
		if least, most := Range(kind); least != 1 || most != 0 {
			t.Errorf("%d: %d, %d, want 1, 0", kind, least, most)
		}
	}
}

func TestValue(t *testing.T) {
	wantValue(t, api.Rel1, 20, 10, 0, -10, api.OK)
	wantValue(t, api.Rel2, 20, 10, 3, -7, api.OK)
	wantValue(t, api.Abs1, 20, 10, 0, 10, api.OK)
	wantValue(t, api.Abs2, 20, 10, -10, 0, api.OK)
	wantValue(t, api.Rel1, 0, 0, 0, 0, api.OK)
	// Where an absolute place stands says nothing.
	wantValue(t, api.Abs1, api.MaxSpace, 255, 0, 255, api.OK)
	wantValue(t, api.Abs2, api.MaxSpace, 0, 9, 9, api.OK)
	// The ends of the space are addresses, and of Add numbers that may be.
	wantValue(t, api.Abs2, 0, api.MaxSpace, -1, 65535, api.OK)
	wantValue(t, api.Abs2, 0, 55535, api.MaxAdd, 65535, api.OK)
	wantValue(t, api.Abs2, 0, api.MaxAdd, -api.MaxAdd, 0, api.OK)
	wantValue(t, api.Rel1, api.MaxSpace, api.MaxSpace, 127, 127, api.OK)
	wantValue(t, api.Rel2, api.MaxSpace, 32768, 0, -32768, api.OK)
	wantValue(t, api.Rel2, 0, 32767, 0, 32767, api.OK)
}

func TestValueOver(t *testing.T) {
	wantValue(t, api.Abs1, 0, 256, 0, 0, api.ErrOver)
	wantValue(t, api.Abs1, 0, 255, 1, 0, api.ErrOver)
	wantValue(t, api.Abs1, 0, 0, -1, 0, api.ErrOver)
	wantValue(t, api.Abs2, 0, api.MaxSpace, 0, 0, api.ErrOver)
	wantValue(t, api.Abs2, 0, 9999, -api.MaxAdd, 0, api.ErrOver)
	wantValue(t, api.Rel1, 0, 128, 0, 0, api.ErrOver)
	wantValue(t, api.Rel1, 129, 0, 0, 0, api.ErrOver)
	wantValue(t, api.Rel2, 0, 32768, 0, 0, api.ErrOver)
	wantValue(t, api.Rel2, 32769, 0, 0, 0, api.ErrOver)
	wantValue(t, api.Rel2, 0, api.MaxSpace, api.MaxAdd, 0, api.ErrOver)
	wantValue(t, api.Rel2, api.MaxSpace, 0, -api.MaxAdd, 0, api.ErrOver)
}

// TestValueWrong: a kind that is none is told first, then what may not be, then what doesn't fit.
func TestValueWrong(t *testing.T) {
	for _, kind := range noKinds {
		wantValue(t, kind, 0, 0, 0, 0, api.ErrForm)
		wantValue(t, kind, -1, api.MaxSpace+1, api.MaxAdd+1, 0, api.ErrForm)
	}
	for _, kind := range kinds {
		for _, at := range []int{-1, api.MaxSpace + 1, math.MaxInt, math.MinInt} {
			wantValue(t, kind, at, 0, 0, 0, api.ErrRange)
			wantValue(t, kind, 0, at, 0, 0, api.ErrRange)
			wantValue(t, kind, at, at, 0, 0, api.ErrRange)
			wantValue(t, kind, at, api.MaxSpace, api.MaxAdd, 0, api.ErrRange)
		}
		for _, add := range []int{-api.MaxAdd - 1, api.MaxAdd + 1, math.MaxInt, math.MinInt} {
			wantValue(t, kind, 0, 0, add, 0, api.ErrRange)
			wantValue(t, kind, api.MaxSpace, api.MaxSpace, add, 0, api.ErrRange)
		}
	}
}

// TestValueByChance: what is answered is to and add, less at of the relative kinds, where that is within Range.
func TestValueByChance(t *testing.T) {
	r := rand.New(rand.NewSource(7))
	fit, over := 0, 0
	for range 20000 {
		kind := kinds[r.Intn(4)]
		at, to := r.Intn(api.MaxSpace+1), r.Intn(api.MaxSpace+1)
		if r.Intn(2) == 0 {
			at, to = r.Intn(400), r.Intn(400)
		}
		add := r.Intn(2*api.MaxAdd+1) - api.MaxAdd
		if r.Intn(2) == 0 {
			add = r.Intn(99) - 49
		}
		want := map[int]int{api.Abs1: to + add, api.Abs2: to + add, api.Rel1: to + add - at, api.Rel2: to + add - at}[kind]
		if least, most := Range(kind); want < least || want > most {
			over++
			wantValue(t, kind, at, to, add, 0, api.ErrOver)
			continue
		}
		fit++
		wantValue(t, kind, at, to, add, want, api.OK)
	}
	if fit < 1000 || over < 1000 {
		t.Errorf("the numbers show too little: %d fit, %d don't", fit, over)
	}
}

func TestPut(t *testing.T) {
	b := []byte{1, 2, 3}
	wantPut(t, b, 0, api.Abs1, 255, []byte{255, 2, 3})
	wantPut(t, b, 2, api.Abs1, 0, []byte{1, 2, 0})
	wantPut(t, b, 1, api.Rel1, -10, []byte{1, 0xf6, 3})
	wantPut(t, b, 2, api.Rel1, -128, []byte{1, 2, 0x80})
	wantPut(t, b, 0, api.Rel1, 127, []byte{0x7f, 2, 3})
	wantPut(t, b, 0, api.Abs2, 0x1234, []byte{0x34, 0x12, 3})
	wantPut(t, b, 1, api.Abs2, 65535, []byte{1, 0xff, 0xff})
	wantPut(t, b, 1, api.Rel2, -2, []byte{1, 0xfe, 0xff})
	wantPut(t, b, 0, api.Rel2, -32768, []byte{0, 0x80, 3})
	wantPut(t, b, 0, api.Rel2, 32767, []byte{0xff, 0x7f, 3})
	wantPut(t, []byte{9}, 0, api.Abs1, 8, []byte{8})
	wantPut(t, []byte{9, 9}, 0, api.Rel2, -256, []byte{0, 0xff})
}

func TestGet(t *testing.T) {
	b := []byte{0xff, 0x80, 0x7f, 0x12}
	wantGet(t, b, 0, api.Abs1, 255, api.OK)
	wantGet(t, b, 0, api.Rel1, -1, api.OK)
	wantGet(t, b, 1, api.Abs1, 128, api.OK)
	wantGet(t, b, 1, api.Rel1, -128, api.OK)
	wantGet(t, b, 2, api.Rel1, 127, api.OK)
	wantGet(t, b, 3, api.Rel1, 0x12, api.OK)
	wantGet(t, b, 0, api.Abs2, 0x80ff, api.OK)
	wantGet(t, b, 0, api.Rel2, 0x80ff-65536, api.OK)
	wantGet(t, b, 1, api.Rel2, 0x7f80, api.OK)
	wantGet(t, b, 2, api.Abs2, 0x127f, api.OK)
	wantGet(t, []byte{0, 0x80}, 0, api.Rel2, -32768, api.OK)
	wantGet(t, []byte{0xff, 0xff}, 0, api.Rel2, -1, api.OK)
	wantGet(t, []byte{0xff, 0xff}, 0, api.Abs2, 65535, api.OK)
}

// TestPlaceWrong: a kind that is none is told first, then too many bytes, then a place that isn't there, then a number that doesn't fit.
func TestPlaceWrong(t *testing.T) {
	most, more := make([]byte, api.MaxSpace), make([]byte, api.MaxSpace+1)
	for _, kind := range noKinds {
		for _, b := range [][]byte{nil, {}, {1, 2}, most, more} {
			for _, at := range []int{0, -1, len(b), math.MaxInt} {
				wantPutError(t, b, at, kind, 0, api.ErrForm)
				wantPutError(t, b, at, kind, 99999, api.ErrForm)
				wantGet(t, b, at, kind, 0, api.ErrForm)
			}
		}
	}
	for _, kind := range kinds {
		for _, at := range []int{0, 7, api.MaxSpace, -1, math.MaxInt, math.MinInt} {
			wantPutError(t, more, at, kind, 0, api.ErrMany)
			wantPutError(t, more, at, kind, 99999, api.ErrMany)
			wantGet(t, more, at, kind, 0, api.ErrMany)
		}
		wide := map[int]int{api.Abs1: 1, api.Rel1: 1, api.Abs2: 2, api.Rel2: 2}[kind]
		for _, b := range [][]byte{nil, {}, {1}, {1, 2}, {1, 2, 3}, most} {
			last := len(b) - wide
			for _, at := range []int{-1, -2, -wide, last + 1, last + 2, len(b), math.MaxInt, math.MaxInt - 1, math.MinInt} {
				if at >= 0 && at <= last {
					continue
				}
				wantPutError(t, b, at, kind, 0, api.ErrWho)
				wantPutError(t, b, at, kind, 99999, api.ErrWho)
				wantGet(t, b, at, kind, 0, api.ErrWho)
			}
		}
		least, most := Range(kind)
		for _, n := range []int{least - 1, most + 1, least - 65536, most + 65536, math.MaxInt, math.MinInt} {
			wantPutError(t, []byte{1, 2}, 0, kind, n, api.ErrOver)
		}
	}
}

// TestMostBytes: a place at each end of as many bytes as may be.
func TestMostBytes(t *testing.T) {
	b := bytes.Repeat([]byte{0xaa}, api.MaxSpace)
	for _, kind := range kinds {
		wide := map[int]int{api.Abs1: 1, api.Rel1: 1, api.Abs2: 2, api.Rel2: 2}[kind]
		for _, at := range []int{0, api.MaxSpace - wide} {
			want := slices.Clone(b)
			clear(want[at : at+wide])
			out, e := Put(b, at, kind, 0)
			if e != api.OK || !bytes.Equal(out, want) {
				t.Errorf("%d at %d: %d", kind, at, e)
			}
			wantGet(t, out, at, kind, 0, api.OK)
		}
	}
}

// TestGetOfPut: P7.3, of each number of each kind: it is got where it was put, and all else is as it was.
func TestGetOfPut(t *testing.T) {
	b := []byte{11, 22, 33, 44}
	for _, kind := range kinds {
		wide := map[int]int{api.Abs1: 1, api.Rel1: 1, api.Abs2: 2, api.Rel2: 2}[kind]
		least, most := Range(kind)
		for n := least; n <= most; n++ {
			at := (n - least) % (len(b) - wide + 1)
			out, e := Put(b, at, kind, n)
			if e != api.OK || len(out) != len(b) {
				t.Fatalf("%d of %d at %d: %v, %d", n, kind, at, out, e)
			}
			if !bytes.Equal(out[:at], b[:at]) || !bytes.Equal(out[at+wide:], b[at+wide:]) {
				t.Fatalf("%d of %d at %d: %v: something else was changed", n, kind, at, out)
			}
			if got, e := Get(out, at, kind); got != n || e != api.OK {
				t.Fatalf("%d of %d at %d: got %d, %d", n, kind, at, got, e)
			}
		}
	}
}

// TestPutOfGet: whatever bytes stand in a place, what is got is within Range, and, put there, makes the same bytes.
func TestPutOfGet(t *testing.T) {
	for low := range 256 {
		for high := range 256 {
			b := []byte{7, byte(low), byte(high), 9}
			for _, kind := range kinds {
				n, e := Get(b, 1, kind)
				if least, most := Range(kind); e != api.OK || n < least || n > most {
					t.Fatalf("%v, %d: %d, %d", b, kind, n, e)
				}
				wantPut(t, b, 1, kind, n, b)
			}
		}
	}
}

// TestOwnMemory: P2: what is handed in stays as it is, the spare room behind it too, which nobody looks at; what is answered is new memory.
func TestOwnMemory(t *testing.T) {
	room := []byte{1, 2, 3, 4, 5}
	b := room[:3]
	out, e := Put(b, 1, api.Abs2, 0x0908)
	again, _ := Put(b, 1, api.Abs2, 0x0908)
	if e != api.OK || !bytes.Equal(out, []byte{1, 8, 9}) {
		t.Errorf("%v, %d", out, e)
	}
	// A place that would reach into the spare room isn't there.
	wantPutError(t, b, 2, api.Abs2, 0, api.ErrWho)
	wantGet(t, b, 2, api.Abs2, 0, api.ErrWho)
	wantPutError(t, b, 3, api.Abs1, 0, api.ErrWho)
	wantGet(t, b, 3, api.Abs1, 0, api.ErrWho)
	// The bytes may be there already: the list is new even then.
	same, _ := Put(b, 0, api.Abs1, 1)
	clear(same[:cap(same)])
	clear(out[:cap(out)])
	if !bytes.Equal(room, []byte{1, 2, 3, 4, 5}) {
		t.Errorf("what was handed in was changed: %v", room)
	}
	if !bytes.Equal(again, []byte{1, 8, 9}) {
		t.Errorf("answers share memory: %v", again)
	}
}

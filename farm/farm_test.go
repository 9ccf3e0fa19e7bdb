package farm

import (
	"fmt"
	"math"
	"math/rand"
	"reflect"
	"slices"
	"strings"
	"testing"

	"ropewalk/api"
	"ropewalk/obj"
	"ropewalk/part"
	"ropewalk/plan"
)

func leaf(n int) api.Node { return api.Node{Leaf: n} }

func over(left, right int) api.Node { return api.Node{Leaf: -1, Left: left, Right: right} }

// comb is the plan of n parts whose left side is always one part alone.
func comb(n int) []api.Node {
	l, _ := plan.Make(n, nil)
	return l
}

// two is a plan whose last node is the third one.
func two() []api.Node { return []api.Node{leaf(0), leaf(1), over(0, 1)} }

// one is a part of one fragment, with that byte.
func one(b byte) api.Part {
	return api.Part{Frags: []api.Frag{{Sect: api.Data, Align: 1, Bytes: []byte{b}}}}
}

// frags is a part of n fragments of a group.
func frags(group string, n int) api.Part {
	var p api.Part
	for i := range n {
		p.Frags = append(p.Frags, api.Frag{Sect: api.Data, Align: 1, Group: group, Bytes: []byte{byte(i)}})
	}
	return p
}

func joined(l ...api.Part) api.Part {
	p, _ := part.All(l)
	return p
}

// Parts that are wrong, each in its own way.
func text() api.Part  { return frags("G", 1) }                                            // ErrText
func sect() api.Part  { return api.Part{Frags: make([]api.Frag, 1)} }                     // ErrRange
func who() api.Part   { return api.Part{Defs: []api.Def{{Name: "x", Kind: api.Strong}}} } // ErrWho
func heavy() api.Part { return frags("", api.MaxFrags+1) }                                // ErrMany

// small is a farm of two parts and two workers.
func small(t *testing.T) api.Farm {
	t.Helper()
	f, e := New([]api.Part{one(1), one(2)}, two(), 2)
	if e != api.OK {
		t.Fatal(e)
	}
	return f
}

func task(worker, n int) api.Message {
	return api.Message{Kind: api.Task, Worker: worker, N: n}
}

func result(worker, n int, p api.Part) api.Message {
	return api.Message{Kind: api.Result, Worker: worker, N: n, P: p}
}

func at(kind, worker int) api.Happening { return api.Happening{Kind: kind, Worker: worker} }

func to(kind, k int) api.Happening { return api.Happening{Kind: kind, K: k} }

// told writes a farm so that lists with nothing in them are alike, nil or not.
func told(f api.Farm) string { return fmt.Sprintf("%+v", f) }

func wantFarm(t *testing.T, what string, got api.Farm, e api.Errno, want api.Farm) {
	t.Helper()
	if e != api.OK || told(got) != told(want) {
		t.Errorf("%s: %d\n got %s\nwant %s", what, e, told(got), told(want))
	}
}

// wantErrno: with an error, there is no farm.
func wantErrno(t *testing.T, what string, got api.Farm, e, want api.Errno) {
	t.Helper()
	if e != want || !reflect.DeepEqual(got, api.Farm{}) {
		t.Errorf("%s: %s, %d, want nothing, %d", what, told(got), e, want)
	}
}

func TestNew(t *testing.T) {
	for workers := 1; workers <= api.MaxWork; workers++ {
		parts := []api.Part{one(1), {}, frags("g", 2)}
		l := []api.Node{leaf(2), leaf(1), leaf(0), over(1, 0), over(2, 3)}
		f, e := New(parts, l, workers)
		wantFarm(t, "new", f, e, api.Farm{
			Parts:  parts,
			Plan:   l,
			Done:   make([]bool, 5),
			Have:   make([]api.Part, 5),
			Grants: make([]api.Grant, 5),
			Work:   []int{-1, -1, -1, -1}[:workers],
		})
		if e := Check(f); e != api.OK {
			t.Errorf("a new one is wrong: %d", e)
		}
	}
	f, e := New(make([]api.Part, 1), comb(1), 1)
	if e != api.OK || len(f.Plan) != 1 || len(f.Work) != 1 {
		t.Errorf("the least: %s, %d", told(f), e)
	}
	f, e = New(slices.Repeat([]api.Part{frags("", api.MaxFrags)}, api.MaxItems), comb(api.MaxItems), api.MaxWork)
	if e != api.OK || len(f.Plan) != 2*api.MaxItems-1 || len(f.Parts) != api.MaxItems {
		t.Errorf("the most: %s, %d", told(f), e)
	}
}

func TestNewWrong(t *testing.T) {
	for _, x := range []struct {
		what    string
		parts   []api.Part
		l       []api.Node
		workers int
		want    api.Errno
	}{
		{"no parts", nil, comb(1), 1, api.ErrRange},
		{"too many parts", make([]api.Part, api.MaxItems+1), comb(api.MaxItems), 1, api.ErrRange},
		{"no plan", make([]api.Part, 1), nil, 1, api.ErrForm},
		{"a plan of fewer", make([]api.Part, 3), two(), 1, api.ErrForm},
		{"a plan of more", make([]api.Part, 1), two(), 1, api.ErrRange},
		{"too many nodes", make([]api.Part, 1), slices.Repeat(comb(1), 2*api.MaxItems), 1, api.ErrMany},
		{"no workers", make([]api.Part, 2), two(), 0, api.ErrRange},
		{"below none", make([]api.Part, 2), two(), -1, api.ErrRange},
		{"far below none", make([]api.Part, 2), two(), math.MinInt, api.ErrRange},
		{"one worker too many", make([]api.Part, 2), two(), api.MaxWork + 1, api.ErrRange},
		{"far too many workers", make([]api.Part, 2), two(), math.MaxInt, api.ErrRange},
		{"the first part", []api.Part{text(), who()}, two(), 1, api.ErrText},
		{"the second part", []api.Part{{}, who()}, two(), 1, api.ErrWho},
		{"the first part, not the first leaf", []api.Part{heavy(), who()}, []api.Node{leaf(1), leaf(0), over(1, 0)}, 1, api.ErrMany},

		{"the plan, ahead of workers", make([]api.Part, 2), nil, 0, api.ErrForm},
		{"the plan, ahead of parts", []api.Part{text()}, nil, 1, api.ErrForm},
		{"workers, ahead of parts", []api.Part{text(), {}}, two(), 0, api.ErrRange},
	} {
		f, e := New(x.parts, x.l, x.workers)
		wantErrno(t, x.what, f, e, x.want)
	}
}

// change is one thing that is done to a small farm.
type change struct {
	what string
	do   func(f *api.Farm)
}

func TestCheck(t *testing.T) {
	for _, x := range []change{
		{"new", func(f *api.Farm) {}},
		{"the last tick", func(f *api.Farm) { f.Now = api.MaxSpace }},
		{"one worker", func(f *api.Farm) { f.Work = f.Work[:1] }},
		{"as many workers as may be", func(f *api.Farm) { f.Work = make([]int, api.MaxWork) }},
		{"the last node is worked on", func(f *api.Farm) { f.Work = []int{2, 0} }},
		{"the last worker's grant, as long as may be", func(f *api.Farm) { f.Grants[0] = api.Grant{Worker: 1, Until: api.MaxSpace + api.Lease} }},
		{"as many messages as may be", func(f *api.Farm) { f.Net = slices.Repeat([]api.Message{task(1, 2)}, api.MaxNet) }},
		{"a task with a part", func(f *api.Farm) { f.Net = []api.Message{{Kind: api.Task, P: one(1)}} }},
		{"a result", func(f *api.Farm) { f.Net = []api.Message{result(1, 2, one(1))} }},
		{"what is done though nothing below is", func(f *api.Farm) { f.Done[2] = true }},
		{"what isn't done though it is there", func(f *api.Farm) { f.Have[0] = one(7) }},
	} {
		f := small(t)
		x.do(&f)
		if e := Check(f); e != api.OK {
			t.Errorf("%s: %d", x.what, e)
		}
	}
}

// faults are changes that are wrong, one for each thing that Check tells, in the order in which it tells them, with the error of each.
func faults() ([]change, []api.Errno) {
	message := func(m api.Message) func(f *api.Farm) {
		return func(f *api.Farm) { f.Net = slices.Insert(f.Net, 0, m) }
	}
	behind := func(m api.Message) func(f *api.Farm) {
		return func(f *api.Farm) { f.Net = slices.Insert(f.Net, 0, task(0, 0), m) }
	}
	l := []struct {
		change
		e api.Errno
	}{
		{change{"no parts", func(f *api.Farm) { f.Parts = nil }}, api.ErrRange},
		{change{"the plan", func(f *api.Farm) { f.Plan = f.Plan[:2] }}, api.ErrForm},
		{change{"too few done", func(f *api.Farm) { f.Done = f.Done[:2] }}, api.ErrForm},
		{change{"too many done", func(f *api.Farm) { f.Done = make([]bool, 4) }}, api.ErrForm},
		{change{"too little there", func(f *api.Farm) { f.Have = f.Have[:2] }}, api.ErrForm},
		{change{"too much there", func(f *api.Farm) { f.Have = make([]api.Part, 4) }}, api.ErrForm},
		{change{"too few grants", func(f *api.Farm) { f.Grants = f.Grants[:2] }}, api.ErrForm},
		{change{"too many grants", func(f *api.Farm) { f.Grants = make([]api.Grant, 4) }}, api.ErrForm},
		{change{"no workers", func(f *api.Farm) { f.Work = nil }}, api.ErrRange},
		{change{"too many workers", func(f *api.Farm) { f.Work = make([]int, api.MaxWork+1) }}, api.ErrRange},
		{change{"before the first tick", func(f *api.Farm) { f.Now = -1 }}, api.ErrRange},
		{change{"far before it", func(f *api.Farm) { f.Now = math.MinInt }}, api.ErrRange},
		{change{"behind the last tick", func(f *api.Farm) { f.Now = api.MaxSpace + 1 }}, api.ErrRange},
		{change{"far behind it", func(f *api.Farm) { f.Now = math.MaxInt }}, api.ErrRange},
		{change{"too many messages", func(f *api.Farm) { f.Net = make([]api.Message, api.MaxNet+1) }}, api.ErrMany},
		{change{"the first part", func(f *api.Farm) { f.Parts[0] = text() }}, api.ErrText},
		{change{"the second part", func(f *api.Farm) { f.Parts[1] = who() }}, api.ErrWho},
		{change{"what the first node has", func(f *api.Farm) { f.Have[0] = sect() }}, api.ErrRange},
		{change{"what the last node has", func(f *api.Farm) { f.Have[2] = heavy() }}, api.ErrMany},
		{change{"a worker does less than nothing", func(f *api.Farm) { f.Work[0] = -2 }}, api.ErrWho},
		{change{"far less", func(f *api.Farm) { f.Work[0] = math.MinInt }}, api.ErrWho},
		{change{"the last worker does what is no node", func(f *api.Farm) { f.Work[1] = 3 }}, api.ErrWho},
		{change{"far off", func(f *api.Farm) { f.Work[1] = math.MaxInt }}, api.ErrWho},
		{change{"a grant of a worker below all", func(f *api.Farm) { f.Grants[0].Worker = -1 }}, api.ErrRange},
		{change{"of one above all", func(f *api.Farm) { f.Grants[0].Worker = 2 }}, api.ErrRange},
		{change{"until before all ticks", func(f *api.Farm) { f.Grants[2].Until = -1 }}, api.ErrRange},
		{change{"until too late", func(f *api.Farm) { f.Grants[2].Until = api.MaxSpace + api.Lease + 1 }}, api.ErrRange},
		{change{"until far too late", func(f *api.Farm) { f.Grants[2].Until = math.MaxInt }}, api.ErrRange},
		{change{"a message of no kind", message(api.Message{})}, api.ErrRange},
		{change{"of a kind above all", message(api.Message{Kind: 3})}, api.ErrRange},
		{change{"of a worker below all", message(task(-1, 0))}, api.ErrRange},
		{change{"of one above all", message(result(2, 0, one(1)))}, api.ErrRange},
		{change{"of a node below all", message(task(0, -1))}, api.ErrRange},
		{change{"of one above all", message(task(0, 3))}, api.ErrRange},
		{change{"of a wrong part", message(result(0, 0, text()))}, api.ErrText},
		{change{"a task with a wrong part", message(api.Message{Kind: api.Task, P: who()})}, api.ErrWho},
		{change{"no kind, ahead of a wrong part", message(api.Message{P: text()})}, api.ErrRange},
		{change{"a later message", behind(api.Message{})}, api.ErrRange},
		{change{"a later message's part", behind(result(0, 0, text()))}, api.ErrText},
	}
	var changes []change
	var errors []api.Errno
	for _, x := range l {
		changes, errors = append(changes, x.change), append(errors, x.e)
	}
	return changes, errors
}

// TestCheckWrong: what is wrong, Check tells, and all other calls tell it, too, ahead of what is theirs.
func TestCheckWrong(t *testing.T) {
	changes, errors := faults()
	for i, x := range changes {
		f := small(t)
		x.do(&f)
		if e := Check(f); e != errors[i] {
			t.Errorf("%s: %d, want %d", x.what, e, errors[i])
		}
		g, e := Do(f, api.Happening{Kind: 99, Worker: -1, K: -1})
		wantErrno(t, x.what+": Do", g, e, errors[i])
		g, said, e := Run(f, make([]api.Happening, api.MaxScript+1))
		wantErrno(t, x.what+": Run", g, e, errors[i])
		if said != nil {
			t.Errorf("%s: Run: %v", x.what, said)
		}
		if p, e := Outcome(f); e != errors[i] || !reflect.DeepEqual(p, api.Part{}) {
			t.Errorf("%s: Outcome: %v, %d, want %d", x.what, p, e, errors[i])
		}
	}
}

// TestCheckOrder: of two things that are wrong, the one that is told first is the answer.
func TestCheckOrder(t *testing.T) {
	changes, errors := faults()
	for i, x := range changes {
		for k := i + 1; k < len(changes); k++ {
			f := small(t)
			// The later one first: where both change one thing, it is the earlier one's.
			changes[k].do(&f)
			x.do(&f)
			if e := Check(f); e != errors[i] {
				t.Errorf("%s, then %s: %d, want %d", x.what, changes[k].what, e, errors[i])
			}
		}
	}
}

// slowCheck is Check as the document's words go.
func slowCheck(f api.Farm) api.Errno {
	if e := plan.Check(f.Plan, len(f.Parts)); e != api.OK {
		return e
	}
	n := len(f.Plan)
	if len(f.Done) != n || len(f.Have) != n || len(f.Grants) != n {
		return api.ErrForm
	}
	if len(f.Work) < 1 || len(f.Work) > 4 || f.Now < 0 || f.Now > 65536 {
		return api.ErrRange
	}
	if len(f.Net) > 20 {
		return api.ErrMany
	}
	for _, p := range append(slices.Clone(f.Parts), f.Have...) {
		if e := obj.Check(p); e != api.OK {
			return e
		}
	}
	for _, w := range f.Work {
		if w < -1 || w >= n {
			return api.ErrWho
		}
	}
	for _, g := range f.Grants {
		if g.Worker < 0 || g.Worker >= len(f.Work) || g.Until < 0 || g.Until > 65541 {
			return api.ErrRange
		}
	}
	for _, m := range f.Net {
		if m.Kind != 1 && m.Kind != 2 || m.Worker < 0 || m.Worker >= len(f.Work) || m.N < 0 || m.N >= n {
			return api.ErrRange
		}
		if e := obj.Check(m.P); e != api.OK {
			return e
		}
	}
	return api.OK
}

// spoil changes one number or length of a farm, by chance, so that it may or may not be wrong.
func spoil(r *rand.Rand, f *api.Farm) {
	n := []int{-2, -1, 0, 1, 4, 5, 7, api.MaxSpace, api.MaxSpace + api.Lease, api.MaxSpace + api.Lease + 1, math.MaxInt, math.MinInt}[r.Intn(12)]
	bad := []api.Part{{}, one(1), text(), sect(), who(), heavy()}[r.Intn(6)]
	i, w := r.Intn(len(f.Plan)), r.Intn(len(f.Work))
	switch r.Intn(15) {
	case 0:
		f.Plan = f.Plan[:i+1]
	case 1:
		f.Done = append(f.Done, true)[:i+1]
	case 2:
		f.Have = append(f.Have, bad)[:i+1]
	case 3:
		f.Grants = append(f.Grants, api.Grant{})[:i+1]
	case 4:
		f.Now = n
	case 5:
		f.Work[w] = n
	case 6:
		f.Grants[min(i, len(f.Grants)-1)].Worker = n
	case 7:
		f.Grants[min(i, len(f.Grants)-1)].Until = n
	case 8:
		f.Parts[r.Intn(len(f.Parts))] = bad
	case 9:
		f.Have[min(i, len(f.Have)-1)] = bad
	case 10:
		f.Net = append(f.Net, api.Message{Kind: n, Worker: w, N: i})
	case 11:
		f.Net = append(f.Net, task(n, i))
	case 12:
		f.Net = append(f.Net, task(w, n))
	case 13:
		f.Net = append(f.Net, result(w, i, bad))
	case 14:
		f.Work = append(f.Work, -1)
	}
}

// TestCheckSlow: farms by chance, with some things changed, are told as the document's words go.
func TestCheckSlow(t *testing.T) {
	r := rand.New(rand.NewSource(4))
	seen := map[api.Errno]int{}
	for range 6000 {
		f := someFarm(r)
		for range r.Intn(4) {
			spoil(r, &f)
		}
		got, want := Check(f), slowCheck(f)
		if got != want {
			t.Fatalf("%s: %d, want %d", told(f), got, want)
		}
		seen[got]++
	}
	for _, e := range []api.Errno{api.OK, api.ErrText, api.ErrMany, api.ErrRange, api.ErrForm, api.ErrWho} {
		if seen[e] < 50 {
			t.Errorf("the farms show too little: %v", seen)
		}
	}
}

// wantDo lets x happen to a changed small farm; want changes that farm to what is wanted.
func wantDo(t *testing.T, what string, change func(f *api.Farm), x api.Happening, want func(f *api.Farm)) {
	t.Helper()
	f, w := small(t), small(t)
	change(&f)
	change(&w)
	want(&w)
	g, e := Do(f, x)
	wantFarm(t, what, g, e, w)
}

// wantNot lets x happen to a changed small farm, but it can't.
func wantNot(t *testing.T, what string, change func(f *api.Farm), x api.Happening, want api.Errno) {
	t.Helper()
	f := small(t)
	change(&f)
	g, e := Do(f, x)
	wantErrno(t, what, g, e, want)
}

func nothing(f *api.Farm) {}

// full has as many messages as may be.
func full(f *api.Farm) { f.Net = slices.Repeat([]api.Message{task(0, 0)}, api.MaxNet) }

func leavesDone(f *api.Farm) {
	f.Done = []bool{true, true, false}
	f.Have = []api.Part{one(8), one(9), {}}
}

func TestGive(t *testing.T) {
	wantDo(t, "the first leaf", nothing, at(api.Give, 1), func(f *api.Farm) {
		f.Grants[0] = api.Grant{Worker: 1, Until: 5}
		f.Net = []api.Message{task(1, 0)}
	})
	wantDo(t, "behind what is there", func(f *api.Farm) {
		f.Net = []api.Message{result(1, 1, one(2)), task(1, 1)}
	}, at(api.Give, 0), func(f *api.Farm) {
		f.Grants[0] = api.Grant{Worker: 0, Until: 5}
		f.Net = []api.Message{result(1, 1, one(2)), task(1, 1), task(0, 0)}
	})
	wantDo(t, "to one that does something", func(f *api.Farm) { f.Work[1] = 0 }, at(api.Give, 1), func(f *api.Farm) {
		f.Grants[0] = api.Grant{Worker: 1, Until: 5}
		f.Net = []api.Message{task(1, 0)}
	})
	wantDo(t, "what is granted is passed by", func(f *api.Farm) {
		f.Now, f.Grants[0].Until = 10, 11
	}, at(api.Give, 1), func(f *api.Farm) {
		f.Grants[1] = api.Grant{Worker: 1, Until: 15}
		f.Net = []api.Message{task(1, 1)}
	})
	wantDo(t, "what was granted till now isn't", func(f *api.Farm) {
		f.Now, f.Grants[0].Until = 10, 10
	}, at(api.Give, 1), func(f *api.Farm) {
		f.Grants[0] = api.Grant{Worker: 1, Until: 15}
		f.Net = []api.Message{task(1, 0)}
	})
	wantDo(t, "what is done is passed by", func(f *api.Farm) { f.Done[0] = true }, at(api.Give, 0), func(f *api.Farm) {
		f.Grants[1] = api.Grant{Worker: 0, Until: 5}
		f.Net = []api.Message{task(0, 1)}
	})
	wantDo(t, "a node of two", leavesDone, at(api.Give, 1), func(f *api.Farm) {
		f.Grants[2] = api.Grant{Worker: 1, Until: 5}
		f.Net = []api.Message{task(1, 2)}
	})
	wantDo(t, "at the last tick", func(f *api.Farm) { f.Now = api.MaxSpace }, at(api.Give, 0), func(f *api.Farm) {
		f.Grants[0].Until = api.MaxSpace + api.Lease
		f.Net = []api.Message{task(0, 0)}
	})
	wantDo(t, "what there is no room for is lost, but granted", full, at(api.Give, 1), func(f *api.Farm) {
		f.Grants[0] = api.Grant{Worker: 1, Until: 5}
	})
	wantDo(t, "the last room", func(f *api.Farm) { full(f); f.Net = f.Net[1:] }, at(api.Give, 0), func(f *api.Farm) {
		f.Grants[0].Until = 5
		f.Net = append(f.Net, task(0, 0))
	})
	wantNot(t, "all is done", func(f *api.Farm) { f.Done = []bool{true, true, true} }, at(api.Give, 0), api.ErrLate)
	wantNot(t, "all is granted", func(f *api.Farm) { f.Grants[0].Until, f.Grants[1].Until = 1, 1 }, at(api.Give, 0), api.ErrLate)
	wantNot(t, "one of two isn't done", func(f *api.Farm) { f.Done[1] = true; f.Grants[0].Until = 1 }, at(api.Give, 0), api.ErrLate)
	wantNot(t, "granted to itself", func(f *api.Farm) { leavesDone(f); f.Grants[2] = api.Grant{Worker: 1, Until: 1} }, at(api.Give, 1), api.ErrLate)
}

func TestFinish(t *testing.T) {
	wantDo(t, "a leaf", func(f *api.Farm) { f.Work = []int{0, 1} }, at(api.Finish, 1), func(f *api.Farm) {
		f.Work = []int{0, -1}
		f.Net = []api.Message{result(1, 1, one(2))}
	})
	wantDo(t, "a leaf that is done, whatever it has", func(f *api.Farm) { leavesDone(f); f.Work[0] = 0 }, at(api.Finish, 0), func(f *api.Farm) {
		f.Work[0] = -1
		f.Net = []api.Message{result(0, 0, one(1))}
	})
	wantDo(t, "two", func(f *api.Farm) {
		leavesDone(f)
		f.Work[1], f.Grants[2] = 2, api.Grant{Worker: 0, Until: 9}
		f.Net = []api.Message{task(0, 0)}
	}, at(api.Finish, 1), func(f *api.Farm) {
		f.Work[1] = -1
		f.Net = []api.Message{task(0, 0), result(1, 2, joined(one(8), one(9)))}
	})
	for i := range 2 {
		wantDo(t, "one below isn't done", func(f *api.Farm) {
			leavesDone(f)
			f.Done[i] = false
			f.Work[0] = 2
		}, at(api.Finish, 0), func(f *api.Farm) { f.Work[0] = -1 })
	}
	wantDo(t, "two that have no room in one", func(f *api.Farm) {
		leavesDone(f)
		f.Have[0], f.Have[1] = frags("", api.MaxFrags), frags("", 1)
		f.Work[0] = 2
	}, at(api.Finish, 0), func(f *api.Farm) { f.Work[0] = -1 })
	wantDo(t, "two of one group that have", func(f *api.Farm) {
		leavesDone(f)
		f.Have[0], f.Have[1] = frags("g", api.MaxFrags), frags("g", 1)
		f.Work[0] = 2
	}, at(api.Finish, 0), func(f *api.Farm) {
		f.Work[0] = -1
		f.Net = []api.Message{result(0, 2, frags("g", api.MaxFrags))}
	})
	wantDo(t, "what there is no room for is lost", func(f *api.Farm) { full(f); f.Work[0] = 0 }, at(api.Finish, 0), func(f *api.Farm) { f.Work[0] = -1 })
	wantDo(t, "a node over others that aren't its leaves", func(f *api.Farm) {
		*f, _ = New([]api.Part{one(1), one(2), one(3)}, []api.Node{leaf(2), leaf(0), leaf(1), over(2, 0), over(1, 3)}, 1)
		f.Done = []bool{true, true, true, true, false}
		f.Have = []api.Part{one(3), one(1), one(2), joined(one(2), one(3)), {}}
		f.Work[0] = 4
	}, at(api.Finish, 0), func(f *api.Farm) {
		f.Work[0] = -1
		f.Net = []api.Message{result(0, 4, joined(one(1), one(2), one(3)))}
	})
	wantNot(t, "it does nothing", func(f *api.Farm) { f.Work = []int{0, -1} }, at(api.Finish, 1), api.ErrLate)
}

func TestFall(t *testing.T) {
	wantDo(t, "what it does is forgotten", func(f *api.Farm) { f.Work = []int{0, 1}; f.Grants[1] = api.Grant{Worker: 1, Until: 3} }, at(api.Fall, 1), func(f *api.Farm) { f.Work[1] = -1 })
	wantDo(t, "it does nothing", nothing, at(api.Fall, 1), nothing)
}

func TestArrive(t *testing.T) {
	wantDo(t, "a task", func(f *api.Farm) { f.Net = []api.Message{task(0, 0), task(1, 2), task(0, 1)} }, to(api.Arrive, 1), func(f *api.Farm) {
		f.Net = []api.Message{task(0, 0), task(0, 1)}
		f.Work = []int{-1, 2}
	})
	wantDo(t, "a task to one that does something", func(f *api.Farm) {
		f.Net = []api.Message{task(1, 2)}
		f.Work = []int{-1, 0}
	}, to(api.Arrive, 0), func(f *api.Farm) { f.Net = nil })
	wantDo(t, "a task that is done", func(f *api.Farm) { f.Net = []api.Message{task(1, 0)}; f.Done[0] = true }, to(api.Arrive, 0), func(f *api.Farm) {
		f.Net = nil
		f.Work[1] = 0
	})
	wantDo(t, "a result", func(f *api.Farm) {
		f.Net = []api.Message{task(0, 0), result(0, 1, one(7))}
		f.Grants = []api.Grant{{Worker: 1, Until: 3}, {Worker: 1, Until: 4}, {Worker: 1, Until: 5}}
		f.Work = []int{1, 1}
	}, to(api.Arrive, 1), func(f *api.Farm) {
		f.Net = f.Net[:1]
		f.Grants[1] = api.Grant{}
		f.Done[1] = true
		f.Have[1] = one(7)
	})
	wantDo(t, "a result in the place of what it has", func(f *api.Farm) {
		f.Net = []api.Message{result(0, 2, api.Part{})}
		f.Have[2] = one(7)
	}, to(api.Arrive, 0), func(f *api.Farm) {
		f.Net = nil
		f.Done[2] = true
		f.Have[2] = api.Part{}
	})
	wantDo(t, "a result of what is done", func(f *api.Farm) {
		leavesDone(f)
		f.Net = []api.Message{result(0, 1, one(7))}
		f.Grants[1] = api.Grant{Worker: 1, Until: 4}
	}, to(api.Arrive, 0), func(f *api.Farm) { f.Net = nil })
}

func TestLose(t *testing.T) {
	for k := range 3 {
		wantDo(t, "lost", func(f *api.Farm) { f.Net = []api.Message{task(0, 0), result(0, 1, one(1)), task(1, 2)} }, to(api.Lose, k), func(f *api.Farm) {
			f.Net = slices.Delete(f.Net, k, k+1)
		})
	}
}

func TestDouble(t *testing.T) {
	for k := range 3 {
		wantDo(t, "doubled", func(f *api.Farm) { f.Net = []api.Message{task(0, 0), result(0, 1, one(1)), task(1, 2)} }, to(api.Double, k), func(f *api.Farm) {
			f.Net = append(f.Net, f.Net[k])
		})
	}
	wantDo(t, "the last room", func(f *api.Farm) { full(f); f.Net = f.Net[1:] }, to(api.Double, 0), full)
	wantNot(t, "no room", full, to(api.Double, 0), api.ErrFull)
	wantNot(t, "no room for none", full, to(api.Double, api.MaxNet), api.ErrWho)
}

func TestTick(t *testing.T) {
	wantDo(t, "the first one", nothing, at(api.Tick, 0), func(f *api.Farm) { f.Now = 1 })
	wantDo(t, "whoever and whatever", nothing, api.Happening{Kind: api.Tick, Worker: -9, K: 99}, func(f *api.Farm) { f.Now = 1 })
	wantDo(t, "the last one", func(f *api.Farm) { f.Now = api.MaxSpace - 1 }, at(api.Tick, 0), func(f *api.Farm) { f.Now = api.MaxSpace })
	wantNot(t, "behind the last one", func(f *api.Farm) { f.Now = api.MaxSpace }, at(api.Tick, 0), api.ErrFull)
}

func TestAgain(t *testing.T) {
	busy := func(f *api.Farm) {
		leavesDone(f)
		f.Grants = []api.Grant{{Worker: 1}, {Worker: 1, Until: 4}, {Until: 5}}
		f.Work, f.Net, f.Now = []int{1, 2}, []api.Message{task(0, 0)}, 3
	}
	wantDo(t, "granted", busy, at(api.Again, 0), func(f *api.Farm) { f.Grants = make([]api.Grant, 3) })
	wantDo(t, "whoever and whatever", busy, api.Happening{Kind: api.Again, Worker: -9, K: 99}, func(f *api.Farm) { f.Grants = make([]api.Grant, 3) })
	wantDo(t, "not granted", nothing, at(api.Again, 0), nothing)
}

func TestDoWrong(t *testing.T) {
	for _, kind := range []int{0, -1, 9, math.MinInt, math.MaxInt} {
		wantNot(t, "no kind", nothing, at(kind, 0), api.ErrForm)
		wantNot(t, "no kind, ahead of no worker", nothing, api.Happening{Kind: kind, Worker: 9, K: 9}, api.ErrForm)
	}
	for _, kind := range []int{api.Give, api.Finish, api.Fall} {
		for _, worker := range []int{-1, 2, math.MinInt, math.MaxInt} {
			wantNot(t, "no worker", nothing, at(kind, worker), api.ErrWho)
			wantNot(t, "no worker, ahead of all else", func(f *api.Farm) { f.Done = []bool{true, true, true} }, at(kind, worker), api.ErrWho)
		}
	}
	one := func(f *api.Farm) { f.Net = []api.Message{task(0, 0)} }
	for _, kind := range []int{api.Arrive, api.Lose, api.Double} {
		wantNot(t, "no messages", nothing, to(kind, 0), api.ErrWho)
		for _, k := range []int{-1, 1, math.MinInt, math.MaxInt} {
			wantNot(t, "no such message", one, to(kind, k), api.ErrWho)
		}
	}
}

// slowDo is Do of a farm that is right, as the document's words go; lists are shared as it happens.
func slowDo(f api.Farm, x api.Happening) (api.Farm, api.Errno) {
	f.Done, f.Have, f.Grants = slices.Clone(f.Done), slices.Clone(f.Have), slices.Clone(f.Grants)
	f.Work, f.Net = slices.Clone(f.Work), slices.Clone(f.Net)
	if x.Kind < 1 || x.Kind > 8 {
		return api.Farm{}, api.ErrForm
	}
	if (x.Kind == api.Give || x.Kind == api.Finish || x.Kind == api.Fall) && (x.Worker < 0 || x.Worker >= len(f.Work)) {
		return api.Farm{}, api.ErrWho
	}
	if (x.Kind == api.Arrive || x.Kind == api.Lose || x.Kind == api.Double) && (x.K < 0 || x.K >= len(f.Net)) {
		return api.Farm{}, api.ErrWho
	}
	sent := f.Net
	switch x.Kind {
	case api.Give:
		first := -1
		for i, n := range f.Plan {
			ready := !f.Done[i] && (n.Leaf >= 0 || f.Done[n.Left] && f.Done[n.Right])
			if first < 0 && ready && !(f.Grants[i].Until > f.Now) {
				first = i
			}
		}
		if first < 0 {
			return api.Farm{}, api.ErrLate
		}
		f.Grants[first] = api.Grant{Worker: x.Worker, Until: f.Now + 5}
		sent = append(sent, task(x.Worker, first))
	case api.Finish:
		n := f.Work[x.Worker]
		if n == -1 {
			return api.Farm{}, api.ErrLate
		}
		f.Work[x.Worker] = -1
		if node := f.Plan[n]; node.Leaf >= 0 {
			sent = append(sent, result(x.Worker, n, f.Parts[node.Leaf]))
		} else if p, e := part.Join(f.Have[node.Left], f.Have[node.Right]); e == api.OK && f.Done[node.Left] && f.Done[node.Right] {
			sent = append(sent, result(x.Worker, n, p))
		}
	case api.Fall:
		f.Work[x.Worker] = -1
	case api.Double:
		if len(f.Net) == 20 {
			return api.Farm{}, api.ErrFull
		}
		sent = append(sent, f.Net[x.K])
	case api.Arrive, api.Lose:
		m := f.Net[x.K]
		sent = append(slices.Clone(f.Net[:x.K]), f.Net[x.K+1:]...)
		if x.Kind == api.Arrive && m.Kind == api.Task && f.Work[m.Worker] == -1 {
			f.Work[m.Worker] = m.N
		}
		if x.Kind == api.Arrive && m.Kind == api.Result && !f.Done[m.N] {
			f.Done[m.N], f.Have[m.N], f.Grants[m.N] = true, m.P, api.Grant{}
		}
	case api.Tick:
		if f.Now == 65536 {
			return api.Farm{}, api.ErrFull
		}
		f.Now++
	case api.Again:
		f.Grants = make([]api.Grant, len(f.Grants))
	}
	if len(sent) <= 20 {
		f.Net = sent
	}
	return f, api.OK
}

// some is a part by chance; many groups are alike, and some parts are so great that few of them have room in one.
func some(r *rand.Rand) api.Part {
	var p api.Part
	n := r.Intn(5)
	if r.Intn(10) == 0 {
		n = 20 + r.Intn(api.MaxFrags-19)
	}
	for range n {
		f := api.Frag{Sect: api.Data, Align: 1 << r.Intn(4), Bytes: make([]byte, 1+r.Intn(4))}
		r.Read(f.Bytes)
		f.Group = []string{"", "", "a", "b", "c"}[r.Intn(5)]
		if r.Intn(3) == 0 {
			f.Relocs = []api.Reloc{{Kind: api.Abs1, Frag: r.Intn(n+1) - 1}}
		}
		p.Frags = append(p.Frags, f)
		if r.Intn(3) == 0 {
			p.Defs = append(p.Defs, api.Def{Name: "x", Kind: api.Weak, Frag: r.Intn(n)})
		}
	}
	if r.Intn(3) == 0 {
		p.Defs = append(p.Defs, api.Def{Name: "c", Kind: api.Common, Size: 1 + r.Intn(9), Align: 2})
	}
	return p
}

func someParts(r *rand.Rand, n int) []api.Part {
	l := make([]api.Part, n)
	for i := range l {
		l[i] = some(r)
	}
	return l
}

func somePlan(r *rand.Rand, parts int) []api.Node {
	picks := make([]int, r.Intn(parts+1))
	for i := range picks {
		picks[i] = r.Intn(40)
	}
	l, _ := plan.Make(parts, picks)
	return l
}

// someFarm is a farm by chance, whether or not one comes to be so.
func someFarm(r *rand.Rand) api.Farm {
	parts := someParts(r, 1+r.Intn(4))
	l := somePlan(r, len(parts))
	f, _ := New(parts, l, 1+r.Intn(api.MaxWork))
	f.Now = []int{0, 1, 7, api.MaxSpace - 1, api.MaxSpace}[r.Intn(5)]
	for i := range l {
		f.Done[i] = r.Intn(3) > 0
		if r.Intn(3) > 0 {
			f.Have[i] = some(r)
		}
		if r.Intn(3) == 0 {
			f.Grants[i] = api.Grant{Worker: r.Intn(len(f.Work)), Until: max(0, f.Now+r.Intn(3)-1)}
		}
	}
	for i := range f.Work {
		f.Work[i] = r.Intn(len(l)+1) - 1
	}
	messages := r.Intn(5)
	if r.Intn(4) == 0 {
		messages = api.MaxNet - r.Intn(2)
	}
	for range messages {
		m := api.Message{Kind: 1 + r.Intn(2), Worker: r.Intn(len(f.Work)), N: r.Intn(len(l))}
		if m.Kind == api.Result {
			m.P = some(r)
		}
		f.Net = append(f.Net, m)
	}
	return f
}

// someHappening is one by chance that is mostly about somebody, or something, that is there.
func someHappening(r *rand.Rand, f api.Farm) api.Happening {
	x := api.Happening{Kind: 1 + r.Intn(8), Worker: r.Intn(len(f.Work)), K: r.Intn(len(f.Net) + 1)}
	if r.Intn(30) == 0 {
		x = api.Happening{Kind: r.Intn(10), Worker: r.Intn(8) - 2, K: r.Intn(26) - 2}
	}
	return x
}

// TestDoSlow: what happens to farms by chance is what the document's words say, and the farm that comes of it is right.
func TestDoSlow(t *testing.T) {
	r := rand.New(rand.NewSource(1))
	seen := map[string]int{}
	for range 6000 {
		f := someFarm(r)
		x := someHappening(r, f)
		before := told(f)
		want, wrong := slowDo(f, x)
		got, e := Do(f, x)
		if e != wrong || told(got) != told(want) {
			t.Fatalf("%+v of %s:\n got %d, %s\nwant %d, %s", x, before, e, told(got), wrong, told(want))
		}
		if told(f) != before {
			t.Fatalf("%+v changes %s", x, before)
		}
		if e == api.OK && Check(got) != api.OK {
			t.Fatalf("%+v of %s: %s is wrong", x, before, told(got))
		}
		seen[fmt.Sprint(x.Kind, e)]++
	}
	for _, k := range []string{"1 0", "1 5", "1 11", "2 0", "2 5", "2 11", "3 0", "3 5", "4 0", "4 5", "5 0", "5 5", "5 10", "6 0", "6 10", "7 0", "7 5", "8 0", "9 4", "0 4"} {
		if seen[k] < 5 {
			t.Errorf("the farms show too little of %s: %v", k, seen)
		}
	}
}

// TestRunIsDo: Run is Do, one after the other, where what has an error changes nothing.
func TestRunIsDo(t *testing.T) {
	r := rand.New(rand.NewSource(2))
	for range 150 {
		f := someFarm(r)
		var script []api.Happening
		var want []api.Errno
		last := f
		for range r.Intn(api.MaxScript + 1) {
			x := someHappening(r, last)
			g, e := Do(last, x)
			if e == api.OK {
				last = g
			}
			script, want = append(script, x), append(want, e)
		}
		got, said, e := Run(f, script)
		wantFarm(t, "run", got, e, last)
		if !slices.Equal(said, want) {
			t.Fatalf("%v of %s: %v, want %v", script, told(f), said, want)
		}
	}
}

func TestRun(t *testing.T) {
	f := small(t)
	g, said, e := Run(f, nil)
	wantFarm(t, "nothing", g, e, f)
	if len(said) != 0 {
		t.Error(said)
	}
	most := slices.Repeat([]api.Happening{at(api.Tick, 0)}, api.MaxScript)
	g, said, e = Run(f, most)
	want := small(t)
	want.Now = api.MaxScript
	wantFarm(t, "as much as may be", g, e, want)
	if !slices.Equal(said, make([]api.Errno, api.MaxScript)) {
		t.Error(said)
	}
	g, said, e = Run(f, append(most, at(api.Tick, 0)))
	wantErrno(t, "too much", g, e, api.ErrMany)
	if said != nil {
		t.Error(said)
	}
	g, said, e = Run(f, []api.Happening{at(9, 0), at(api.Tick, 0), at(api.Finish, 0), to(api.Lose, 0), at(api.Give, 2), at(api.Tick, 0)})
	want.Now = 2
	wantFarm(t, "with errors", g, e, want)
	if !slices.Equal(said, []api.Errno{api.ErrForm, api.OK, api.ErrLate, api.ErrWho, api.ErrWho, api.OK}) {
		t.Error(said)
	}
}

func TestOutcome(t *testing.T) {
	f := small(t)
	f.Have[2] = one(7)
	for _, done := range [][]bool{{false, false, false}, {true, true, false}} {
		f.Done = done
		if p, e := Outcome(f); e != api.ErrLate || !reflect.DeepEqual(p, api.Part{}) {
			t.Errorf("%v: %v, %d", done, p, e)
		}
	}
	for _, done := range [][]bool{{false, false, true}, {true, true, true}} {
		f.Done = done
		if p, e := Outcome(f); e != api.OK || !obj.Same(p, one(7)) {
			t.Errorf("%v: %v, %d", done, p, e)
		}
	}
}

// below are the parts below a node, from left to right.
func below(f api.Farm, i int) []api.Part {
	if n := f.Plan[i]; n.Leaf == -1 {
		return append(below(f, n.Left), below(f, n.Right)...)
	}
	return []api.Part{f.Parts[f.Plan[i].Leaf]}
}

// wantDone: what is done is what Eval says, and, where Eval has an error, All of the parts below each node.
func wantDone(t *testing.T, f api.Farm) {
	t.Helper()
	eval, e := plan.Eval(f.Plan, f.Parts)
	for i, done := range f.Done {
		if !done {
			if !obj.Same(f.Have[i], api.Part{}) {
				t.Fatalf("node %d isn't done, but there: %s", i, told(f))
			}
			continue
		}
		want, wrong := part.All(below(f, i))
		if wrong != api.OK || !obj.Same(f.Have[i], want) || e == api.OK && !obj.Same(f.Have[i], eval[i]) {
			t.Fatalf("node %d: %v, want %v: %s", i, f.Have[i], want, told(f))
		}
	}
}

// work loses all messages of a farm, and goes on in good order for as many rounds as there are nodes.
func work(t *testing.T, f api.Farm) api.Farm {
	t.Helper()
	step := []api.Happening{at(api.Again, 0), at(api.Fall, 0), at(api.Give, 0), to(api.Arrive, 0), at(api.Finish, 0), to(api.Arrive, 0)}
	script := slices.Repeat([]api.Happening{to(api.Lose, 0)}, api.MaxNet)
	for range f.Plan {
		script = append(script, step...)
		g, _, e := Run(f, script)
		if e != api.OK {
			t.Fatal(e)
		}
		f, script = g, nil
	}
	return f
}

// chaos lets much happen to a farm by chance; it is likelier that work goes on than not.
func chaos(t *testing.T, r *rand.Rand, f api.Farm, wild int) api.Farm {
	t.Helper()
	var script []api.Happening
	for range api.MaxScript {
		kind := []int{api.Give, api.Finish, api.Arrive}[r.Intn(3)]
		if r.Intn(wild) == 0 {
			kind = 1 + r.Intn(8)
		}
		k := 0
		if r.Intn(2) == 0 {
			k = r.Intn(6)
		}
		script = append(script, api.Happening{Kind: kind, Worker: r.Intn(len(f.Work)), K: k})
	}
	g, said, e := Run(f, script)
	if e != api.OK || len(said) != len(script) {
		t.Fatal(e, said)
	}
	return g
}

// TestWhateverHappens: P11.4: whatever happens from New on, what is done is what Eval says, and the outcome that of All.
func TestWhateverHappens(t *testing.T) {
	r := rand.New(rand.NewSource(3))
	fine, halfway, stuck := 0, 0, 0
	for range 600 {
		parts := someParts(r, 1+r.Intn(api.MaxItems))
		f, e := New(parts, somePlan(r, len(parts)), 1+r.Intn(api.MaxWork))
		if e != api.OK {
			t.Fatal(e)
		}
		wild := 1 + r.Intn(6)
		for range r.Intn(4) {
			f = chaos(t, r, f, wild)
			wantDone(t, f)
		}
		if slices.Contains(f.Done, true) && slices.Contains(f.Done, false) {
			halfway++
		}
		f = work(t, f)
		wantDone(t, f)
		_, full := plan.Eval(f.Plan, parts)
		p, e := Outcome(f)
		if full != api.OK {
			stuck++
			if e != api.ErrLate {
				t.Fatalf("where Eval has an error: %v, %d", p, e)
			}
			continue
		}
		fine++
		if want, wrong := part.All(parts); e != wrong || !obj.Same(p, want) {
			t.Fatalf("%v, %d, want %v, %d", p, e, want, wrong)
		}
	}
	if fine < 200 || halfway < 100 || stuck < 20 {
		t.Errorf("the farms show too little: %d fine, %d done in part, %d without room", fine, halfway, stuck)
	}
}

// TestForgottenWork: one that falls, one whose task is lost, and one that is late: all is done in the end, once.
func TestForgottenWork(t *testing.T) {
	f := small(t)
	do := func(want api.Errno, x api.Happening) {
		t.Helper()
		g, e := Do(f, x)
		if e != want {
			t.Fatalf("%+v: %d, want %d", x, e, want)
		}
		if e == api.OK {
			f = g
		}
	}
	do(api.OK, at(api.Give, 0))      // node 0 to worker 0
	do(api.OK, to(api.Arrive, 0))    // it comes
	do(api.OK, at(api.Give, 1))      // node 1 to worker 1
	do(api.OK, to(api.Lose, 0))      // it doesn't come
	do(api.ErrLate, at(api.Give, 1)) // both are granted
	do(api.OK, at(api.Fall, 0))
	for range api.Lease - 1 {
		do(api.OK, at(api.Tick, 0))
	}
	do(api.ErrLate, at(api.Give, 1))
	do(api.OK, at(api.Tick, 0))
	do(api.OK, at(api.Give, 1)) // the grants have run out
	if f.Grants[0] != (api.Grant{Worker: 1, Until: 10}) {
		t.Fatal(f.Grants)
	}
	do(api.OK, at(api.Give, 0))
	do(api.OK, to(api.Arrive, 1))
	do(api.OK, to(api.Arrive, 0))
	do(api.OK, at(api.Finish, 0))
	do(api.OK, to(api.Double, 0))
	do(api.OK, at(api.Finish, 1))
	do(api.OK, to(api.Arrive, 2))
	do(api.OK, to(api.Arrive, 0))
	do(api.OK, at(api.Give, 0))
	do(api.OK, to(api.Arrive, 0)) // the result that was doubled, behind its time
	do(api.OK, to(api.Arrive, 0))
	do(api.OK, at(api.Finish, 0))
	do(api.OK, to(api.Arrive, 0))
	do(api.ErrLate, at(api.Give, 0))
	if p, e := Outcome(f); e != api.OK || !obj.Same(p, joined(one(1), one(2))) || len(f.Net) != 0 {
		t.Errorf("%v, %d, %v", p, e, f.Net)
	}
}

// room makes a list anew, with spare room behind it that has something in it.
func room[T any](junk T, l ...T) []T {
	return append(slices.Clone(l), junk)[:len(l)]
}

func roomyPart(b byte) api.Part {
	f := api.Frag{Sect: api.Data, Align: 1, Bytes: room(99, b, b), Relocs: room(api.Reloc{Kind: 77}, api.Reloc{Kind: api.Abs1})}
	return api.Part{Frags: room(api.Frag{Sect: 77}, f), Defs: room(api.Def{Kind: 77}, api.Def{Name: "x", Kind: api.Weak})}
}

// roomy is a farm with spare room behind each list, with as much in it as may be of three nodes.
func roomy() api.Farm {
	var junk api.Message
	return api.Farm{
		Parts:  room(api.Part{Defs: make([]api.Def, 1)}, roomyPart(1), roomyPart(2)),
		Plan:   room(leaf(9), two()...),
		Done:   room(true, true, true, false),
		Have:   room(api.Part{Defs: make([]api.Def, 1)}, roomyPart(3), roomyPart(4), roomyPart(5)),
		Grants: room(api.Grant{Until: 7}, api.Grant{Until: 4}, api.Grant{Until: 3}, api.Grant{Until: 0}),
		Work:   room(9, 2, 0, -1),
		Net:    room(junk, task(2, 0), result(0, 2, roomyPart(6)), task(1, 1), result(0, 0, roomyPart(7))),
	}
}

// span is memory that a list has, its spare room too.
type span struct {
	from, to uintptr
	what     string
}

// spans are all lists in a value, those in their spare room too.
func spans(v reflect.Value, what string) []span {
	var l []span
	switch v.Kind() {
	case reflect.Struct:
		for i := range v.NumField() {
			l = append(l, spans(v.Field(i), what+"."+v.Type().Field(i).Name)...)
		}
	case reflect.Slice:
		if v.Cap() == 0 {
			return nil
		}
		from := v.Pointer()
		l = append(l, span{from, from + uintptr(v.Cap())*v.Type().Elem().Size(), what})
		v = v.Slice(0, v.Cap())
		for i := range v.Len() {
			l = append(l, spans(v.Index(i), fmt.Sprintf("%s[%d]", what, i))...)
		}
	}
	return l
}

// wantApart: no two lists in what is told share memory.
func wantApart(t *testing.T, what string, values ...any) {
	t.Helper()
	var l []span
	for i, x := range values {
		l = append(l, spans(reflect.ValueOf(x), fmt.Sprint(i))...)
	}
	for i, a := range l {
		for _, b := range l[:i] {
			if a.from < b.to && b.from < a.to {
				t.Errorf("%s: %s and %s share memory", what, b.what, a.what)
			}
		}
	}
}

// whole writes all that a value has, with what is in the spare room of its lists.
func whole(v reflect.Value) string {
	var b strings.Builder
	switch v.Kind() {
	case reflect.Struct:
		for i := range v.NumField() {
			b.WriteString(whole(v.Field(i)) + ";")
		}
	case reflect.Slice:
		v = v.Slice(0, v.Cap())
		for i := range v.Len() {
			b.WriteString(whole(v.Index(i)) + ",")
		}
	default:
		fmt.Fprint(&b, v)
	}
	return b.String()
}

// TestOnlyReads: P2: what is handed in stays as it is; no list that is answered shares memory with it, or with another one.
func TestOnlyReads(t *testing.T) {
	f := roomy()
	script := room(at(99, 9))
	for kind := 1; kind <= 8; kind++ {
		for n := range 4 {
			script = append(script, api.Happening{Kind: kind, Worker: min(n, 2), K: n})
		}
	}
	before, asked := whole(reflect.ValueOf(f)), whole(reflect.ValueOf(script))
	if e := Check(f); e != api.OK {
		t.Fatal(e)
	}
	for _, x := range script {
		g, e := Do(f, x)
		wantApart(t, fmt.Sprintf("%+v: %d", x, e), f, g)
		h, said, e := Run(f, []api.Happening{x, x, to(api.Double, 0), at(api.Finish, 0), to(api.Arrive, 0), to(api.Lose, 0), x})
		wantApart(t, fmt.Sprintf("%+v, more: %d", x, e), f, h, said)
	}
	g, said, e := Run(f, script)
	wantApart(t, "all", f, script, g, said)
	if e != api.OK {
		t.Error(e)
	}
	f.Done[2] = true
	p, e := Outcome(f)
	f.Done[2] = false
	wantApart(t, "outcome", f, p)
	if e != api.OK {
		t.Error(e)
	}
	g, e = New(f.Parts, f.Plan, 3)
	wantApart(t, "new", f, g)
	if e != api.OK {
		t.Error(e)
	}
	if whole(reflect.ValueOf(f)) != before || whole(reflect.ValueOf(script)) != asked {
		t.Error("what was handed in was changed")
	}
}

// TestSameParts: farms whose lists share memory where they are handed in come out without.
func TestSameParts(t *testing.T) {
	p := roomyPart(1)
	f, e := New([]api.Part{p, p}, two(), 1)
	wantApart(t, "new", p, f)
	f.Have = []api.Part{p, p, p}
	f.Net = []api.Message{result(0, 0, p), result(0, 1, p)}
	g, e2 := Do(f, at(api.Tick, 0))
	wantApart(t, "do", p, g)
	if e != api.OK || e2 != api.OK {
		t.Error(e, e2)
	}
}

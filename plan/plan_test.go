package plan

import (
	"math"
	"math/rand"
	"reflect"
	"slices"
	"strconv"
	"testing"

	"ropewalk/api"
	"ropewalk/obj"
	"ropewalk/part"
)

func leaf(n int) api.Node { return api.Node{Leaf: n} }

func over(left, right int) api.Node { return api.Node{Leaf: -1, Left: left, Right: right} }

// comb is the plan of n parts whose left side is always one part alone.
func comb(n int) []api.Node {
	var l []api.Node
	for i := range n {
		l = append(l, leaf(i))
	}
	for i := n - 2; i >= 0; i-- {
		l = append(l, over(i, len(l)-1))
	}
	return l
}

// shuffled is the same tree, its nodes in some other order in which those below are ahead.
func shuffled(r *rand.Rand, l []api.Node) []api.Node {
	var out []api.Node
	to := map[int]int{}
	for len(out) < len(l) {
		i := r.Intn(len(l))
		n := l[i]
		_, done := to[i]
		left, leftDone := to[n.Left]
		right, rightDone := to[n.Right]
		if n.Leaf == -1 {
			n.Left, n.Right = left, right
		}
		if !done && (n.Leaf != -1 || leftDone && rightDone) {
			to[i] = len(out)
			out = append(out, n)
		}
	}
	return out
}

// somePlan is a plan of n parts by chance.
func somePlan(t *testing.T, r *rand.Rand, n int) []api.Node {
	t.Helper()
	picks := make([]int, r.Intn(n+1))
	for i := range picks {
		picks[i] = r.Intn(60) - 30
	}
	l, e := Make(n, picks)
	if e != api.OK {
		t.Fatalf("%d parts, %v: %d", n, picks, e)
	}
	if r.Intn(2) == 0 {
		l = shuffled(r, l)
	}
	return l
}

// leaves are the leaves below a node, from left to right.
func leaves(l []api.Node, i int) []int {
	if n := l[i]; n.Leaf == -1 {
		return append(leaves(l, n.Left), leaves(l, n.Right)...)
	}
	return []int{l[i].Leaf}
}

func TestCheck(t *testing.T) {
	for what, x := range map[string]struct {
		l     []api.Node
		parts int
	}{
		"one part":                   {[]api.Node{leaf(0)}, 1},
		"two":                        {[]api.Node{leaf(0), leaf(1), over(0, 1)}, 2},
		"two, the right one first":   {[]api.Node{leaf(1), leaf(0), over(1, 0)}, 2},
		"three":                      {comb(3), 3},
		"both sides":                 {[]api.Node{leaf(0), leaf(1), over(0, 1), leaf(2), leaf(3), over(3, 4), over(2, 5)}, 4},
		"the right side first":       {[]api.Node{leaf(3), leaf(2), over(1, 0), leaf(1), leaf(0), over(4, 3), over(5, 2)}, 4},
		"as many parts as may be":    {comb(api.MaxItems), api.MaxItems},
		"one part fewer than may be": {comb(api.MaxItems - 1), api.MaxItems - 1},
	} {
		if e := Check(x.l, x.parts); e != api.OK {
			t.Errorf("%s: %d", what, e)
		}
	}
}

// TestCheckWrong: one thing that is wrong, at the edge.
func TestCheckWrong(t *testing.T) {
	two := []api.Node{leaf(0), leaf(1), over(0, 1)}
	for _, x := range []struct {
		what  string
		l     []api.Node
		parts int
		want  api.Errno
	}{
		{"no parts", []api.Node{leaf(0)}, 0, api.ErrRange},
		{"fewer than none", []api.Node{leaf(0)}, -1, api.ErrRange},
		{"far fewer than none", []api.Node{leaf(0)}, math.MinInt, api.ErrRange},
		{"one part too many", comb(api.MaxItems + 1)[:2*api.MaxItems-1], api.MaxItems + 1, api.ErrRange},
		{"far too many parts", two, math.MaxInt, api.ErrRange},
		{"one node too many", append(comb(api.MaxItems), over(0, 1)), api.MaxItems, api.ErrMany},
		{"no nodes", nil, 1, api.ErrForm},
		{"no nodes, not nil", []api.Node{}, 1, api.ErrForm},

		{"a leaf that is no part", []api.Node{leaf(0), leaf(2), over(0, 1)}, 2, api.ErrRange},
		{"a leaf far off", []api.Node{leaf(math.MaxInt)}, 1, api.ErrRange},
		{"a leaf alone that is no part", []api.Node{leaf(1)}, 1, api.ErrRange},
		{"a leaf with a left", []api.Node{leaf(0), {Leaf: 1, Left: -1}, over(0, 1)}, 2, api.ErrRange},
		{"a leaf with a left ahead", []api.Node{leaf(0), leaf(1), {Leaf: 2, Left: 1}, over(0, 1), over(3, 2)}, 3, api.ErrRange},
		{"a leaf with a right", []api.Node{{Leaf: 0, Right: 1}, leaf(1), over(0, 1)}, 2, api.ErrRange},
		{"a leaf with a right ahead", []api.Node{leaf(0), leaf(1), {Leaf: 2, Right: 1}, over(0, 1), over(3, 2)}, 3, api.ErrRange},
		{"neither a leaf nor not", []api.Node{leaf(0), leaf(1), {Leaf: -2, Right: 1}}, 2, api.ErrRange},
		{"far below a leaf", []api.Node{{Leaf: math.MinInt}}, 1, api.ErrRange},
		{"a left below the nodes", []api.Node{leaf(0), leaf(1), over(-1, 1)}, 2, api.ErrRange},
		{"a left that is the node", []api.Node{leaf(0), leaf(1), over(2, 1)}, 2, api.ErrRange},
		{"a left behind it", []api.Node{leaf(0), over(2, 0), leaf(1)}, 2, api.ErrRange},
		{"a left far off", []api.Node{leaf(0), leaf(1), over(math.MaxInt, 1)}, 2, api.ErrRange},
		{"a right below the nodes", []api.Node{leaf(0), leaf(1), over(0, -1)}, 2, api.ErrRange},
		{"a right that is the node", []api.Node{leaf(0), leaf(1), over(0, 2)}, 2, api.ErrRange},
		{"a right behind it", []api.Node{leaf(0), over(0, 2), leaf(1)}, 2, api.ErrRange},
		{"a right far off", []api.Node{leaf(0), leaf(1), over(0, math.MinInt)}, 2, api.ErrRange},
		{"the first one over what isn't there", []api.Node{over(0, 0)}, 1, api.ErrRange},

		{"a node below none", []api.Node{leaf(0), leaf(0)}, 1, api.ErrForm},
		{"a node of two below none", []api.Node{leaf(0), leaf(1), over(0, 1), leaf(0), leaf(1), over(3, 4)}, 2, api.ErrForm},
		{"the last one isn't over all", []api.Node{leaf(0), leaf(1), over(0, 1), leaf(0)}, 2, api.ErrForm},
		{"a node below two", []api.Node{leaf(0), leaf(1), over(0, 1), over(0, 2)}, 2, api.ErrForm},
		{"a node twice below one", []api.Node{leaf(0), over(0, 0)}, 1, api.ErrForm},
		{"a node over a leaf, twice", []api.Node{leaf(0), leaf(1), over(0, 1), over(2, 2)}, 2, api.ErrForm},
		{"another order", []api.Node{leaf(0), leaf(1), over(1, 0)}, 2, api.ErrForm},
		{"another order above", []api.Node{leaf(0), leaf(1), leaf(2), over(1, 2), over(3, 0)}, 3, api.ErrForm},
		{"a part twice", []api.Node{leaf(0), leaf(0), over(0, 1)}, 2, api.ErrForm},
		{"a part is lacking at the end", two, 3, api.ErrForm},
		{"a part is lacking ahead", []api.Node{leaf(1)}, 2, api.ErrForm},
		{"a part is lacking between", []api.Node{leaf(0), leaf(2), over(0, 1)}, 3, api.ErrForm},
		{"a part too many", []api.Node{leaf(0), leaf(1), over(0, 1), leaf(1), over(2, 3)}, 2, api.ErrForm},
	} {
		if e := Check(x.l, x.parts); e != x.want {
			t.Errorf("%s: %d, want %d", x.what, e, x.want)
		}
	}
}

// TestCheckOrder: of several things that are wrong, the one that is told first is the answer.
func TestCheckOrder(t *testing.T) {
	many := slices.Repeat([]api.Node{leaf(99)}, 2*api.MaxItems)
	for _, x := range []struct {
		what  string
		l     []api.Node
		parts int
		want  api.Errno
	}{
		{"no parts, ahead of too many nodes", many, 0, api.ErrRange},
		{"too many parts, ahead of too many nodes", many, api.MaxItems + 1, api.ErrRange},
		{"no parts, ahead of no nodes", nil, 0, api.ErrRange},
		{"too many nodes, ahead of what they are", many, 1, api.ErrMany},
		{"too many nodes, ahead of their form", slices.Repeat([]api.Node{leaf(0)}, 2*api.MaxItems), 1, api.ErrMany},
		{"what the last one is, ahead of the form", []api.Node{leaf(0), leaf(0), leaf(0), over(0, 3)}, 1, api.ErrRange},
		{"what the first one is, ahead of the form", []api.Node{leaf(7), leaf(0), leaf(0)}, 2, api.ErrRange},
	} {
		if e := Check(x.l, x.parts); e != x.want {
			t.Errorf("%s: %d, want %d", x.what, e, x.want)
		}
	}
}

// TestCheckEnds: a plan whose nodes are each twice below the next would have very many leaves.
func TestCheckEnds(t *testing.T) {
	l := []api.Node{leaf(0)}
	for len(l) < 2*api.MaxItems-1 {
		l = append(l, over(len(l)-1, len(l)-1))
	}
	if e := Check(l, api.MaxItems); e != api.ErrForm {
		t.Error(e)
	}
}

// slowCheck is Check as the document's words go.
func slowCheck(l []api.Node, parts int) api.Errno {
	if parts < 1 || parts > 12 {
		return api.ErrRange
	}
	if len(l) > 23 {
		return api.ErrMany
	}
	if len(l) == 0 {
		return api.ErrForm
	}
	for i, n := range l {
		if n.Leaf >= parts || n.Leaf >= 0 && (n.Left != 0 || n.Right != 0) {
			return api.ErrRange
		}
		if n.Leaf < -1 || n.Leaf == -1 && (n.Left < 0 || n.Left >= i || n.Right < 0 || n.Right >= i) {
			return api.ErrRange
		}
	}
	for i := range l {
		others := 0
		for _, n := range l {
			if n.Leaf == -1 && (n.Left == i || n.Right == i) {
				others++
			}
		}
		if i < len(l)-1 && others != 1 || i == len(l)-1 && others != 0 {
			return api.ErrForm
		}
	}
	var want []int
	for i := range parts {
		want = append(want, i)
	}
	if !slices.Equal(leaves(l, len(l)-1), want) {
		return api.ErrForm
	}
	return api.OK
}

// TestCheckAll: every plan of up to three nodes with small numbers is told as the document's words go.
func TestCheckAll(t *testing.T) {
	var nodes []api.Node
	for n := range 4 * 5 * 5 {
		nodes = append(nodes, api.Node{Leaf: n%4 - 2, Left: n/4%5 - 1, Right: n/20 - 1})
	}
	told := map[api.Errno]int{}
	look := func(l ...api.Node) {
		for parts := 1; parts <= 2; parts++ {
			got, want := Check(l, parts), slowCheck(l, parts)
			if got != want {
				t.Fatalf("%v of %d: %d, want %d", l, parts, got, want)
			}
			told[got]++
		}
	}
	for _, a := range nodes {
		look(a)
		for _, b := range nodes {
			look(a, b)
			for _, c := range nodes {
				look(a, b, c)
			}
		}
	}
	// One part alone, and two of two in two orders of their leaves.
	if told[api.OK] != 3 {
		t.Errorf("%d plans are right", told[api.OK])
	}
}

// TestCheckChanged: plans by chance, with some numbers changed, are told as the document's words go.
func TestCheckChanged(t *testing.T) {
	r := rand.New(rand.NewSource(1))
	told := map[api.Errno]int{}
	for range 30000 {
		parts := 1 + r.Intn(api.MaxItems)
		l := somePlan(t, r, parts)
		for range r.Intn(4) {
			a, b := r.Intn(len(l)), r.Intn(len(l))
			switch r.Intn(7) {
			case 0:
				l[a].Leaf += r.Intn(3) - 1
			case 1:
				l[a].Left += r.Intn(3) - 1
			case 2:
				l[a].Right += r.Intn(3) - 1
			case 3:
				l[a].Left, l[b].Right = l[b].Right, l[a].Left
			case 4:
				l[a].Leaf, l[b].Leaf = l[b].Leaf, l[a].Leaf
			case 5:
				l = slices.Delete(l, a, a+1)
				l = slices.Insert(l, min(b, len(l)), leaf(r.Intn(parts)))
			case 6:
				l[a], l[b] = l[b], l[a]
			}
		}
		got, want := Check(l, parts), slowCheck(l, parts)
		if got != want {
			t.Fatalf("%v of %d: %d, want %d", l, parts, got, want)
		}
		told[got]++
	}
	for _, e := range []api.Errno{api.OK, api.ErrRange, api.ErrForm} {
		if told[e] < 2000 {
			t.Errorf("the plans show too little: %v", told)
		}
	}
}

func TestMake(t *testing.T) {
	zigzag := []api.Node{leaf(0), leaf(1), leaf(2), over(1, 2), leaf(3), over(3, 4), over(0, 5)}
	left := []api.Node{leaf(0), leaf(1), over(0, 1), leaf(2), over(2, 3), leaf(3), over(4, 5)}
	balanced := []api.Node{leaf(0), leaf(1), over(0, 1), leaf(2), leaf(3), over(3, 4), over(2, 5)}
	right := []api.Node{leaf(0), leaf(1), leaf(2), leaf(3), over(2, 3), over(1, 4), over(0, 5)}
	inside := []api.Node{leaf(0), leaf(1), leaf(2), over(1, 2), over(0, 3), leaf(3), over(4, 5)}
	for _, x := range []struct {
		parts int
		picks []int
		want  []api.Node
	}{
		{1, nil, []api.Node{leaf(0)}},
		{1, []int{7, 7}, []api.Node{leaf(0)}},
		{2, nil, []api.Node{leaf(0), leaf(1), over(0, 1)}},
		{2, []int{math.MinInt}, []api.Node{leaf(0), leaf(1), over(0, 1)}},
		{2, []int{math.MaxInt}, []api.Node{leaf(0), leaf(1), over(0, 1)}},
		{4, nil, right},
		{4, []int{}, right},
		{4, []int{0, 0, 0}, right},
		{4, []int{0, 1}, zigzag},
		{4, []int{1}, balanced},
		{4, []int{2}, inside},
		{4, []int{2, 1}, left},
		// Three parts are on the right or left: modulo 3, then modulo 2.
		{4, []int{3, 3}, zigzag},
		{4, []int{-1, -1}, left},
		{4, []int{-3, -2}, right},
		{4, []int{-2}, balanced},
		{4, []int{5, 4}, inside},
		{4, []int{math.MaxInt}, balanced},
		{4, []int{math.MinInt}, balanced},
	} {
		l, e := Make(x.parts, x.picks)
		if e != api.OK || !slices.Equal(l, x.want) {
			t.Errorf("%d, %v: %v, %d, want %v", x.parts, x.picks, l, e, x.want)
		}
	}
}

// TestMakePicks: a leaf takes no pick; the left side takes its picks first, a node of two takes one, too.
func TestMakePicks(t *testing.T) {
	l, e := Make(6, []int{2, 1, 9, 1})
	want := []api.Node{leaf(0), leaf(1), over(0, 1), leaf(2), over(2, 3), leaf(3), leaf(4), over(5, 6), leaf(5), over(7, 8), over(4, 9)}
	if e != api.OK || !slices.Equal(l, want) {
		t.Errorf("%v, %d, want %v", l, e, want)
	}
}

func TestMakeWrong(t *testing.T) {
	most := make([]int, 2*api.MaxItems-1)
	if l, e := Make(api.MaxItems, most); e != api.OK || len(l) != 2*api.MaxItems-1 {
		t.Errorf("as much as may be: %v, %d", l, e)
	}
	if l, e := Make(1, most); e != api.OK || len(l) != 1 {
		t.Errorf("as many picks as may be, of one: %v, %d", l, e)
	}
	for _, x := range []struct {
		what  string
		parts int
		picks []int
		want  api.Errno
	}{
		{"none", 0, nil, api.ErrRange},
		{"below none", -1, nil, api.ErrRange},
		{"far below none", math.MinInt, nil, api.ErrRange},
		{"too many", api.MaxItems + 1, nil, api.ErrRange},
		{"far too many", math.MaxInt, nil, api.ErrRange},
		{"too many picks", 1, append(most, 0), api.ErrMany},
		{"too many picks of as many as may be", api.MaxItems, append(most, 0), api.ErrMany},
		{"no parts, ahead of too many picks", 0, append(most, 0), api.ErrRange},
	} {
		if l, e := Make(x.parts, x.picks); l != nil || e != x.want {
			t.Errorf("%s: %v, %d, want %d", x.what, l, e, x.want)
		}
	}
}

// slowMake tells the plan of parts from first on, whose nodes are numbered from at on, and the picks that are left.
func slowMake(first, parts, at int, picks []int) ([]api.Node, []int) {
	if parts == 1 {
		return []api.Node{leaf(first)}, picks
	}
	pick := 0
	if len(picks) > 0 {
		pick, picks = picks[0], picks[1:]
	}
	for pick < 0 {
		pick += parts - 1
	}
	for pick >= parts-1 {
		pick -= parts - 1
	}
	left, picks := slowMake(first, pick+1, at, picks)
	right, picks := slowMake(first+pick+1, parts-pick-1, at+len(left), picks)
	l := append(left, right...)
	return append(l, over(at+len(left)-1, at+len(l)-1)), picks
}

// TestMakeSlow: what is made by chance is what the document's words make, and Check has nothing against it.
func TestMakeSlow(t *testing.T) {
	r := rand.New(rand.NewSource(2))
	for range 5000 {
		parts := 1 + r.Intn(api.MaxItems)
		picks := make([]int, r.Intn(2*api.MaxItems))
		for i := range picks {
			picks[i] = r.Intn(100) - 50
		}
		l, e := Make(parts, picks)
		want, _ := slowMake(0, parts, 0, picks)
		if e != api.OK || !slices.Equal(l, want) {
			t.Fatalf("%d, %v: %v, %d, want %v", parts, picks, l, e, want)
		}
		if e := Check(l, parts); e != api.OK {
			t.Fatalf("%d, %v: %v: %d", parts, picks, l, e)
		}
	}
}

// TestMakeShapes: picks lead to every tree of five parts; there are 14.
func TestMakeShapes(t *testing.T) {
	shapes := map[[9]api.Node]int{}
	for n := range 4 * 4 * 4 * 4 {
		l, e := Make(5, []int{n % 4, n / 4 % 4, n / 16 % 4, n / 64})
		if e != api.OK || len(l) != 9 {
			t.Fatal(l, e)
		}
		shapes[[9]api.Node(l)]++
	}
	if len(shapes) != 14 {
		t.Errorf("%d trees", len(shapes))
	}
}

// some is a part by chance; many groups are alike.
func some(r *rand.Rand) api.Part {
	var p api.Part
	frags := r.Intn(6)
	for range frags {
		f := api.Frag{Sect: api.Data, Align: 1 << r.Intn(4), Bytes: make([]byte, r.Intn(9))}
		r.Read(f.Bytes)
		if r.Intn(2) == 0 {
			f.Group = "g" + strconv.Itoa(r.Intn(5))
		}
		for at := range f.Bytes {
			place := api.Reloc{At: at, Kind: api.Abs1, Frag: r.Intn(frags+1) - 1}
			if r.Intn(3) == 0 {
				place.Name, place.Frag = "x", 0
			}
			if len(f.Relocs) < api.MaxRelocs {
				f.Relocs = append(f.Relocs, place)
			}
		}
		p.Frags = append(p.Frags, f)
	}
	for range r.Intn(5) {
		d := api.Def{Name: "y" + strconv.Itoa(r.Intn(9)), Kind: api.Common, Size: 1, Align: 1}
		if frags > 0 && r.Intn(3) > 0 {
			d.Kind, d.Frag, d.Size, d.Align = api.Weak, r.Intn(frags), 0, 0
		}
		p.Defs = append(p.Defs, d)
	}
	return p
}

func someParts(r *rand.Rand, n int) []api.Part {
	var l []api.Part
	for range n {
		l = append(l, some(r))
	}
	return l
}

// frags is a part of n fragments of a group.
func frags(group string, n int) api.Part {
	f := api.Frag{Sect: api.Data, Align: 1, Group: group}
	return api.Part{Frags: slices.Repeat([]api.Frag{f}, n)}
}

func commons(n int) api.Part {
	return api.Part{Defs: slices.Repeat([]api.Def{{Name: "x", Kind: api.Common, Size: 1, Align: 1}}, n)}
}

func wantEval(t *testing.T, what string, l []api.Node, parts []api.Part, want []api.Part) {
	t.Helper()
	got, e := Eval(l, parts)
	if e != api.OK || !slices.EqualFunc(got, want, obj.Same) {
		t.Errorf("%s: %v, %d, want %v", what, got, e, want)
	}
}

func wantEvalError(t *testing.T, what string, l []api.Node, parts []api.Part, want api.Errno) {
	t.Helper()
	if got, e := Eval(l, parts); e != want || got != nil {
		t.Errorf("%s: %v, %d, want nothing, %d", what, got, e, want)
	}
}

func TestEval(t *testing.T) {
	a, b, c := frags("g", 1), frags("g", 2), frags("", 3)
	b.Frags = append(b.Frags, api.Frag{Sect: api.Data, Align: 1, Bytes: []byte{7}, Relocs: []api.Reloc{{Kind: api.Abs1}}})
	b.Defs = []api.Def{{Name: "gone", Kind: api.Strong, Frag: 1}, {Name: "stays", Kind: api.Strong, Frag: 2}}
	dead := api.Frag{Sect: api.Data, Align: 1, Bytes: []byte{7}, Relocs: []api.Reloc{{Kind: api.Abs1, Frag: -1}}}
	ab := api.Part{Frags: append(frags("g", 1).Frags, dead), Defs: []api.Def{{Name: "stays", Kind: api.Strong, Frag: 1}}}
	bc := api.Part{Frags: append(slices.Clone(b.Frags), c.Frags...), Defs: b.Defs}
	abc := api.Part{Frags: append(slices.Clone(ab.Frags), c.Frags...), Defs: ab.Defs}
	parts := []api.Part{a, b, c}
	wantEval(t, "the left ones first", []api.Node{leaf(0), leaf(1), over(0, 1), leaf(2), over(2, 3)}, parts, []api.Part{a, b, ab, c, abc})
	wantEval(t, "the right ones first", comb(3), parts, []api.Part{a, b, c, bc, abc})
	wantEval(t, "the right ones ahead", []api.Node{leaf(2), leaf(1), over(1, 0), leaf(0), over(3, 2)}, parts, []api.Part{c, b, bc, a, abc})
	wantEval(t, "one alone", []api.Node{leaf(0)}, []api.Part{b}, []api.Part{b})
	wantEval(t, "nothing", []api.Node{leaf(0)}, []api.Part{{}}, []api.Part{{}})
	wantEval(t, "nothing in lists", comb(2), []api.Part{{Frags: []api.Frag{}, Defs: []api.Def{}}, {}}, make([]api.Part, 3))
}

func TestEvalWrong(t *testing.T) {
	text := frags("G", 1)                                           // ErrText
	sect := api.Part{Frags: make([]api.Frag, 1)}                    // ErrRange
	who := api.Part{Defs: []api.Def{{Name: "x", Kind: api.Strong}}} // ErrWho
	full := frags("", api.MaxFrags)
	three := []api.Node{leaf(0), leaf(1), over(0, 1), leaf(2), over(2, 3)}
	backward := []api.Node{leaf(2), leaf(1), leaf(0), over(1, 0), over(2, 3)}
	for _, x := range []struct {
		what  string
		l     []api.Node
		parts []api.Part
		want  api.Errno
	}{
		{"no parts", comb(1), nil, api.ErrRange},
		{"too many parts", comb(api.MaxItems), make([]api.Part, api.MaxItems+1), api.ErrRange},
		{"no plan", nil, make([]api.Part, 1), api.ErrForm},
		{"a plan of fewer", comb(2), make([]api.Part, 3), api.ErrForm},
		{"a plan of more", comb(3), make([]api.Part, 2), api.ErrRange},
		{"too many nodes", slices.Repeat(comb(1), 2*api.MaxItems), make([]api.Part, 1), api.ErrMany},
		{"a plan, ahead of a part", comb(2), []api.Part{text, text, text}, api.ErrForm},
		{"the first part", three, []api.Part{text, sect, who}, api.ErrText},
		{"the second part", three, []api.Part{{}, sect, who}, api.ErrRange},
		{"the third part", three, []api.Part{{}, {}, who}, api.ErrWho},
		{"the first part, not the first leaf", backward, []api.Part{text, sect, who}, api.ErrText},
		{"a part, ahead of no room", three, []api.Part{full, full, who}, api.ErrWho},
		{"no room", three, []api.Part{full, frags("", 1), {}}, api.ErrFull},
		{"no room at the end", three, []api.Part{full, {}, frags("", 1)}, api.ErrFull},
		{"no room for names", three, []api.Part{commons(api.MaxDefs), {}, commons(1)}, api.ErrFull},
	} {
		wantEvalError(t, x.what, x.l, x.parts, x.want)
	}
	wantEval(t, "all the room", comb(2), []api.Part{full, {}}, []api.Part{full, {}, full})
	wantEval(t, "all the room for names", comb(2), []api.Part{commons(1), commons(api.MaxDefs - 1)}, []api.Part{commons(1), commons(api.MaxDefs - 1), commons(api.MaxDefs)})
}

// TestNoRoomOnTheWay: P10.3 tells the error of any node, even where All of the parts has none.
func TestNoRoomOnTheWay(t *testing.T) {
	parts := []api.Part{frags("g", 1), frags("g", 40), frags("", 40)}
	wantEvalError(t, "the right ones first", comb(3), parts, api.ErrFull)
	all, e := part.All(parts)
	if e != api.OK {
		t.Fatal(e)
	}
	left := []api.Node{leaf(0), leaf(1), over(0, 1), leaf(2), over(2, 3)}
	wantEval(t, "the left ones first", left, parts, []api.Part{parts[0], parts[1], parts[0], parts[2], all})
}

// noRoom tells whether some node's parts have no room in one.
func noRoom(l []api.Node, parts []api.Part) bool {
	for i := range l {
		below := leaves(l, i)
		if _, e := part.All(parts[below[0] : below[0]+len(below)]); e == api.ErrFull {
			return true
		}
	}
	return false
}

// TestWhateverPlan: P10.4: the last node is All of the parts, and each other one is All of those below it.
func TestWhateverPlan(t *testing.T) {
	r := rand.New(rand.NewSource(3))
	fine, full, late := 0, 0, 0
	for range 3000 {
		parts := someParts(r, 1+r.Intn(api.MaxItems))
		if r.Intn(8) == 0 {
			group := []string{"", "g0", "g1", "g2"}[r.Intn(4)]
			parts[r.Intn(len(parts))] = frags(group, 40+r.Intn(20))
		}
		l := somePlan(t, r, len(parts))
		all, wrong := part.All(parts)
		got, e := Eval(l, parts)
		if wrong != api.OK {
			full++
			wantEvalError(t, "where All has an error", l, parts, wrong)
			continue
		}
		if noRoom(l, parts) {
			late++
			wantEvalError(t, "where a node has an error", l, parts, api.ErrFull)
			continue
		}
		fine++
		if e != api.OK || len(got) != len(l) || !obj.Same(got[len(l)-1], all) {
			t.Fatalf("%v of %v: %v, %d, want %v", l, parts, got, e, all)
		}
		for i := range l {
			below := leaves(l, i)
			want, _ := part.All(parts[below[0] : below[0]+len(below)])
			if !obj.Same(got[i], want) {
				t.Fatalf("%v of %v: node %d: %v, want %v", l, parts, i, got[i], want)
			}
		}
	}
	if fine < 2000 || full < 50 || late < 10 {
		t.Errorf("the parts show too little: %d fine, %d full, %d full on the way alone", fine, full, late)
	}
}

func TestReady(t *testing.T) {
	const o, x = false, true
	l := []api.Node{leaf(0), leaf(1), over(0, 1), leaf(2), over(2, 3)}
	for _, c := range []struct {
		done []bool
		want []int
	}{
		{[]bool{o, o, o, o, o}, []int{0, 1, 3}},
		{[]bool{x, o, o, o, o}, []int{1, 3}},
		{[]bool{o, x, o, o, o}, []int{0, 3}},
		{[]bool{x, x, o, o, o}, []int{2, 3}},
		{[]bool{x, x, o, x, o}, []int{2}},
		{[]bool{x, x, x, o, o}, []int{3}},
		{[]bool{x, x, x, x, o}, []int{4}},
		{[]bool{x, x, x, x, x}, nil},
		// What is done though those below aren't counts as done.
		{[]bool{o, o, x, x, o}, []int{0, 1, 4}},
		{[]bool{o, o, o, o, x}, []int{0, 1, 3}},
		{[]bool{x, x, o, o, x}, []int{2, 3}},
	} {
		got, e := Ready(l, 3, c.done)
		if e != api.OK || !slices.Equal(got, c.want) {
			t.Errorf("%v: %v, %d, want %v", c.done, got, e, c.want)
		}
	}
	if got, e := Ready(comb(1), 1, []bool{o}); e != api.OK || !slices.Equal(got, []int{0}) {
		t.Errorf("one alone: %v, %d", got, e)
	}
	if got, e := Ready(comb(1), 1, []bool{x}); e != api.OK || len(got) != 0 {
		t.Errorf("one alone, done: %v, %d", got, e)
	}
}

func TestReadyWrong(t *testing.T) {
	for _, x := range []struct {
		what  string
		l     []api.Node
		parts int
		done  []bool
		want  api.Errno
	}{
		{"no parts", comb(2), 0, make([]bool, 3), api.ErrRange},
		{"too many parts", comb(2), api.MaxItems + 1, make([]bool, 3), api.ErrRange},
		{"no plan", nil, 1, nil, api.ErrForm},
		{"too many nodes", slices.Repeat(comb(1), 2*api.MaxItems), 1, make([]bool, 2*api.MaxItems), api.ErrMany},
		{"a wrong node", []api.Node{leaf(1)}, 1, make([]bool, 1), api.ErrRange},
		{"a wrong form", comb(2), 3, make([]bool, 3), api.ErrForm},
		{"none done", comb(2), 2, nil, api.ErrForm},
		{"too few done", comb(2), 2, make([]bool, 2), api.ErrForm},
		{"too many done", comb(2), 2, make([]bool, 4), api.ErrForm},
		{"a wrong node, ahead of too few done", []api.Node{leaf(1)}, 1, nil, api.ErrRange},
		{"too many nodes, ahead of too few done", slices.Repeat(comb(1), 2*api.MaxItems), 1, nil, api.ErrMany},
	} {
		if got, e := Ready(x.l, x.parts, x.done); e != x.want || got != nil {
			t.Errorf("%s: %v, %d, want nothing, %d", x.what, got, e, x.want)
		}
	}
}

// TestReadyLeads: whoever does one of what is ready, again and again, comes to the end of all nodes.
func TestReadyLeads(t *testing.T) {
	r := rand.New(rand.NewSource(4))
	for range 500 {
		parts := 1 + r.Intn(api.MaxItems)
		l := somePlan(t, r, parts)
		done := make([]bool, len(l))
		for range l {
			got, e := Ready(l, parts, done)
			if e != api.OK || len(got) == 0 || !slices.IsSorted(got) {
				t.Fatalf("%v, %v: %v, %d", l, done, got, e)
			}
			i := got[r.Intn(len(got))]
			if n := l[i]; done[i] || n.Leaf == -1 && !(done[n.Left] && done[n.Right]) {
				t.Fatalf("%v, %v: %v", l, done, got)
			}
			done[i] = true
		}
		if got, e := Ready(l, parts, done); e != api.OK || len(got) != 0 {
			t.Fatalf("%v: all done: %v, %d", l, got, e)
		}
	}
}

// roomy are two parts with spare room behind each list, with something in it.
func roomy() []api.Part {
	bytes, places := []byte{1, 2, 99}, []api.Reloc{{Kind: api.Abs1}, {Kind: 77}}
	f := api.Frag{Sect: api.Data, Align: 1, Bytes: bytes[:2], Relocs: places[:1]}
	defs := []api.Def{{Name: "x", Kind: api.Weak}, {Kind: 77}}
	a := api.Part{Frags: []api.Frag{f, {Sect: 77}}[:1], Defs: defs[:1]}
	b := api.Part{Frags: []api.Frag{{Sect: api.Zero, Align: 2, Group: "g", Size: 3}, {Sect: 77}}[:1]}
	return []api.Part{a, b, {Defs: defs}}[:2]
}

// whole has all lists as long as their memory, in new memory.
func whole(l []api.Part) []api.Part {
	l = slices.Clone(l[:cap(l)])
	for i, p := range l {
		l[i].Frags = slices.Clone(p.Frags[:cap(p.Frags)])
		l[i].Defs = slices.Clone(p.Defs[:cap(p.Defs)])
		for k, f := range l[i].Frags {
			l[i].Frags[k].Bytes = slices.Clone(f.Bytes[:cap(f.Bytes)])
			l[i].Frags[k].Relocs = slices.Clone(f.Relocs[:cap(f.Relocs)])
		}
	}
	return l
}

// scribble writes over all memory of a part.
func scribble(p api.Part) {
	for _, f := range p.Frags[:cap(p.Frags)] {
		clear(f.Bytes[:cap(f.Bytes)])
		clear(f.Relocs[:cap(f.Relocs)])
	}
	clear(p.Frags[:cap(p.Frags)])
	clear(p.Defs[:cap(p.Defs)])
}

// TestEvalOnlyReads: P2: what is handed in stays as it is; no list that is answered shares memory with it, or with another one.
func TestEvalOnlyReads(t *testing.T) {
	l := []api.Node{leaf(0), leaf(1), over(0, 1), leaf(9)}[:3]
	parts := roomy()
	before := whole(parts)
	want, _ := Eval(l, parts)
	for i := range l {
		got, e := Eval(l, parts)
		if e != api.OK {
			t.Fatal(e)
		}
		scribble(got[i])
		for k := range l {
			if k != i && !obj.Same(got[k], want[k]) {
				t.Errorf("nodes %d and %d share memory", i, k)
			}
		}
		clear(got[:cap(got)])
		if !reflect.DeepEqual(whole(parts), before) {
			t.Errorf("node %d shares memory with what was handed in", i)
		}
	}
	if !slices.Equal(l[:4], []api.Node{leaf(0), leaf(1), over(0, 1), leaf(9)}) {
		t.Error("the plan was changed")
	}
}

// TestOnlyReads: P2, of all other calls.
func TestOnlyReads(t *testing.T) {
	l := []api.Node{leaf(0), leaf(1), over(0, 1), leaf(9)}[:3]
	picks, done := []int{5, 6, 7}[:2], []bool{true, false, false, true}[:3]
	if e := Check(l, 2); e != api.OK {
		t.Error(e)
	}
	first, _ := Make(3, picks)
	again, _ := Make(3, picks)
	clear(first[:cap(first)])
	if Check(again, 3) != api.OK {
		t.Error("plans share memory")
	}
	ready, _ := Ready(l, 2, done)
	once, _ := Ready(l, 2, done)
	clear(ready[:cap(ready)])
	if !slices.Equal(once, []int{1}) {
		t.Error("answers share memory")
	}
	if !slices.Equal(l[:4], []api.Node{leaf(0), leaf(1), over(0, 1), leaf(9)}) {
		t.Error("the plan was changed")
	}
	if !slices.Equal(picks[:3], []int{5, 6, 7}) || !slices.Equal(done[:4], []bool{true, false, false, true}) {
		t.Error("what was handed in was changed")
	}
}

package apply

import (
	"fmt"
	"math"
	"regexp"
	"slices"
	"strings"
	"testing"

	"treillage/api"
	"treillage/forest"
	"treillage/op"
)

func element(name string) op.Op { return op.Op{Kind: op.NewElement, Name: name} }

func text(s string) op.Op { return op.Op{Kind: op.NewText, Text: s} }

func comment(s string) op.Op { return op.Op{Kind: op.NewComment, Text: s} }

func insert(id, to, at int) op.Op { return op.Op{Kind: op.Insert, Id: id, To: to, At: at} }

func remove(id int) op.Op { return op.Op{Kind: op.Remove, Id: id} }

func set(id int, name, s string) op.Op {
	return op.Op{Kind: op.SetAttr, Id: id, Name: name, Text: s}
}

func unset(id int, name string) op.Op { return op.Op{Kind: op.DelAttr, Id: id, Name: name} }

func renew(id int, s string) op.Op { return op.Op{Kind: op.SetText, Id: id, Text: s} }

// sample has nodes of all kinds, below the document and beside it.
func sample() forest.Forest {
	return forest.Forest{
		{Kind: forest.Doc, Parent: -1, Kids: []int{6, 1}},
		{Kind: forest.Element, Name: "div", Attrs: []forest.Attr{{Name: "id", Value: "a"}, {Name: "class", Value: "b c"}, {Name: "k", Value: ""}}, Parent: 0, Kids: []int{3, 2, 4}},
		{Kind: forest.Element, Name: "p", Parent: 1, Kids: []int{5}},
		{Kind: forest.Text, Text: "x", Parent: 1},
		{Kind: forest.Comment, Text: "c", Parent: 1},
		{Kind: forest.Text, Text: "y", Parent: 2},
		{Kind: forest.Comment, Text: "d", Parent: 0},
		{Kind: forest.Element, Name: "q", Parent: -1, Kids: []int{8}},
		{Kind: forest.Element, Name: "r", Parent: 7},
		{Kind: forest.Text, Text: "z", Parent: -1},
		{Kind: forest.Comment, Text: "e", Parent: -1},
	}
}

// turned is sample with something changed.
func turned(turn func(f forest.Forest)) forest.Forest {
	f := sample()
	turn(f)
	return f
}

// loose is the document, and as many comments beside it as make n nodes.
func loose(n int) forest.Forest {
	f := forest.New()
	for len(f) < n {
		f = append(f, forest.Node{Kind: forest.Comment, Parent: -1})
	}
	return f
}

// chain is of n nodes, each below the one ahead of it.
func chain(n int) forest.Forest {
	f := forest.New()
	for len(f) < n {
		f[len(f)-1].Kids = []int{len(f)}
		f = append(f, forest.Node{Kind: forest.Element, Name: "a", Parent: len(f) - 1})
	}
	return f
}

// withAttrs has an element with n attributes, named by letters.
func withAttrs(n int) forest.Forest {
	f := chain(2)
	for i := range n {
		f[1].Attrs = append(f[1].Attrs, forest.Attr{Name: string(rune('a' + i)), Value: "v"})
	}
	return f
}

// kept is a copy that shares nothing with f.
func kept(f forest.Forest) forest.Forest {
	c := slices.Clone(f)
	for i := range c {
		c[i].Attrs = slices.Clone(c[i].Attrs)
		c[i].Kids = slices.Clone(c[i].Kids)
	}
	return c
}

// told has all of a forest, or of operations; lists without elements and nil lists are told alike.
func told(x any) string { return fmt.Sprintf("%+v", x) }

var aName = regexp.MustCompile(`\A[A-Za-z][A-Za-z0-9_-]{0,19}\z`)

// at is a node, or one of no kind.
func at(f forest.Forest, id int) forest.Node {
	if id < 0 || id >= len(f) {
		return forest.Node{Kind: -1, Parent: -1}
	}
	return f[id]
}

// under are id, and all that stand below it: from Kids to Kids, where the program asks from Parent to Parent.
func under(f forest.Forest, id int) []int {
	l := []int{id}
	for i := 0; i < len(l); i++ {
		l = append(l, at(f, l[i]).Kids...)
	}
	return l
}

// errorByRule is what P7.1 says of errors, all of them asked: the first that applies.
func errorByRule(f forest.Forest, o op.Op) api.Errno {
	type fault struct {
		e  api.Errno
		is bool
	}
	id, to := at(f, o.Id), at(f, o.To)
	others, elements, its := 0, 0, 0
	for _, kid := range to.Kids {
		if kid != o.Id {
			others++
		}
		if kid != o.Id && f[kid].Kind == forest.Element {
			elements++
		}
	}
	for _, a := range id.Attrs {
		if a.Name == o.Name {
			its++
		}
	}
	noName, noText := !aName.MatchString(o.Name), len(o.Text) > 60
	noNode, noElement := id.Kind == -1, id.Kind != forest.Element
	full := len(f) >= 60
	faults := map[int][]fault{
		op.NewElement: {{api.ErrName, noName}, {api.ErrFull, full}},
		op.NewText:    {{api.ErrName, noText}, {api.ErrFull, full}},
		op.NewComment: {{api.ErrName, noText}, {api.ErrFull, full}},
		op.Insert: {
			{api.ErrNode, noNode || to.Kind == -1},
			{api.ErrKind, o.Id == 0 || to.Kind >= forest.Text},
			{api.ErrKind, o.To == 0 && (id.Kind == forest.Text || id.Kind == forest.Element && elements > 0)},
			{api.ErrCycle, slices.Contains(under(f, o.Id), o.To)},
			{api.ErrIndex, o.At < 0 || o.At > others},
		},
		op.Remove:  {{api.ErrNode, noNode}, {api.ErrKind, o.Id == 0}, {api.ErrNone, id.Parent == -1}},
		op.SetAttr: {{api.ErrNode, noNode}, {api.ErrKind, noElement}, {api.ErrName, noName || noText}, {api.ErrAttr, its == 0 && len(id.Attrs) >= 8}},
		op.DelAttr: {{api.ErrNode, noNode}, {api.ErrKind, noElement}, {api.ErrAttr, its == 0}},
		op.SetText: {{api.ErrNode, noNode}, {api.ErrKind, id.Kind != forest.Text && id.Kind != forest.Comment}, {api.ErrName, noText}},
	}
	for _, x := range append([]fault{{api.ErrArg, !op.May(o)}}, faults[o.Kind]...) {
		if x.is {
			return x.e
		}
	}
	return api.OK
}

// edge is a node, and where it stands.
type edge struct{ parent, kid int }

// madeByRule is what P7.1 says of an operation without an error: what stands where is taken apart, changed, and put together anew.
func madeByRule(f forest.Forest, o op.Op) forest.Forest {
	f = kept(f)
	var edges []edge
	for id, n := range f {
		for _, kid := range n.Kids {
			if kid != o.Id || o.Kind != op.Insert && o.Kind != op.Remove {
				edges = append(edges, edge{id, kid})
			}
		}
	}
	switch o.Kind {
	case op.NewElement:
		f = append(f, forest.Node{Kind: 1, Name: o.Name})
	case op.NewText, op.NewComment:
		f = append(f, forest.Node{Kind: o.Kind, Text: o.Text})
	case op.Insert:
		edges = withEdge(edges, edge{o.To, o.Id}, o.At)
	case op.SetAttr, op.DelAttr:
		f[o.Id].Attrs = attrsByRule(f[o.Id].Attrs, o)
	case op.SetText:
		f[o.Id].Text = o.Text
	}
	for id := range f {
		f[id].Parent, f[id].Kids = -1, nil
	}
	for _, x := range edges {
		f[x.kid].Parent = x.parent
		f[x.parent].Kids = append(f[x.parent].Kids, x.kid)
	}
	return f
}

// withEdge has x behind so many others of the same parent.
func withEdge(edges []edge, x edge, behind int) []edge {
	var l []edge
	put := false
	for _, y := range edges {
		if y.parent == x.parent {
			if behind == 0 {
				l = append(l, x)
				put = true
			}
			behind--
		}
		l = append(l, y)
	}
	if !put {
		l = append(l, x)
	}
	return l
}

func attrsByRule(attrs []forest.Attr, o op.Op) []forest.Attr {
	var l []forest.Attr
	seen := false
	for _, a := range attrs {
		if a.Name != o.Name {
			l = append(l, a)
		} else if o.Kind == op.SetAttr {
			seen = true
			l = append(l, forest.Attr{Name: o.Name, Value: o.Text})
		}
	}
	if o.Kind == op.SetAttr && !seen {
		l = append(l, forest.Attr{Name: o.Name, Value: o.Text})
	}
	return l
}

// allByRule is what P7.2 says.
func allByRule(f forest.Forest, l []op.Op) (forest.Forest, int, api.Errno) {
	made := f
	for i, o := range l {
		if e := errorByRule(made, o); e != api.OK {
			return f, i, e
		}
		made = madeByRule(made, o)
	}
	return made, len(l), api.OK
}

// makes asks that One, and All of it alone, make want of f, that it may be, and that f stays.
func makes(t *testing.T, f forest.Forest, o op.Op, want forest.Forest) {
	t.Helper()
	was := kept(f)
	g, e := One(f, o)
	if e != api.OK || !forest.Same(g, want) {
		t.Fatalf("One of %s, %q = %s, %d, want %s", told(was), op.Print(o), told(g), e, told(want))
	}
	if !forest.May(g) {
		t.Fatalf("One of %s, %q = %s, which may not be", told(was), op.Print(o), told(g))
	}
	if h, n, e := All(f, []op.Op{o}); e != api.OK || n != 1 || !forest.Same(h, want) {
		t.Fatalf("All of %s, %q = %s, %d, %d", told(was), op.Print(o), told(h), n, e)
	}
	if !forest.Same(f, was) {
		t.Fatalf("%q made of what was handed in %s, it was %s", op.Print(o), told(f), told(was))
	}
}

// fails asks that One, and All of it alone, tell that error, and f as it was.
func fails(t *testing.T, f forest.Forest, o op.Op, want api.Errno) {
	t.Helper()
	was := kept(f)
	if g, e := One(f, o); e != want || !forest.Same(g, was) {
		t.Fatalf("One of %s, %s = %s, %d, want %d", told(was), told(o), told(g), e, want)
	}
	if g, n, e := All(f, []op.Op{o}); e != want || n != 0 || !forest.Same(g, was) {
		t.Fatalf("All of %s, %s = %s, %d, %d, want %d", told(was), told(o), told(g), n, e, want)
	}
	if !forest.Same(f, was) {
		t.Fatalf("%s made of what was handed in %s, it was %s", told(o), told(f), told(was))
	}
}

// isAsRuled holds One against the rule.
func isAsRuled(t *testing.T, f forest.Forest, o op.Op) {
	t.Helper()
	if e := errorByRule(f, o); e != api.OK {
		fails(t, f, o, e)
	} else {
		makes(t, f, o, madeByRule(f, o))
	}
}

// areAsRuled holds All against the rule, and tells the forest.
func areAsRuled(t *testing.T, f forest.Forest, l []op.Op) forest.Forest {
	t.Helper()
	was, list := kept(f), slices.Clone(l)
	want, place, errno := allByRule(f, l)
	g, n, e := All(f, l)
	if e != errno || n != place || !forest.Same(g, want) || !forest.May(g) {
		t.Fatalf("All of %s, %s = %s, %d, %d, want %s, %d, %d", told(was), told(l), told(g), n, e, told(want), place, errno)
	}
	if !forest.Same(f, was) || !slices.Equal(l, list) {
		t.Fatalf("%s, %s became %s, %s", told(was), told(list), told(f), told(l))
	}
	return g
}

// P7.1, P7.2: the example of the document.
func TestExample(t *testing.T) {
	g, n, e := All(forest.New(), []op.Op{element("a"), insert(1, 0, 0)})
	if s := forest.Print(g, 0); s != "<a></a>" || n != 2 || e != api.OK {
		t.Error(s, n, e)
	}
}

// P7.1: NewElement, NewText, NewComment: one node more, with that, and nothing else.
func TestNewNodes(t *testing.T) {
	long, longer := strings.Repeat("n", 20), strings.Repeat("\xff", 60)
	for _, f := range []forest.Forest{forest.New(), sample(), loose(59), chain(59)} {
		for _, x := range []struct {
			o op.Op
			n forest.Node
		}{
			{element("a"), forest.Node{Kind: forest.Element, Name: "a", Parent: -1}},
			{element("H-1_"), forest.Node{Kind: forest.Element, Name: "H-1_", Parent: -1}},
			{element(long), forest.Node{Kind: forest.Element, Name: long, Parent: -1}},
			{text("x<&"), forest.Node{Kind: forest.Text, Text: "x<&", Parent: -1}},
			{text(""), forest.Node{Kind: forest.Text, Parent: -1}},
			{text(longer), forest.Node{Kind: forest.Text, Text: longer, Parent: -1}},
			{comment("!>"), forest.Node{Kind: forest.Comment, Text: "!>", Parent: -1}},
			{comment(""), forest.Node{Kind: forest.Comment, Parent: -1}},
			{comment(longer), forest.Node{Kind: forest.Comment, Text: longer, Parent: -1}},
		} {
			makes(t, f, x.o, append(kept(f), x.n))
		}
	}
}

// P7.1: names that are none, and texts that are too long, wherever they stand.
func TestWrongNamesAndTexts(t *testing.T) {
	for _, s := range []string{"", "1", "-a", "_", "a b", "a.", "\u00e9", "a\x00", strings.Repeat("a", 21), strings.Repeat("a", 255)} {
		fails(t, forest.New(), element(s), api.ErrName)
		fails(t, sample(), element(s), api.ErrName)
		fails(t, sample(), set(1, s, "v"), api.ErrName)
		// There is no such attribute, and of names nothing is asked.
		fails(t, sample(), unset(1, s), api.ErrAttr)
	}
	for _, n := range []int{61, 62, 255} {
		s := strings.Repeat("a", n)
		for _, o := range []op.Op{text(s), comment(s), set(1, "new", s), set(1, "id", s), renew(3, s), renew(4, s)} {
			fails(t, sample(), o, api.ErrName)
		}
	}
	for _, n := range []int{256, 300} {
		s := strings.Repeat("a", n)
		for _, o := range []op.Op{element(s), text(s), comment(s), set(1, s, ""), set(1, "id", s), unset(1, s), renew(3, s)} {
			fails(t, sample(), o, api.ErrArg)
		}
	}
}

// P7.1: MaxNodes nodes, and one more.
func TestFull(t *testing.T) {
	for _, o := range []op.Op{element("a"), text("x"), comment("c")} {
		for _, f := range []forest.Forest{loose(60), chain(60)} {
			fails(t, f, o, api.ErrFull)
		}
		g, e := One(loose(59), o)
		if e != api.OK || len(g) != 60 {
			t.Fatal(len(g), e)
		}
		fails(t, g, o, api.ErrFull)
		// Nodes that are taken away are there still.
		g, e = One(chain(60), remove(1))
		if e != api.OK {
			t.Fatal(e)
		}
		fails(t, g, o, api.ErrFull)
	}
	// All else goes on.
	makes(t, loose(60), insert(59, 0, 0), turnedLoose(60, 59))
	if g, e := One(chain(60), insert(59, 1, 1)); e != api.OK || !slices.Equal(g[1].Kids, []int{2, 59}) || len(g[58].Kids) != 0 || g[59].Parent != 1 {
		t.Error(told(g), e)
	}
}

// turnedLoose is loose, with one node below the document.
func turnedLoose(n, id int) forest.Forest {
	f := loose(n)
	f[0].Kids, f[id].Parent = []int{id}, 0
	return f
}

// P7.1: Insert, at every place there is, and one ahead and one behind.
func TestInsertPlaces(t *testing.T) {
	for _, x := range []struct {
		id, to int
		kids   [][]int
	}{
		{7, 1, [][]int{{7, 3, 2, 4}, {3, 7, 2, 4}, {3, 2, 7, 4}, {3, 2, 4, 7}}},
		{9, 8, [][]int{{9}}},
		{9, 2, [][]int{{9, 5}, {5, 9}}},
		{10, 0, [][]int{{10, 6, 1}, {6, 10, 1}, {6, 1, 10}}},
		{6, 2, [][]int{{6, 5}, {5, 6}}},
		{5, 1, [][]int{{5, 3, 2, 4}, {3, 5, 2, 4}, {3, 2, 5, 4}, {3, 2, 4, 5}}},
		{1, 7, [][]int{{1, 8}, {8, 1}}},
		// Within its own parent: a place of those without it.
		{3, 1, [][]int{{3, 2, 4}, {2, 3, 4}, {2, 4, 3}}},
		{2, 1, [][]int{{2, 3, 4}, {3, 2, 4}, {3, 4, 2}}},
		{4, 1, [][]int{{4, 3, 2}, {3, 4, 2}, {3, 2, 4}}},
		{5, 2, [][]int{{5}}},
		{8, 7, [][]int{{8}}},
		{6, 0, [][]int{{6, 1}, {1, 6}}},
		{1, 0, [][]int{{1, 6}, {6, 1}}},
	} {
		for at, kids := range x.kids {
			want := sample()
			if from := want[x.id].Parent; from != -1 {
				i := slices.Index(want[from].Kids, x.id)
				want[from].Kids = slices.Delete(want[from].Kids, i, i+1)
			}
			want[x.id].Parent, want[x.to].Kids = x.to, kids
			makes(t, sample(), insert(x.id, x.to, at), want)
		}
		for _, at := range []int{math.MinInt, -2, -1, len(x.kids), len(x.kids) + 1, 60, math.MaxInt} {
			fails(t, sample(), insert(x.id, x.to, at), api.ErrIndex)
		}
	}
}

// numbers that are no node of sample.
func noNodes() []int {
	return []int{math.MinInt, -60, -2, -1, 11, 12, 59, 60, 1 << 32, math.MaxInt}
}

// P7.1: numbers that are no node, whatever else is wrong.
func TestNoNode(t *testing.T) {
	for _, id := range noNodes() {
		for _, at := range []int{-1, 0, 99} {
			for other := range sample() {
				fails(t, sample(), insert(id, other, at), api.ErrNode)
				fails(t, sample(), insert(other, id, at), api.ErrNode)
			}
			fails(t, sample(), insert(id, id, at), api.ErrNode)
		}
		for _, o := range []op.Op{
			remove(id), set(id, "a", "b"), set(id, "1", strings.Repeat("a", 61)), unset(id, "id"), unset(id, ""), renew(id, "x"), renew(id, strings.Repeat("a", 61)),
		} {
			fails(t, sample(), o, api.ErrNode)
		}
	}
	for _, o := range []op.Op{insert(1, 0, 0), insert(0, 1, 0), remove(1), set(1, "a", ""), unset(1, "a"), renew(1, "")} {
		fails(t, forest.New(), o, api.ErrNode)
	}
	// The last one is one.
	fails(t, sample(), remove(10), api.ErrNone)
}

// P7.1: the document is not moved, and only it and Elements have Kids.
func TestInsertOfKinds(t *testing.T) {
	for to := range sample() {
		for _, at := range []int{-1, 0, 99} {
			fails(t, sample(), insert(0, to, at), api.ErrKind)
		}
	}
	for _, to := range []int{3, 4, 5, 6, 9, 10} {
		for id := range sample() {
			for _, at := range []int{-1, 0, 1} {
				fails(t, sample(), insert(id, to, at), api.ErrKind)
			}
		}
	}
}

// P7.1: the document has no Text, and one Element at most.
func TestInsertToTheDocument(t *testing.T) {
	without := turned(func(f forest.Forest) { f[0].Kids, f[1].Parent = []int{6}, -1 })
	for _, at := range []int{-1, 0, 1, 2, 99} {
		for _, id := range []int{3, 5, 9} {
			fails(t, sample(), insert(id, 0, at), api.ErrKind)
			fails(t, without, insert(id, 0, at), api.ErrKind)
		}
		for _, id := range []int{2, 7, 8} {
			fails(t, sample(), insert(id, 0, at), api.ErrKind)
		}
	}
	for _, id := range []int{1, 2, 7, 8} {
		for at := range 2 {
			makes(t, without, insert(id, 0, at), madeByRule(without, insert(id, 0, at)))
		}
		fails(t, without, insert(id, 0, 2), api.ErrIndex)
	}
	// Its only one may go to another place there.
	makes(t, sample(), insert(1, 0, 0), turned(func(f forest.Forest) { f[0].Kids = []int{1, 6} }))
	makes(t, sample(), insert(1, 0, 1), sample())
	// Comments may be any many, and an Element stands wherever it is among them.
	f := chain(2)
	for id := 2; id < 60; id++ {
		f = append(f, forest.Node{Kind: forest.Comment, Parent: -1})
		g, e := One(f, insert(id, 0, id/2))
		if e != api.OK {
			t.Fatal(id, e)
		}
		f = g
	}
	if len(f[0].Kids) != 59 || !forest.May(f) {
		t.Error(told(f))
	}
}

// P7.1: no node comes below itself.
func TestCycles(t *testing.T) {
	for id, below := range map[int][]int{1: {1, 2}, 2: {2}, 7: {7, 8}, 8: {8}} {
		for _, to := range below {
			for _, at := range []int{-1, 0, 1, 99} {
				fails(t, sample(), insert(id, to, at), api.ErrCycle)
			}
		}
	}
	f := chain(60)
	for id := 1; id < 60; id++ {
		for to := 1; to < 60; to++ {
			want := api.ErrCycle
			if to < id {
				want = api.OK
			}
			if _, e := One(f, insert(id, to, 0)); e != want {
				t.Fatalf("insert %d %d 0: %d", id, to, e)
			}
		}
	}
	// The other way round it goes, with all that stands below it.
	makes(t, sample(), insert(7, 2, 1), turned(func(f forest.Forest) { f[2].Kids, f[7].Parent = []int{5, 7}, 2 }))
	makes(t, sample(), insert(1, 8, 0), turned(func(f forest.Forest) { f[0].Kids, f[8].Kids, f[1].Parent = []int{6}, []int{1}, 8 }))
}

// P7.1: Remove: it goes, with all that stands below it.
func TestRemove(t *testing.T) {
	for id, turn := range map[int]func(forest.Forest){
		1: func(f forest.Forest) { f[0].Kids = []int{6} },
		2: func(f forest.Forest) { f[1].Kids = []int{3, 4} },
		3: func(f forest.Forest) { f[1].Kids = []int{2, 4} },
		4: func(f forest.Forest) { f[1].Kids = []int{3, 2} },
		5: func(f forest.Forest) { f[2].Kids = nil },
		6: func(f forest.Forest) { f[0].Kids = []int{1} },
		8: func(f forest.Forest) { f[7].Kids = nil },
	} {
		want := turned(turn)
		want[id].Parent = -1
		makes(t, sample(), remove(id), want)
		fails(t, want, remove(id), api.ErrNone)
	}
	for _, id := range []int{7, 9, 10} {
		fails(t, sample(), remove(id), api.ErrNone)
	}
	// The document has no Parent, either, but its kind is told first.
	fails(t, sample(), remove(0), api.ErrKind)
	fails(t, forest.New(), remove(0), api.ErrKind)
}

// P7.1: SetAttr, of an attribute that is there, and of one that is not.
func TestSetAttr(t *testing.T) {
	long := strings.Repeat("\"", 60)
	for i, name := range []string{"id", "class", "k"} {
		for _, value := range []string{"", "new", "a", long} {
			makes(t, sample(), set(1, name, value), turned(func(f forest.Forest) { f[1].Attrs[i].Value = value }))
		}
	}
	for _, name := range []string{"new", "ID", "i", "a", strings.Repeat("n", 20)} {
		for _, value := range []string{"", "a", long} {
			makes(t, sample(), set(1, name, value), turned(func(f forest.Forest) {
				f[1].Attrs = append(f[1].Attrs, forest.Attr{Name: name, Value: value})
			}))
			makes(t, sample(), set(8, name, value), turned(func(f forest.Forest) {
				f[8].Attrs = []forest.Attr{{Name: name, Value: value}}
			}))
		}
	}
	for _, id := range []int{0, 3, 4, 5, 6, 9, 10} {
		fails(t, sample(), set(id, "id", "a"), api.ErrKind)
		fails(t, sample(), set(id, "", strings.Repeat("a", 61)), api.ErrKind)
	}
}

// P7.1: MaxAttrs attributes, one more, and those that are there already.
func TestFullOfAttrs(t *testing.T) {
	makes(t, withAttrs(7), set(1, "h", "v"), withAttrs(8))
	fails(t, withAttrs(8), set(1, "i", "v"), api.ErrAttr)
	fails(t, withAttrs(8), set(1, "A", ""), api.ErrAttr)
	for i := range 8 {
		want := withAttrs(8)
		want[1].Attrs[i].Value = "new"
		makes(t, withAttrs(8), set(1, string(rune('a'+i)), "new"), want)
	}
	// Where one goes, there is room for one, behind the others.
	g, n, e := All(withAttrs(8), []op.Op{unset(1, "c"), set(1, "c", "v")})
	names := ""
	for _, a := range g[1].Attrs {
		names += a.Name
	}
	if names != "abdefghc" || n != 2 || e != api.OK {
		t.Error(names, n, e)
	}
}

// P7.1: DelAttr.
func TestDelAttr(t *testing.T) {
	for i, name := range []string{"id", "class", "k"} {
		want := turned(func(f forest.Forest) { f[1].Attrs = slices.Delete(f[1].Attrs, i, i+1) })
		makes(t, sample(), unset(1, name), want)
		fails(t, want, unset(1, name), api.ErrAttr)
	}
	for _, name := range []string{"ID", "i", "clas", "div", "a", "", "1"} {
		fails(t, sample(), unset(1, name), api.ErrAttr)
		fails(t, sample(), unset(2, name), api.ErrAttr)
	}
	for _, id := range []int{0, 3, 4, 5, 6, 9, 10} {
		fails(t, sample(), unset(id, "id"), api.ErrKind)
	}
	f := withAttrs(8)
	for i := 7; i >= 0; i-- {
		makes(t, f, unset(1, string(rune('a'+i))), withAttrs(i))
		f = withAttrs(i)
	}
}

// P7.1: SetText.
func TestSetText(t *testing.T) {
	for _, id := range []int{3, 4, 5, 6, 9, 10} {
		for _, s := range []string{"", "x", "new", "&<\"\x00\xff", strings.Repeat("t", 60)} {
			makes(t, sample(), renew(id, s), turned(func(f forest.Forest) { f[id].Text = s }))
		}
		fails(t, sample(), renew(id, strings.Repeat("t", 61)), api.ErrName)
	}
	for _, id := range []int{0, 1, 2, 7, 8} {
		fails(t, sample(), renew(id, ""), api.ErrKind)
		fails(t, sample(), renew(id, strings.Repeat("t", 61)), api.ErrKind)
	}
}

// P7.1: operations that may not be are told first, whatever else is wrong.
func TestOperationsThatMayNotBe(t *testing.T) {
	for _, kind := range []int{math.MinInt, -1, 0, 9, 10, 1 << 32, math.MaxInt} {
		for _, f := range []forest.Forest{forest.New(), sample(), loose(60)} {
			fails(t, f, op.Op{Kind: kind}, api.ErrArg)
			fails(t, f, op.Op{Kind: kind, Id: 1, Name: "a", Text: "b"}, api.ErrArg)
		}
	}
	long := strings.Repeat("a", 256)
	for _, o := range []op.Op{
		element("a"), element("1"), text("x"), comment("c"), insert(9, 1, 0), insert(99, 0, 0), insert(0, 0, 0), insert(1, 2, 0), insert(9, 1, 99),
		remove(3), remove(99), remove(0), remove(9), set(1, "id", "b"), set(99, "id", "b"), set(0, "id", "b"), set(1, "1", "b"),
		unset(1, "id"), unset(99, "id"), unset(0, "id"), unset(1, "b"), renew(3, "x"), renew(99, "x"), renew(0, "x"), renew(3, strings.Repeat("x", 61)),
	} {
		for _, spoil := range []func(*op.Op){
			func(o *op.Op) { o.Id = 1 }, func(o *op.Op) { o.To = 1 }, func(o *op.Op) { o.At = -1 },
			func(o *op.Op) { o.Name = "a" }, func(o *op.Op) { o.Text = "a" },
			func(o *op.Op) { o.Name = long }, func(o *op.Op) { o.Text = long },
		} {
			wrong := o
			spoil(&wrong)
			if op.May(wrong) {
				continue
			}
			fails(t, sample(), wrong, api.ErrArg)
			fails(t, loose(60), wrong, api.ErrArg)
		}
	}
}

// P7.1, R2: where several errors apply, the one that is named first.
func TestErrorsInOrder(t *testing.T) {
	long := strings.Repeat("a", 61)
	full := loose(60)
	for _, x := range []struct {
		f forest.Forest
		o op.Op
		e api.Errno
	}{
		{full, op.Op{Kind: op.NewElement, Name: "1", Id: 1}, api.ErrArg},
		{full, element("1"), api.ErrName},
		{full, element("a"), api.ErrFull},
		{full, text(long), api.ErrName},
		{full, text("a"), api.ErrFull},
		{full, comment(long), api.ErrName},
		{full, comment("a"), api.ErrFull},

		{sample(), op.Op{Kind: op.Insert, Id: 99, To: 3, At: -1, Text: "a"}, api.ErrArg},
		{sample(), insert(99, 3, -1), api.ErrNode},
		{sample(), insert(0, -1, -1), api.ErrNode},
		{sample(), insert(0, 0, -1), api.ErrKind},
		{sample(), insert(0, 1, 99), api.ErrKind},
		{sample(), insert(1, 3, 99), api.ErrKind},
		{sample(), insert(3, 3, 99), api.ErrKind},
		{sample(), insert(9, 0, 99), api.ErrKind},
		{sample(), insert(7, 0, -1), api.ErrKind},
		{sample(), insert(1, 2, 99), api.ErrCycle},
		{sample(), insert(1, 1, -1), api.ErrCycle},
		{sample(), insert(2, 1, 3), api.ErrIndex},

		{sample(), op.Op{Kind: op.Remove, Id: 99, To: 1}, api.ErrArg},
		{sample(), op.Op{Kind: op.Remove, At: 1}, api.ErrArg},
		{sample(), remove(99), api.ErrNode},
		{sample(), remove(0), api.ErrKind},
		{sample(), remove(7), api.ErrNone},

		{withAttrs(8), op.Op{Kind: op.SetAttr, Id: 99, At: 1, Name: "1", Text: long}, api.ErrArg},
		{withAttrs(8), set(99, "1", long), api.ErrNode},
		{withAttrs(8), set(0, "1", long), api.ErrKind},
		{withAttrs(8), set(1, "1", "v"), api.ErrName},
		{withAttrs(8), set(1, "z", long), api.ErrName},
		{withAttrs(8), set(1, "a", long), api.ErrName},
		{withAttrs(8), set(1, "z", "v"), api.ErrAttr},

		{sample(), op.Op{Kind: op.DelAttr, Id: 99, Name: "z", Text: "v"}, api.ErrArg},
		{sample(), unset(99, "z"), api.ErrNode},
		{sample(), unset(3, "z"), api.ErrKind},
		{sample(), unset(1, "z"), api.ErrAttr},

		{sample(), op.Op{Kind: op.SetText, Id: 99, Text: long, Name: "a"}, api.ErrArg},
		{sample(), renew(99, long), api.ErrNode},
		{sample(), renew(1, long), api.ErrKind},
		{sample(), renew(3, long), api.ErrName},
	} {
		if x.e != errorByRule(x.f, x.o) {
			t.Errorf("%s: the rule says %d, not %d", told(x.o), errorByRule(x.f, x.o), x.e)
		}
		fails(t, x.f, x.o, x.e)
	}
}

// P7.2: no operation at all.
func TestAllOfNone(t *testing.T) {
	for _, f := range []forest.Forest{forest.New(), sample(), loose(60), chain(60), withAttrs(8)} {
		for _, l := range [][]op.Op{nil, {}, make([]op.Op, 0, 9)} {
			if g, n, e := All(f, l); n != 0 || e != api.OK || !forest.Same(g, f) {
				t.Error(told(g), n, e)
			}
		}
	}
}

// longRun grows a tree of all kinds, and changes it; it has more operations than a transaction may have.
func longRun() []op.Op {
	return []op.Op{
		element("html"), insert(1, 0, 0), element("p"), insert(2, 1, 0), text("one"), insert(3, 2, 0), comment("two"), insert(4, 0, 0),
		set(2, "class", "x"), set(2, "id", "y"), element("b"), insert(5, 2, 0), insert(3, 5, 0), renew(3, "<1>"), text("tail"), insert(6, 2, 1),
		unset(2, "class"), set(2, "class", "z"), remove(4), renew(4, "c"), insert(4, 1, 0), insert(2, 1, 0), remove(5), insert(6, 5, 1), insert(5, 1, 2),
	}
}

// P7.2: all of them, in order.
func TestAll(t *testing.T) {
	l := longRun()
	for many := range len(l) + 1 {
		areAsRuled(t, forest.New(), l[:many])
		areAsRuled(t, sample(), l[:many])
	}
	g, n, e := All(forest.New(), l)
	if s := forest.Print(g, 0); s != `<html><p id="y" class="z"></p><!c!><b>&lt;1>tail</b></html>` || n != len(l) || e != api.OK {
		t.Error(s, n, e)
	}
	// What one makes, the next one has.
	g, n, e = All(forest.New(), []op.Op{insert(1, 0, 0), element("a")})
	if n != 0 || e != api.ErrNode || !forest.Same(g, forest.New()) {
		t.Error(told(g), n, e)
	}
}

// P7.2: the first, a middle and the last one has an error, or several have.
func TestPlaceOfTheFirstError(t *testing.T) {
	l := longRun()
	for _, x := range []struct {
		o op.Op
		e api.Errno
	}{
		{op.Op{}, api.ErrArg}, {element(""), api.ErrName}, {text(strings.Repeat("a", 61)), api.ErrName}, {insert(-1, 0, 0), api.ErrNode},
		{insert(0, 0, 0), api.ErrKind}, {remove(0), api.ErrKind}, {renew(59, ""), api.ErrNode}, {unset(0, "a"), api.ErrKind},
	} {
		for place := range len(l) + 1 {
			spoilt := slices.Insert(slices.Clone(l), place, x.o)
			for _, f := range []forest.Forest{forest.New(), sample()} {
				// In sample some of the operations have errors of their own.
				areAsRuled(t, f, spoilt)
			}
			g, n, e := All(forest.New(), spoilt)
			if n != place || e != x.e || !forest.Same(g, forest.New()) {
				t.Errorf("%s at %d: %s, %d, %d", told(x.o), place, told(g), n, e)
			}
			g, n, e = All(forest.New(), append(spoilt, op.Op{}, remove(99)))
			if n != place || e != x.e || !forest.Same(g, forest.New()) {
				t.Errorf("%s at %d, and others: %s, %d, %d", told(x.o), place, told(g), n, e)
			}
		}
	}
}

// P7.2: as many as there is room for, and one more; and 150 that go on and on.
func TestAllOfMany(t *testing.T) {
	for _, o := range []op.Op{element("a"), text("x"), comment("c")} {
		l := slices.Repeat([]op.Op{o}, 60)
		if g, n, e := All(forest.New(), l[:59]); n != 59 || e != api.OK || len(g) != 60 || !forest.May(g) {
			t.Error(len(g), n, e)
		}
		if g, n, e := All(forest.New(), l); n != 59 || e != api.ErrFull || !forest.Same(g, forest.New()) {
			t.Error(told(g), n, e)
		}
	}
	turns := slices.Repeat([]op.Op{remove(1), insert(1, 0, 1), insert(4, 1, 0)}, 50)
	want := turned(func(f forest.Forest) { f[1].Kids = []int{4, 3, 2} })
	if g, n, e := All(sample(), turns); n != 150 || e != api.OK || !forest.Same(g, want) {
		t.Error(told(g), n, e)
	}
	if g, n, e := All(sample(), append(turns, remove(9))); n != 150 || e != api.ErrNone || !forest.Same(g, sample()) {
		t.Error(told(g), n, e)
	}
}

// P7.3: two lists, one behind the other, are one.
func TestTwoListsAreOne(t *testing.T) {
	l := longRun()
	for _, spoilt := range [][]op.Op{l, append(slices.Clone(l), remove(0)), slices.Insert(slices.Clone(l), 12, element("1"))} {
		for cut := range len(spoilt) + 1 {
			areOne(t, forest.New(), spoilt[:cut], spoilt[cut:])
		}
	}
}

// areOne asks that a and then b make what they make as one list.
func areOne(t *testing.T, f forest.Forest, a, b []op.Op) {
	t.Helper()
	both, n, e := All(f, slices.Concat(a, b))
	g, n1, e1 := All(f, a)
	if e1 != api.OK {
		if n != n1 || e != e1 || !forest.Same(both, f) {
			t.Fatalf("%s, then %s: %d, %d, as one %d, %d", told(a), told(b), n1, e1, n, e)
		}
		return
	}
	h, n2, e2 := All(g, b)
	want := h
	if e2 != api.OK {
		want = f
	}
	if n != len(a)+n2 || e != e2 || !forest.Same(both, want) {
		t.Fatalf("%s, then %s: %d, %d, %s, as one %d, %d, %s", told(a), told(b), n2, e2, told(h), n, e, told(both))
	}
}

// everyOp is each operation on numbers from -1 to one that is no node, with names and texts of each sort.
func everyOp(nodes int) []op.Op {
	long := strings.Repeat("t", 61)
	l := []op.Op{{}, {Kind: op.NewText, Id: 1}, element("b"), element(""), text("u"), text(long), comment(""), comment(long)}
	for id := -1; id <= nodes; id++ {
		l = append(l, remove(id), set(id, "a", "w"), set(id, "c", ""), set(id, "", ""), set(id, "a", long), unset(id, "a"), unset(id, "c"), renew(id, "w"), renew(id, long))
		for to := -1; to <= nodes; to++ {
			for at := -1; at <= nodes; at++ {
				l = append(l, insert(id, to, at))
			}
		}
	}
	return l
}

// smallForests are all that up to that many nodes come to by being made, moved and taken away.
func smallForests(most int) []forest.Forest {
	all := []forest.Forest{forest.New()}
	seen := map[string]bool{told(all[0]): true}
	for i := 0; i < len(all); i++ {
		l := []op.Op{element("a"), text("t"), comment("t")}
		for id := range all[i] {
			l = append(l, remove(id))
			for to := range all[i] {
				for at := range all[i] {
					l = append(l, insert(id, to, at))
				}
			}
		}
		for _, o := range l {
			if errorByRule(all[i], o) != api.OK {
				continue
			}
			f := madeByRule(all[i], o)
			if len(f) <= most && !seen[told(f)] {
				seen[told(f)] = true
				all = append(all, f)
			}
		}
	}
	return all
}

// P7.1, P7.3: all operations on all forests of four nodes and fewer.
func TestEveryOpOnSmallForests(t *testing.T) {
	all := smallForests(4)
	if len(all) < 300 {
		t.Fatalf("%d forests", len(all))
	}
	for i, f := range all {
		if !forest.May(f) {
			t.Fatal(told(f))
		}
		// An attribute at every other one, so that there is one to be found.
		for id := range f {
			if f[id].Kind == forest.Element && (id+i)%2 == 0 {
				f[id].Attrs = []forest.Attr{{Name: "a", Value: "v"}}
			}
		}
		for _, o := range everyOp(len(f)) {
			isAsRuled(t, f, o)
		}
	}
}

// dice is a run of numbers that is always the same.
type dice uint32

func (d *dice) roll(n int) int {
	*d = *d*1664525 + 1013904223
	return int(*d>>8) % n
}

// thrown is an operation that is likely to be done in a forest of so many nodes.
func thrown(d *dice, nodes int) op.Op {
	texts := []string{"", "a", "&<", "x\xff", strings.Repeat("t", 60), strings.Repeat("t", 61)}
	names := []string{"a", "b", "c", "d", "e", "f", "g", "h", "i", "j", "A", "1", ""}
	s, name := texts[d.roll(len(texts))], names[d.roll(len(names))]
	id := d.roll(nodes+2) - 1
	switch d.roll(12) {
	case 0:
		return element(name)
	case 1:
		return text(s)
	case 2:
		return comment(s)
	case 3:
		return remove(id)
	case 4, 5:
		return set(id, name, s)
	case 6:
		return unset(id, name)
	case 7:
		return renew(id, s)
	case 8:
		return insert(id, d.roll(nodes+2)-1, d.roll(5)-1)
	}
	// Where there are few Kids most other places are none.
	return insert(id, d.roll(nodes+2)-1, d.roll(2))
}

// P7.1 to P7.3: greater forests, by long runs of operations; errors are left out, and lists are cut anywhere.
func TestThrownOperations(t *testing.T) {
	errs := map[api.Errno]int{}
	for seed := range 40 {
		d := dice(seed)
		f := forest.New()
		var done []op.Op
		for range 400 {
			o := thrown(&d, len(f))
			errs[errorByRule(f, o)]++
			isAsRuled(t, f, o)
			if g, e := One(f, o); e == api.OK {
				f = g
				done = append(done, o)
			}
		}
		done = done[:min(len(done), 150)]
		areAsRuled(t, forest.New(), done)
		for range 5 {
			cut := d.roll(len(done) + 1)
			areOne(t, forest.New(), done[:cut], done[cut:])
			l := make([]op.Op, d.roll(7))
			for i := range l {
				l[i] = thrown(&d, len(f))
			}
			cut = d.roll(len(l) + 1)
			areAsRuled(t, f, l)
			areOne(t, f, l[:cut], l[cut:])
		}
	}
	for _, e := range []api.Errno{api.OK, api.ErrFull, api.ErrNone, api.ErrNode, api.ErrKind, api.ErrCycle, api.ErrIndex, api.ErrName, api.ErrAttr} {
		if errs[e] < 20 {
			t.Errorf("the error %d came %d times", e, errs[e])
		}
	}
}

// roomy is f with room behind the ends of its lists, where something stands.
func roomy(f forest.Forest) forest.Forest {
	c := append(kept(f), forest.Node{Name: "behind"})
	for i := range c {
		c[i].Attrs = append(c[i].Attrs, forest.Attr{Name: "behind"})
		c[i].Kids = append(c[i].Kids, 77)
		c[i].Attrs = c[i].Attrs[:len(c[i].Attrs)-1]
		c[i].Kids = c[i].Kids[:len(c[i].Kids)-1]
	}
	return c[:len(c)-1]
}

// whole tells all of f, with what stands behind the ends of its lists.
func whole(f forest.Forest) string {
	c := slices.Clone(f[:cap(f)])
	for i := range c {
		c[i].Attrs = c[i].Attrs[:cap(c[i].Attrs)]
		c[i].Kids = c[i].Kids[:cap(c[i].Kids)]
	}
	return told(c)
}

// scribble writes over all of f, and behind the ends of its lists.
func scribble(f forest.Forest) {
	f = f[:cap(f)]
	for i := range f {
		for j := range f[i].Attrs[:cap(f[i].Attrs)] {
			f[i].Attrs[:cap(f[i].Attrs)][j] = forest.Attr{Name: "over", Value: "over"}
		}
		for j := range f[i].Kids[:cap(f[i].Kids)] {
			f[i].Kids[:cap(f[i].Kids)][j] = 88
		}
		f[i] = forest.Node{Kind: 7, Name: "over"}
	}
}

// oneOfEach is an operation that sample lets be done, of each kind, and then each error.
func oneOfEach() []op.Op {
	return []op.Op{
		element("n"), text("n"), comment("n"), insert(9, 1, 1), insert(3, 1, 2), insert(3, 2, 0), remove(2), set(1, "id", "n"), set(1, "n", "n"), unset(1, "id"), renew(3, "n"),
		{}, insert(99, 0, 0), insert(0, 0, 0), insert(1, 2, 0), insert(9, 1, 9), remove(9), remove(0), set(1, "1", ""), unset(1, "n"), renew(1, ""),
	}
}

// R4: forests and lists stay as they were behind every call, with what stands behind their ends; so do they if the answer is written over.
func TestWhatIsHandedInStays(t *testing.T) {
	for _, x := range oneOfEach() {
		f := roomy(sample())
		was := whole(f)
		g, e := One(f, x)
		again, _ := One(f, x)
		scribble(g)
		if whole(f) != was {
			t.Fatalf("One of %s: %s became %s", told(x), was, whole(f))
		}
		if h, e2 := One(f, x); e2 != e || !forest.Same(h, again) {
			t.Fatalf("One of %s, once more: %s, %d", told(x), told(h), e2)
		}
		for _, l := range [][]op.Op{nil, {x}, {renew(4, "0"), x}, {x, renew(4, "0"), set(1, "z", "0"), remove(4), op.Op{}}} {
			list := append(slices.Clone(l), op.Op{Kind: 77})
			g, _, _ := All(f, list[:len(l)])
			scribble(g)
			if whole(f) != was || !slices.Equal(list[:len(l)], l) || list[len(l)].Kind != 77 {
				t.Fatalf("All of %s: %s, %s became %s", told(l), told(list), was, whole(f))
			}
		}
	}
}

// R4: an answer hangs on nothing that was handed in, and no two of its lists share a place.
func TestAnswersShareNothing(t *testing.T) {
	for _, x := range oneOfEach() {
		for _, l := range [][]op.Op{nil, {x}, {x, set(2, "z", "0"), insert(10, 2, 0)}} {
			f := roomy(sample())
			g, _, _ := All(f, l)
			want := kept(g)
			scribble(f)
			for i := range l {
				l[i] = op.Op{Kind: 9, Name: "over"}
			}
			if !forest.Same(g, want) {
				t.Fatalf("All: %s became %s", told(want), told(g))
			}
			for i := range g {
				// Behind the end of one list none of another one's items may stand.
				for j := len(g[i].Kids); j < cap(g[i].Kids); j++ {
					g[i].Kids[:cap(g[i].Kids)][j] = 88
				}
				for j := len(g[i].Attrs); j < cap(g[i].Attrs); j++ {
					g[i].Attrs[:cap(g[i].Attrs)][j] = forest.Attr{Name: "over"}
				}
			}
			if !forest.Same(g, want) {
				t.Fatalf("lists of one answer: %s became %s", told(want), told(g))
			}
		}
	}
}

// R6: lists without elements and nil lists are alike.
func TestEmptyListsAreAlike(t *testing.T) {
	bare := forest.Forest{{Parent: -1}, {Kind: forest.Element, Name: "a", Parent: -1}, {Kind: forest.Text, Parent: -1}}
	filled := kept(bare)
	for i := range filled {
		filled[i].Attrs, filled[i].Kids = []forest.Attr{}, []int{}
	}
	for _, o := range everyOp(3) {
		isAsRuled(t, bare, o)
		isAsRuled(t, filled, o)
		g, e := One(bare, o)
		if h, e2 := One(filled, o); e != e2 || !forest.Same(g, h) {
			t.Fatalf("%s: %s, %d, and %s, %d", told(o), told(g), e, told(h), e2)
		}
	}
}

// Of forests that may not be nothing is said: the calls end, and leave them as they were.
func TestForestsThatMayNotBe(t *testing.T) {
	for _, f := range []forest.Forest{
		nil, {}, loose(61), make(forest.Forest, 70),
		{{Parent: -1, Kids: []int{5}}, {Kind: forest.Element, Name: "a", Parent: -1}},
		{{Parent: -1}, {Kind: forest.Element, Name: "a", Parent: 9}},
		{{Parent: -1}, {Kind: forest.Element, Name: "a", Parent: math.MinInt, Kids: []int{-1}}},
		{{Parent: -1}, {Kind: forest.Element, Name: "a", Parent: 2, Kids: []int{2}}, {Kind: forest.Element, Name: "a", Parent: 1, Kids: []int{1}}},
		{{Parent: -1}, {Kind: forest.Text, Parent: 1, Kids: []int{1, 1}}},
	} {
		was := kept(f)
		for _, o := range everyOp(3) {
			One(f, o)
			All(f, []op.Op{o, o})
		}
		All(f, nil)
		if !forest.Same(f, was) {
			t.Errorf("%s became %s", told(was), told(f))
		}
	}
}

// read makes operations of bytes: of each its kind, numbers as its kind has them, and a name or a text of the two.
func read(b []byte, name, s string) []op.Op {
	var l []op.Op
	next := func() int {
		if len(b) == 0 {
			return 0
		}
		x := int(int8(b[0]))
		b = b[1:]
		return x
	}
	for len(b) > 0 && len(l) < 150 {
		o := op.Op{Kind: next()}
		switch o.Kind {
		case op.NewElement:
			o.Name = name
		case op.NewText, op.NewComment:
			o.Text = s
		case op.Insert:
			o.Id, o.To, o.At = next(), next(), next()
		case op.Remove:
			o.Id = next()
		case op.SetAttr:
			o.Id, o.Name, o.Text = next(), name, s
		case op.DelAttr:
			o.Id, o.Name = next(), name
		case op.SetText:
			o.Id, o.Text = next(), s
		}
		l = append(l, o)
	}
	return l
}

// FuzzApply holds any run of operations against the rule.
func FuzzApply(f *testing.F) {
	f.Add([]byte{1, 4, 1, 0, 0}, "a", "b")
	f.Add([]byte{1, 2, 3, 4, 1, 0, 0, 4, 2, 1, 0, 4, 3, 0, 1, 6, 1, 8, 2, 5, 2, 7, 1}, "div", "x<")
	f.Add([]byte{1, 1, 4, 1, 2, 0, 4, 2, 1, 0}, "a", "")
	f.Add([]byte{0, 9, 255, 1}, "", "")
	f.Fuzz(func(t *testing.T, b []byte, name, s string) {
		if len(b) > 600 || len(name) > 300 || len(s) > 600 {
			return
		}
		l := read(b, name, s)
		areAsRuled(t, forest.New(), l)
		areOne(t, forest.New(), l[:len(l)/2], l[len(l)/2:])
		g := sample()
		for _, o := range l {
			isAsRuled(t, g, o)
			g, _ = One(g, o)
		}
	})
}

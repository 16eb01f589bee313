package snap

import (
	"fmt"
	"math"
	"slices"
	"strings"
	"testing"

	"treillage/api"
	"treillage/apply"
	"treillage/find"
	"treillage/forest"
	"treillage/op"
	"treillage/sel"
	"treillage/tree"
	"treillage/walk"
)

// sample has nodes of all kinds, below the document and beside it; Kids stand otherwise than they are numbered.
func sample() forest.Forest {
	return forest.Forest{
		{Kind: forest.Doc, Parent: -1, Kids: []int{6, 1}},
		{Kind: forest.Element, Name: "div", Attrs: attrs("id", "a", "class", "x y"), Parent: 0, Kids: []int{3, 2, 4}},
		{Kind: forest.Element, Name: "p", Attrs: attrs("n", "", "id", "b"), Parent: 1, Kids: []int{5}},
		{Kind: forest.Text, Text: "x<", Parent: 1},
		{Kind: forest.Comment, Text: "&", Parent: 1},
		{Kind: forest.Text, Text: "y\xff", Parent: 2},
		{Kind: forest.Comment, Text: "d", Parent: 0},
		{Kind: forest.Element, Name: "q", Attrs: attrs("id", "q", "t", `"`), Parent: -1, Kids: []int{9, 8}},
		{Kind: forest.Element, Name: "P", Attrs: attrs("class", "x", "id", "b"), Parent: 7},
		{Kind: forest.Text, Parent: 7},
		{Kind: forest.Text, Text: "z", Parent: -1},
		{Kind: forest.Element, Name: "s", Attrs: attrs("id", ""), Parent: -1},
		{Kind: forest.Comment, Parent: -1},
	}
}

// attrs are attributes, each told as its Name and its Value.
func attrs(l ...string) []forest.Attr {
	var made []forest.Attr
	for i := 0; i < len(l); i += 2 {
		made = append(made, forest.Attr{Name: l[i], Value: l[i+1]})
	}
	return made
}

// chain is of n nodes, each below the one ahead of it.
func chain(n int) forest.Forest {
	f := forest.New()
	for len(f) < n {
		f[len(f)-1].Kids = []int{len(f)}
		f = append(f, forest.Node{Kind: forest.Element, Name: "a", Parent: len(f) - 1})
	}
	return f
}

// operations make f of the document alone.
func operations(f forest.Forest) []op.Op {
	var l []op.Op
	for id, n := range f {
		switch n.Kind {
		case forest.Element:
			l = append(l, op.Op{Kind: op.NewElement, Name: n.Name})
		case forest.Text:
			l = append(l, op.Op{Kind: op.NewText, Text: n.Text})
		case forest.Comment:
			l = append(l, op.Op{Kind: op.NewComment, Text: n.Text})
		}
		for _, a := range n.Attrs {
			l = append(l, op.Op{Kind: op.SetAttr, Id: id, Name: a.Name, Text: a.Value})
		}
	}
	for to, n := range f {
		for at, id := range n.Kids {
			l = append(l, op.Op{Kind: op.Insert, Id: id, To: to, At: at})
		}
	}
	return l
}

// held is a forest, and a version in a tree that has its nodes.
type held struct {
	f forest.Forest
	t tree.Tree
	v tree.Version
}

// hold makes f in a tree of arenas of that size, in which there is nothing but the last version.
func hold(t *testing.T, f forest.Forest, size int) held {
	t.Helper()
	x, v, e := tree.New(size, size)
	if e != api.OK {
		t.Fatal(e)
	}
	for l := range slices.Chunk(operations(f), api.MaxOps) {
		var left tree.Gone
		if x, v, left, _, e = tree.Apply(x, v, l); e != api.OK {
			t.Fatalf("Apply of %s: error %d", told(l), e)
		}
		if x, e = tree.Free(x, left); e != api.OK {
			t.Fatal(e)
		}
	}
	return held{f, x, v}
}

// told has all of what it is given.
func told(x any) string { return fmt.Sprintf("%#v", x) }

// nums is an answer of numbers.
func nums(l ...int) Answer { return Answer{Nums: l} }

// says is an answer of a text.
func says(s string) Answer { return Answer{Text: s} }

// fails is an answer of an error, and of nothing else.
func fails(e api.Errno) Answer { return Answer{E: e} }

// misfit is the answer to a selector that is none from that place on.
func misfit(place int) Answer { return Answer{Nums: []int{place}, E: api.ErrSyntax} }

// isAnswer does not ask the program whether two answers are alike.
func isAnswer(a, b Answer) bool {
	return slices.Equal(a.Nums, b.Nums) && a.Text == b.Text && a.E == b.E
}

// asked holds both calls against an answer, and asks that all that they were handed stays.
func asked(t *testing.T, h held, q Query, want Answer) {
	t.Helper()
	was, query := told(h), q
	if a := Of(h.f, q); !isAnswer(a, want) {
		t.Errorf("Of %+v = %+v, want %+v", q, a, want)
	}
	if a := Ask(h.t, h.v, q); !isAnswer(a, want) {
		t.Errorf("Ask of %+v = %+v, want %+v", q, a, want)
	}
	if told(h) != was || q != query {
		t.Errorf("%+v: what was handed in does not stay", q)
	}
}

// noNodes are numbers that are no node of f, if it has at most 60.
func noNodes(f forest.Forest) []int {
	return []int{math.MinInt, math.MinInt32, -60, -2, -1, len(f), len(f) + 1, 60, 61, 1 << 32, math.MaxInt}
}

// kinds are all that there are.
func kinds() []int {
	return []int{Parent, Kids, Beside, Order, Content, Attr, ById, Select, Print}
}

// noKinds are numbers that are none.
func noKinds() []int {
	return []int{0, -1, -8, 10, 11, 18, 256 + Parent, 1<<32 + Parent, math.MinInt, math.MaxInt}
}

// places tells selectors that are none, and the byte that can not stand there.
func places() map[string]int {
	return map[string]int{
		"": 0, " ": 1, "1": 0, ",": 0, "\xc3\xa4": 0, "a\x00": 1, "a >": 3, "a > > b": 4, "a,>b": 2, "a,": 2, "**": 1, "#": 1, "a b c !": 6,
		"[a": 2, `[a="x`: 5, "[a=]": 3, "a]": 1, strings.Repeat("a", 21): 20, "a " + strings.Repeat("b ", 149) + ">": 301,
		strings.Repeat(" ", 600): 600,
	}
}

func TestSampleMayBe(t *testing.T) {
	if !forest.May(sample()) {
		t.Fatal("the sample may not be")
	}
	h := hold(t, sample(), 40)
	if f, e := tree.Read(h.t, h.v); e != api.OK || !forest.Same(f, h.f) {
		t.Fatalf("the tree has %s, error %d", told(f), e)
	}
}

// P13.1: the kinds have the numbers that the document says.
func TestKinds(t *testing.T) {
	if !slices.Equal(kinds(), []int{1, 2, 3, 4, 5, 6, 7, 8, 9}) {
		t.Error(kinds())
	}
}

// The chapter's example.
func TestExample(t *testing.T) {
	asked(t, hold(t, forest.New(), 1), Query{Kind: Select, Text: "*"}, nums())
}

// P13.1
func TestParent(t *testing.T) {
	h := hold(t, sample(), 40)
	for id, parent := range map[int]int{1: 0, 6: 0, 2: 1, 3: 1, 4: 1, 5: 2, 8: 7, 9: 7} {
		asked(t, h, Query{Kind: Parent, Id: id}, nums(parent))
	}
	for _, id := range []int{0, 7, 10, 11, 12} {
		asked(t, h, Query{Kind: Parent, Id: id}, fails(api.ErrNone))
	}
}

// P13.1
func TestKids(t *testing.T) {
	h := hold(t, sample(), 40)
	for id, kids := range map[int][]int{0: {6, 1}, 1: {3, 2, 4}, 2: {5}, 7: {9, 8}, 3: nil, 4: nil, 5: nil, 6: nil, 8: nil, 9: nil, 10: nil, 11: nil, 12: nil} {
		asked(t, h, Query{Kind: Kids, Id: id}, nums(kids...))
	}
	asked(t, hold(t, forest.New(), 1), Query{Kind: Kids}, nums())
}

// P13.1
func TestBeside(t *testing.T) {
	h := hold(t, sample(), 40)
	for _, c := range []struct{ id, by, beside int }{
		{3, 0, 3}, {3, 1, 2}, {3, 2, 4}, {2, -1, 3}, {2, 0, 2}, {2, 1, 4}, {4, -2, 3}, {4, -1, 2}, {4, 0, 4},
		{6, 1, 1}, {1, -1, 6}, {5, 0, 5}, {8, -1, 9}, {9, 1, 8},
	} {
		asked(t, h, Query{Kind: Beside, Id: c.id, By: c.by}, nums(c.beside))
	}
	for _, c := range []struct{ id, by int }{
		{3, -1}, {3, 3}, {4, 1}, {4, -3}, {2, 2}, {2, -2}, {5, 1}, {5, -1}, {1, 1}, {6, -1},
		{3, math.MinInt}, {3, math.MaxInt}, {4, math.MinInt}, {4, math.MaxInt}, {3, 1 << 32}, {3, -1 << 32},
	} {
		asked(t, h, Query{Kind: Beside, Id: c.id, By: c.by}, fails(api.ErrNone))
	}
	for _, id := range []int{0, 7, 10, 11, 12} {
		for _, by := range []int{math.MinInt, -1, 0, 1, math.MaxInt} {
			asked(t, h, Query{Kind: Beside, Id: id, By: by}, fails(api.ErrNone))
		}
	}
}

// P13.1: the Kid that is told may be told of each place around it, in a long row too.
func TestBesideOfMany(t *testing.T) {
	f := chain(2)
	for len(f) < 60 {
		f[1].Kids = slices.Insert(f[1].Kids, 0, len(f))
		f = append(f, forest.Node{Kind: forest.Text, Text: "t", Parent: 1})
	}
	h := hold(t, f, 200)
	for id := 2; id < 60; id++ {
		for _, by := range []int{-58, -57, -3, -1, 0, 1, 29, 57, 58} {
			want := fails(api.ErrNone)
			if id-by >= 2 && id-by < 60 {
				want = nums(id - by)
			}
			asked(t, h, Query{Kind: Beside, Id: id, By: by}, want)
		}
	}
}

// P13.1
func TestOrder(t *testing.T) {
	h := hold(t, sample(), 40)
	for id, order := range map[int][]int{
		0: {0, 6, 1, 3, 2, 5, 4}, 1: {1, 3, 2, 5, 4}, 2: {2, 5}, 7: {7, 9, 8},
		3: {3}, 4: {4}, 5: {5}, 6: {6}, 8: {8}, 9: {9}, 10: {10}, 11: {11}, 12: {12},
	} {
		asked(t, h, Query{Kind: Order, Id: id}, nums(order...))
	}
	asked(t, hold(t, forest.New(), 1), Query{Kind: Order}, nums(0))
	var all []int
	for id := range 60 {
		all = append(all, id)
	}
	deep := hold(t, chain(60), 200)
	for _, id := range []int{0, 1, 30, 58, 59} {
		asked(t, deep, Query{Kind: Order, Id: id}, nums(all[id:]...))
	}
}

// P13.1
func TestContent(t *testing.T) {
	h := hold(t, sample(), 40)
	for id, s := range map[int]string{0: "x<y\xff", 1: "x<y\xff", 2: "y\xff", 3: "x<", 4: "", 5: "y\xff", 6: "", 7: "", 8: "", 9: "", 10: "z", 11: "", 12: ""} {
		asked(t, h, Query{Kind: Content, Id: id}, says(s))
	}
	asked(t, hold(t, forest.New(), 1), Query{Kind: Content}, says(""))
}

// P13.1
func TestAttr(t *testing.T) {
	h := hold(t, sample(), 40)
	for _, c := range []struct {
		id          int
		name, value string
	}{
		{1, "id", "a"}, {1, "class", "x y"}, {2, "n", ""}, {2, "id", "b"}, {7, "t", `"`}, {8, "class", "x"}, {11, "id", ""},
	} {
		asked(t, h, Query{Kind: Attr, Id: c.id, Text: c.name}, says(c.value))
	}
	names := []string{"", "a", "N", "ID", " id", "id ", "i", "b", "x", "\xff", strings.Repeat("n", 600)}
	for _, id := range []int{1, 2, 7, 8, 11} {
		for _, name := range names {
			asked(t, h, Query{Kind: Attr, Id: id, Text: name}, fails(api.ErrAttr))
		}
	}
	for _, id := range []int{0, 3, 4, 5, 6, 9, 10, 12} {
		for _, name := range append(names, "id", "class") {
			asked(t, h, Query{Kind: Attr, Id: id, Text: name}, fails(api.ErrKind))
		}
	}
	for _, id := range noNodes(h.f) {
		for _, name := range append(names, "id") {
			asked(t, h, Query{Kind: Attr, Id: id, Text: name}, fails(api.ErrNode))
		}
	}
}

// P13.1: the first one in the document is told; what stands beside the document has no say, nor has Id.
func TestById(t *testing.T) {
	h := hold(t, sample(), 40)
	for _, id := range append(noNodes(h.f), 0, 1, 7, 10) {
		asked(t, h, Query{Kind: ById, Id: id, Text: "a"}, nums(1))
		asked(t, h, Query{Kind: ById, Id: id, Text: "b"}, nums(2))
		for _, text := range []string{"", "q", "z", "A", "a ", " a", "x", "div", "#a", strings.Repeat("a", 600)} {
			asked(t, h, Query{Kind: ById, Id: id, Text: text}, fails(api.ErrNone))
		}
	}
	asked(t, hold(t, forest.New(), 1), Query{Kind: ById, Text: "a"}, fails(api.ErrNone))
	twins := sample()
	twins[0].Kids, twins[1].Parent, twins[1].Attrs = []int{6, 7}, -1, nil
	twins[7].Parent = 0
	asked(t, hold(t, twins, 40), Query{Kind: ById, Text: "b"}, nums(8))
}

// P13.1
func TestSelect(t *testing.T) {
	h := hold(t, sample(), 40)
	for _, c := range []struct {
		id    int
		text  string
		found []int
	}{
		{0, "*", []int{1, 2}}, {1, "*", []int{1, 2}}, {2, "*", []int{2}}, {7, "*", []int{7, 8}}, {8, "*", []int{8}}, {11, "*", []int{11}},
		{0, "div", []int{1}}, {0, "DIV", []int{1}}, {0, "p", []int{2}}, {7, "p", []int{8}}, {0, "p, div", []int{1, 2}}, {0, "div, div", []int{1}},
		{0, "#a", []int{1}}, {0, "#b", []int{2}}, {7, "#b", []int{8}}, {0, ".x", []int{1}}, {0, ".y.x#a", []int{1}}, {7, "[t]", []int{7}}, {7, "[class=x]", []int{8}},
		{0, "[n=\"\"]", []int{2}}, {0, " div\t>\np ", []int{2}}, {2, "div p", []int{2}}, {2, "div > p", []int{2}}, {8, "q p", []int{8}},
	} {
		asked(t, h, Query{Kind: Select, Id: c.id, Text: c.text}, nums(c.found...))
	}
	// What is found by nobody is no error, nor is a node that no selector finds.
	for _, text := range []string{"zz", "p div", "#q", "#z", ".X", "div > div", "p p", "[m]", "[id=c]", "[t=\"'\"]", "q p"} {
		asked(t, h, Query{Kind: Select, Text: text}, nums())
	}
	for _, id := range []int{3, 4, 5, 6, 9, 10, 12} {
		asked(t, h, Query{Kind: Select, Id: id, Text: "*"}, nums())
		asked(t, h, Query{Kind: Select, Id: id, Text: "div, p, q"}, nums())
	}
	asked(t, hold(t, chain(60), 200), Query{Kind: Select, Id: 57, Text: "a > a a"}, nums(57, 58, 59))
}

// P13.1: a selector that is none is told of, with its place, ahead of an Id that is no node.
func TestSelectOfNone(t *testing.T) {
	h, alone := hold(t, sample(), 40), hold(t, forest.New(), 1)
	for text, place := range places() {
		for _, id := range append(noNodes(h.f), 0, 1, 5, 7, 10, 12) {
			asked(t, h, Query{Kind: Select, Id: id, Text: text}, misfit(place))
		}
		asked(t, alone, Query{Kind: Select, Text: text}, misfit(place))
	}
	for _, id := range noNodes(h.f) {
		for _, text := range []string{"*", "div", "a > #k, a", "zz"} {
			asked(t, h, Query{Kind: Select, Id: id, Text: text}, fails(api.ErrNode))
		}
	}
}

// P13.1
func TestPrint(t *testing.T) {
	h := hold(t, sample(), 40)
	p := `<p n="" id="b">` + "y\xff</p>"
	div := `<div id="a" class="x y">x&lt;` + p + `<!&amp;!></div>`
	for id, s := range map[int]string{
		0: "<!d!>" + div, 1: div, 2: p, 3: "x&lt;", 4: "<!&amp;!>", 5: "y\xff", 6: "<!d!>",
		7: `<q id="q" t="&quot;"><P class="x" id="b"></P></q>`, 8: `<P class="x" id="b"></P>`, 9: "", 10: "z", 11: `<s id=""></s>`, 12: "<!!>",
	} {
		asked(t, h, Query{Kind: Print, Id: id}, says(s))
	}
	asked(t, hold(t, forest.New(), 1), Query{Kind: Print}, says(""))
}

// P13.1: of all kinds but ById.
func TestNoNode(t *testing.T) {
	for _, h := range []held{hold(t, sample(), 40), hold(t, forest.New(), 1), hold(t, chain(60), 200)} {
		for _, id := range noNodes(h.f) {
			for _, kind := range kinds() {
				for _, by := range []int{math.MinInt, -1, 0, 1, math.MaxInt} {
					if kind != ById {
						asked(t, h, Query{Kind: kind, Id: id, By: by, Text: "a"}, fails(api.ErrNode))
					}
				}
			}
		}
	}
}

// P13.1: whatever else is asked, and be that wrong, too.
func TestNoKind(t *testing.T) {
	for _, h := range []held{hold(t, sample(), 40), hold(t, forest.New(), 1)} {
		for _, kind := range noKinds() {
			for _, id := range append(noNodes(h.f), 0, 1) {
				for _, text := range []string{"", "id", "a", "a >"} {
					asked(t, h, Query{Kind: kind, Id: id, By: 1, Text: text}, fails(api.ErrArg))
				}
			}
		}
	}
	asked(t, hold(t, sample(), 40), Query{}, fails(api.ErrArg))
}

// P13.1: what its Kind does not ask of has no say.
func TestWhatIsNotAsked(t *testing.T) {
	h := hold(t, sample(), 40)
	for id := range h.f {
		for _, by := range []int{math.MinInt, -1, 0, 1, 7, math.MaxInt} {
			for _, text := range []string{"", "id", "a", "*", "a >", strings.Repeat("t", 600)} {
				for _, kind := range []int{Parent, Kids, Order, Content, Print} {
					asked(t, h, Query{Kind: kind, Id: id, By: by, Text: text}, Of(h.f, Query{Kind: kind, Id: id}))
				}
				asked(t, h, Query{Kind: Beside, Id: id, By: by, Text: text}, Of(h.f, Query{Kind: Beside, Id: id, By: by}))
				asked(t, h, Query{Kind: Attr, Id: id, By: by, Text: text}, Of(h.f, Query{Kind: Attr, Id: id, Text: text}))
				asked(t, h, Query{Kind: ById, Id: id, By: by, Text: text}, Of(h.f, Query{Kind: ById, Text: text}))
				asked(t, h, Query{Kind: Select, Id: id, By: by, Text: text}, Of(h.f, Query{Kind: Select, Id: id, Text: text}))
			}
		}
	}
}

// byRule is what P13.1 says, word by word.
func byRule(f forest.Forest, q Query) Answer {
	var a Answer
	var n int
	switch q.Kind {
	case Parent:
		n, a.E = walk.Parent(f, q.Id)
		a.Nums = []int{n}
	case Beside:
		n, a.E = walk.Beside(f, q.Id, q.By)
		a.Nums = []int{n}
	case ById:
		n, a.E = walk.ById(f, q.Text)
		a.Nums = []int{n}
	case Kids:
		a.Nums, a.E = walk.Kids(f, q.Id)
	case Order:
		a.Nums, a.E = walk.Order(f, q.Id)
	case Content:
		a.Text, a.E = walk.Content(f, q.Id)
	case Attr:
		a.Text, a.E = walk.Attr(f, q.Id, q.Text)
	case Select:
		l, place, e := sel.Parse(q.Text)
		if e != api.OK {
			return misfit(place)
		}
		a.Nums = find.All(f, q.Id, l)
		if q.Id < 0 || q.Id >= len(f) {
			a.E = api.ErrNode
		}
	case Print:
		a.Text = forest.Print(f, q.Id)
		if q.Id < 0 || q.Id >= len(f) {
			a.E = api.ErrNode
		}
	default:
		a.E = api.ErrArg
	}
	if a.E != api.OK {
		return fails(a.E)
	}
	return a
}

// dice is a run of numbers that is always the same.
type dice uint32

func (d *dice) roll(n int) int {
	*d = *d*1664525 + 1013904223
	return int(*d>>8) % n
}

func (d *dice) pick(l ...string) string { return l[d.roll(len(l))] }

// thrownOp is an operation that is likely to be done in a forest of so many nodes.
func thrownOp(d *dice, nodes int) op.Op {
	s, name := d.pick("", "a", "b", "&<", "x y\xff", strings.Repeat("t", 60)), d.pick("a", "b", "c", "id", "class", "h1")
	id := d.roll(nodes)
	switch d.roll(14) {
	case 0, 1:
		return op.Op{Kind: op.NewElement, Name: name}
	case 2:
		return op.Op{Kind: op.NewText, Text: s}
	case 3:
		return op.Op{Kind: op.NewComment, Text: s}
	case 4:
		return op.Op{Kind: op.Remove, Id: id}
	case 5, 6:
		return op.Op{Kind: op.SetAttr, Id: id, Name: name, Text: s}
	case 7:
		return op.Op{Kind: op.DelAttr, Id: id, Name: name}
	case 8:
		return op.Op{Kind: op.SetText, Id: id, Text: s}
	case 9:
		return op.Op{Kind: op.Insert, Id: id}
	}
	return op.Op{Kind: op.Insert, Id: id, To: d.roll(nodes), At: d.roll(3)}
}

// transaction is some operations that are done, one behind the other, and the forest that comes of them.
func transaction(d *dice, f forest.Forest, tries int) ([]op.Op, forest.Forest) {
	var l []op.Op
	for range tries {
		o := thrownOp(d, len(f))
		if g, e := apply.One(f, o); e == api.OK {
			f = g
			l = append(l, o)
		}
	}
	return l, f
}

// queries are of each kind, of all nodes of f and of numbers that are none.
func queries(f forest.Forest) []Query {
	l := []Query{{}, {Kind: 10}}
	for _, text := range []string{"", "a", "b", "zz", "x y\xff"} {
		l = append(l, Query{Kind: ById, Text: text})
	}
	for id := -1; id <= len(f); id++ {
		for _, kind := range []int{Parent, Kids, Order, Content, Print} {
			l = append(l, Query{Kind: kind, Id: id})
		}
		for by := -3; by <= 3; by++ {
			l = append(l, Query{Kind: Beside, Id: id, By: by})
		}
		for _, name := range []string{"", "a", "id", "class"} {
			l = append(l, Query{Kind: Attr, Id: id, Text: name})
		}
		for _, text := range []string{"*", "a b, #a", "a > *", ".x[id]", "zz", "a >", ""} {
			l = append(l, Query{Kind: Select, Id: id, Text: text})
		}
	}
	return l
}

// isAsRuled asks a forest, and a version that has its nodes, all queries, and holds what they answer against the rule.
func isAsRuled(t *testing.T, h held, l []Query) {
	t.Helper()
	was := told(h)
	for _, q := range l {
		want := byRule(h.f, q)
		if a := Of(h.f, q); !isAnswer(a, want) {
			t.Fatalf("Of %s, %+v = %+v, want %+v", told(h.f), q, a, want)
		}
		if a := Ask(h.t, h.v, q); !isAnswer(a, want) {
			t.Fatalf("Ask of %s, %+v = %+v, want %+v", told(h.f), q, a, want)
		}
	}
	if told(h) != was {
		t.Fatalf("%s became %s", was, told(h))
	}
}

// P13.1, P13.2
func TestByRule(t *testing.T) {
	for _, f := range []forest.Forest{sample(), forest.New(), chain(60)} {
		isAsRuled(t, hold(t, f, 200), queries(f))
	}
	for seed := range 30 {
		d := dice(seed)
		_, f := transaction(&d, forest.New(), 1+d.roll(100))
		isAsRuled(t, hold(t, f, 300), queries(f))
	}
}

// wrong are queries of which much is wrong at once, beside some of which nothing is.
func wrong() []Query {
	var l []Query
	for _, kind := range append(noKinds(), kinds()...) {
		for _, id := range append(noNodes(sample()), 0, 1) {
			for text := range places() {
				l = append(l, Query{Kind: kind, Id: id, Text: text})
			}
		}
	}
	return l
}

// stale asks that each of these queries of v tells just that it is gone.
func stale(t *testing.T, x tree.Tree, v tree.Version, l []Query) {
	t.Helper()
	was := told(x)
	for _, q := range l {
		if a := Ask(x, v, q); !isAnswer(a, fails(api.ErrStale)) {
			t.Fatalf("Ask of %+v, of a version that is gone: %+v", q, a)
		}
	}
	if told(x) != was {
		t.Errorf("the tree does not stay")
	}
}

// P13.2: one handle that is gone is enough, whatever is asked, and be that wrong, too.
func TestAskOfWhatIsGone(t *testing.T) {
	h := hold(t, sample(), 40)
	all, e := tree.Reach(h.t, h.v)
	if e != api.OK {
		t.Fatal(e)
	}
	gone := []tree.Gone{all}
	for i := range all.Recs {
		gone = append(gone, tree.Gone{Recs: all.Recs[i : i+1]})
	}
	for i := range all.Chunks {
		gone = append(gone, tree.Gone{Chunks: all.Chunks[i : i+1]})
	}
	for _, g := range gone {
		x, e := tree.Free(h.t, g)
		if e != api.OK {
			t.Fatal(e)
		}
		stale(t, x, h.v, append(wrong(), queries(h.f)...))
	}
	isAsRuled(t, h, queries(h.f))
}

// P13.2: what is taken anew is not what was there.
func TestAskOfWhatIsTakenAnew(t *testing.T) {
	h := hold(t, sample(), 40)
	y, w, left, _, e := tree.Apply(h.t, h.v, []op.Op{{Kind: op.SetText, Id: 3, Text: "new"}})
	if e != api.OK {
		t.Fatal(e)
	}
	if y, e = tree.Free(y, left); e != api.OK {
		t.Fatal(e)
	}
	stale(t, y, h.v, queries(h.f))
	z, u, _, _, e := tree.Apply(y, w, []op.Op{{Kind: op.SetText, Id: 3, Text: "x<"}})
	if e != api.OK {
		t.Fatal(e)
	}
	if y.Slots.Used[left.Recs[0]&(1<<24-1)] || !z.Slots.Used[left.Recs[0]&(1<<24-1)] {
		t.Fatal("the slot is not taken anew")
	}
	stale(t, z, h.v, queries(h.f))
	isAsRuled(t, held{h.f, z, u}, queries(h.f))
	isAsRuled(t, h, queries(h.f))
}

// P13.2
func TestSame(t *testing.T) {
	some := []Answer{
		{}, nums(0), nums(0, 0), nums(1), nums(-1), nums(1, 2), nums(2, 1), nums(1, 2, 3), nums(1 << 32), says("a"), says("A"), says(" "), says("a "), says("\xff"),
		fails(api.ErrArg), fails(api.ErrNone), fails(api.ErrStale), fails(-1), fails(1<<32 + api.ErrArg), misfit(0), misfit(3),
		{Nums: []int{1}, Text: "a"}, {Nums: []int{1}, E: api.ErrArg}, {Text: "a", E: api.ErrArg}, {Nums: []int{1}, Text: "a", E: api.ErrArg},
		says(strings.Repeat("a", 600)), nums(make([]int, 250)...),
	}
	for i, a := range some {
		for j, b := range some {
			if Same(a, b) != (i == j) {
				t.Errorf("Same of %+v and %+v: %v", a, b, Same(a, b))
			}
		}
		b := Answer{Nums: append([]int{}, a.Nums...), Text: strings.Clone(a.Text), E: a.E}
		if !Same(a, b) || !Same(b, a) {
			t.Errorf("Same of %+v and its like is false", a)
		}
	}
	for _, e := range []api.Errno{api.OK, api.ErrArg} {
		for _, none := range [][]int{nil, {}, make([]int, 0, 9)} {
			a, b := Answer{Nums: none, Text: "a", E: e}, Answer{Text: "a", E: e}
			if !Same(a, b) || !Same(b, a) || Same(a, Answer{Nums: []int{0}, Text: "a", E: e}) || Same(Answer{Nums: []int{0}, Text: "a", E: e}, a) {
				t.Errorf("a list without numbers, %#v, is not as none", none)
			}
		}
	}
}

// P13.2: answers stay as they were.
func TestSameLeavesBoth(t *testing.T) {
	l, m := []int{3, 1, 2, 77}, []int{3, 1, 2, 88}
	if !Same(nums(l[:3]...), nums(m[:3]...)) || !slices.Equal(l, []int{3, 1, 2, 77}) || !slices.Equal(m, []int{3, 1, 2, 88}) {
		t.Error(l, m)
	}
}

// moment is a version, the forest that it must read as, and what it has in the arenas.
type moment struct {
	f   forest.Forest
	v   tree.Version
	has tree.Gone
}

// at is the moment of a version of x.
func at(t *testing.T, x tree.Tree, v tree.Version, f forest.Forest) moment {
	t.Helper()
	has, e := tree.Reach(x, v)
	if e != api.OK {
		t.Fatal(e)
	}
	return moment{f, v, has}
}

// shares says whether both have one handle.
func shares(a, b tree.Gone) bool {
	in := func(l []uint64) func(uint64) bool { return func(h uint64) bool { return slices.Contains(l, h) } }
	return slices.ContainsFunc(a.Recs, in(b.Recs)) || slices.ContainsFunc(a.Chunks, in(b.Chunks))
}

// P13.3: each version is answered as ever, whatever was applied to it, and to others.
func TestVersionsStay(t *testing.T) {
	for seed := range 3 {
		d := dice(seed)
		x, v, e := tree.New(500, 500)
		if e != api.OK {
			t.Fatal(e)
		}
		all := []moment{at(t, x, v, forest.New())}
		for range 10 {
			// Not only the last one goes on: versions branch.
			from := all[d.roll(len(all))]
			l, f := transaction(&d, from.f, 8)
			if x, v, _, _, e = tree.Apply(x, from.v, l); e != api.OK {
				t.Fatalf("Apply of %s: error %d", told(l), e)
			}
			all = append(all, at(t, x, v, f))
			for _, m := range all {
				isAsRuled(t, held{m.f, x, m.v}, queries(m.f))
			}
		}
		// Behind a Free just those are gone that have what was freed.
		for _, m := range all {
			g := tree.Gone{Recs: m.has.Recs[len(m.has.Recs)-1:], Chunks: m.has.Chunks[:1]}
			y, e := tree.Free(x, g)
			if e != api.OK {
				t.Fatal(e)
			}
			for _, m := range all {
				if shares(m.has, g) {
					stale(t, y, m.v, queries(m.f))
				} else {
					isAsRuled(t, held{m.f, y, m.v}, queries(m.f))
				}
			}
		}
	}
}

// P13.3: in small arenas, where slots are taken anew again and again; the last two versions are held.
func TestHeldVersionStays(t *testing.T) {
	for seed := range 3 {
		d := dice(100 + seed)
		h := hold(t, sample(), 60)
		var before *held
		var left tree.Gone
		for range 15 {
			l, f := transaction(&d, h.f, 3)
			if len(f) > 20 {
				f, l = h.f, nil
			}
			x, v, gone, _, e := tree.Apply(h.t, h.v, l)
			if e != api.OK {
				t.Fatalf("Apply of %s: error %d", told(l), e)
			}
			isAsRuled(t, held{h.f, x, h.v}, queries(h.f))
			if before != nil {
				isAsRuled(t, held{before.f, x, before.v}, queries(before.f))
			}
			if x, e = tree.Free(x, left); e != api.OK {
				t.Fatal(e)
			}
			if before != nil && len(left.Chunks) > 0 {
				stale(t, x, before.v, queries(before.f))
			}
			before, left = &held{h.f, x, h.v}, gone
			isAsRuled(t, *before, queries(h.f))
			h = held{f, x, v}
			isAsRuled(t, h, queries(f))
		}
	}
}

// P13.3: what is refused changes nothing.
func TestRefusedTransactions(t *testing.T) {
	h := hold(t, sample(), 24)
	for _, l := range [][]op.Op{
		{{Kind: op.SetText, Id: 3, Text: "new"}, {Kind: op.Remove, Id: 99}}, {{Kind: 77}},
		slices.Repeat([]op.Op{{Kind: op.NewElement, Name: "a"}}, 12),
	} {
		x, v, _, _, e := tree.Apply(h.t, h.v, l)
		if e == api.OK {
			t.Fatalf("Apply of %s is done", told(l))
		}
		isAsRuled(t, held{h.f, x, v}, queries(h.f))
		isAsRuled(t, held{h.f, x, h.v}, queries(h.f))
	}
}

// roomy is f, with room behind each of its lists that is not to be written into.
func roomy(f forest.Forest) forest.Forest {
	g := append(slices.Clone(f), forest.Node{Name: "behind"})[:len(f)]
	for i, n := range g {
		g[i].Attrs = append(slices.Clone(n.Attrs), forest.Attr{Name: "behind"})[:len(n.Attrs)]
		g[i].Kids = append(slices.Clone(n.Kids), 77)[:len(n.Kids)]
	}
	return g
}

// whole is f, with what stands behind the ends of its lists.
func whole(f forest.Forest) string {
	s := told(f[:len(f)+1])
	for _, n := range f {
		s += told(n.Attrs[:len(n.Attrs)+1]) + told(n.Kids[:len(n.Kids)+1])
	}
	return s
}

// scribble writes over a list, and over what stands behind its end.
func scribble(l []int) {
	for i := range l[:cap(l)] {
		l[:cap(l)][i] += 77
	}
}

// R4: forests, trees and versions stay behind every query, also if its answer is written over; asked again, it is the same.
func TestWhatIsHandedInStays(t *testing.T) {
	h := hold(t, sample(), 40)
	f := roomy(h.f)
	was, tells := whole(f), told(h)
	for _, q := range queries(h.f) {
		want := byRule(h.f, q)
		for range 2 {
			a, b := Of(f, q), Ask(h.t, h.v, q)
			if !isAnswer(a, want) || !isAnswer(b, want) {
				t.Fatalf("%+v: %+v and %+v, want %+v", q, a, b, want)
			}
			scribble(a.Nums)
			scribble(b.Nums)
			if whole(f) != was || told(h) != tells {
				t.Fatalf("%+v: what was handed in does not stay", q)
			}
		}
	}
}

// An answer hangs on nothing that was handed in.
func TestAnswersShareNothing(t *testing.T) {
	for _, q := range queries(sample()) {
		f, h := sample(), hold(t, sample(), 40)
		want := byRule(sample(), q)
		a, b := Of(f, q), Ask(h.t, h.v, q)
		for i := range f {
			scribble(f[i].Kids)
			f[i] = forest.Node{Name: "over"}
		}
		for i := range h.t.Pool.Chunks {
			for j := range h.t.Pool.Chunks[i].Items {
				h.t.Pool.Chunks[i].Items[j] += 77
			}
		}
		if !isAnswer(a, want) || !isAnswer(b, want) {
			t.Fatalf("%+v: %+v and %+v, want %+v", q, a, b, want)
		}
	}
}

// R6: lists without elements and nil lists are alike.
func TestEmptyListsAreAlike(t *testing.T) {
	f := sample()
	for i, n := range f {
		f[i].Attrs, f[i].Kids = append([]forest.Attr{}, n.Attrs...), append([]int{}, n.Kids...)
	}
	h := hold(t, sample(), 40)
	for _, q := range queries(f) {
		if a, b := Of(f, q), Ask(h.t, h.v, q); !Same(a, b) || !Same(b, a) {
			t.Errorf("%+v: %+v and %+v", q, a, b)
		}
	}
}

// Of forests that may not be nothing is said: the calls end, and leave them as they were; no number is a node of them.
func TestForestsThatMayNotBe(t *testing.T) {
	for _, f := range []forest.Forest{
		nil, {}, chain(61), make(forest.Forest, 70),
		{{Parent: -1, Kids: []int{5}}}, {{Parent: 0, Kids: []int{0}}}, {{Parent: -1, Kids: []int{0}}},
		{{Parent: -1}, {Kind: forest.Element, Name: "a", Parent: 1, Kids: []int{1}}},
		{{Parent: -1}, {Kind: forest.Element, Name: "a", Parent: 2, Kids: []int{2}}, {Kind: forest.Element, Name: "a", Parent: 1, Kids: []int{1}}},
		{{Parent: -1}, {Kind: 9, Parent: math.MinInt, Kids: []int{math.MaxInt}}},
	} {
		was := told(f)
		for _, kind := range kinds() {
			for _, id := range append(noNodes(f), 0, 1, 2) {
				want := api.ErrNode
				if kind == ById {
					want = api.ErrNone
				}
				if a := Of(f, Query{Kind: kind, Id: id, Text: "a"}); !isAnswer(a, fails(want)) {
					t.Errorf("Of %s, %d, %d = %+v", was, kind, id, a)
				}
			}
		}
		if told(f) != was {
			t.Errorf("%s became %s", was, told(f))
		}
	}
}

// FuzzSnap holds any query, of forests that are thrown and of versions that have their nodes, against the rule.
func FuzzSnap(f *testing.F) {
	f.Add(Parent, 1, 0, "", uint32(0))
	f.Add(Beside, 2, -1, "", uint32(1))
	f.Add(Attr, 1, 0, "id", uint32(2))
	f.Add(ById, 0, 0, "a", uint32(3))
	f.Add(Select, 0, 0, "a > #b, *", uint32(4))
	f.Add(Select, 99, 0, "a >", uint32(5))
	f.Add(Print, -1, 0, "", uint32(6))
	f.Add(10, 0, 0, "", uint32(7))
	f.Fuzz(func(t *testing.T, kind, id, by int, text string, seed uint32) {
		if len(text) > 600 {
			return
		}
		d := dice(seed)
		_, g := transaction(&d, forest.New(), d.roll(100))
		h := hold(t, g, 300)
		isAsRuled(t, h, []Query{{kind, id, by, text}, {kind % 11, id % 61, by % 9, text}})
		l, _ := transaction(&d, g, 5)
		x, _, left, _, e := tree.Apply(h.t, h.v, l)
		if e != api.OK {
			t.Fatal(e)
		}
		isAsRuled(t, held{g, x, h.v}, []Query{{kind, id, by, text}, {kind % 11, id % 61, by % 9, text}})
		if x, e = tree.Free(x, left); e != api.OK {
			t.Fatal(e)
		}
		if a := Ask(x, h.v, Query{kind, id, by, text}); len(left.Chunks) > 0 && !isAnswer(a, fails(api.ErrStale)) {
			t.Fatalf("%+v of a version that is gone", a)
		}
	})
}

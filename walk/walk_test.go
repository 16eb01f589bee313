package walk

import (
	"fmt"
	"math"
	"slices"
	"strconv"
	"strings"
	"testing"

	"treillage/api"
	"treillage/forest"
)

// sample has nodes of all kinds, below the document and beside it; Kids stand otherwise than they are numbered.
func sample() forest.Forest {
	return forest.Forest{
		{Kind: forest.Doc, Parent: -1, Kids: []int{6, 1, 12}},
		{Kind: forest.Element, Name: "div", Attrs: attrs("id", "a", "class", "b c", "k", ""), Parent: 0, Kids: []int{3, 4, 2, 13}},
		{Kind: forest.Element, Name: "p", Attrs: attrs("n", "a", "id", "b"), Parent: 1, Kids: []int{5, 11}},
		{Kind: forest.Text, Text: "x<", Parent: 1},
		{Kind: forest.Comment, Text: "c", Parent: 1},
		{Kind: forest.Text, Text: "y", Parent: 2},
		{Kind: forest.Comment, Text: "d", Parent: 0},
		{Kind: forest.Element, Name: "q", Attrs: attrs("id", "q"), Parent: -1, Kids: []int{9, 8}},
		{Kind: forest.Element, Name: "r", Attrs: attrs("id", "b"), Parent: 7},
		{Kind: forest.Text, Text: "r", Parent: 7},
		{Kind: forest.Text, Text: "z", Parent: -1},
		{Kind: forest.Element, Name: "b", Attrs: attrs("id", "e", "ID", "f"), Parent: 2},
		{Kind: forest.Comment, Text: "", Parent: 0},
		{Kind: forest.Text, Text: "&\xff", Parent: 1},
		{Kind: forest.Comment, Text: "alone", Parent: -1},
		{Kind: forest.Element, Name: "s", Parent: -1},
	}
}

// attrs are attributes, each told as its Name and its Value.
func attrs(l ...string) []forest.Attr {
	var made []forest.Attr
	for i := 0; i < len(l); i += 2 {
		made = append(made, forest.Attr{Name: l[i], Value: l[i+1]})
	}
	return made
}

// node is one of that kind, with the least that it must have.
func node(kind, parent int) forest.Node {
	n := forest.Node{Kind: kind, Parent: parent}
	if kind == forest.Element {
		n.Name = "a"
	}
	return n
}

// loose is the document, and as many texts beside it as make n nodes.
func loose(n int) forest.Forest {
	f := forest.New()
	for len(f) < n {
		f = append(f, forest.Node{Kind: forest.Text, Text: "t", Parent: -1})
	}
	return f
}

// chain is of n nodes, each below the one ahead of it.
func chain(n int) forest.Forest {
	f := forest.New()
	for len(f) < n {
		f[len(f)-1].Kids = []int{len(f)}
		f = append(f, node(forest.Element, len(f)-1))
	}
	return f
}

// broad is of n nodes: an element below the document, and texts below that one, the last one first.
func broad(n int) forest.Forest {
	f := chain(2)
	for len(f) < n {
		f[1].Kids = slices.Insert(f[1].Kids, 0, len(f))
		f = append(f, forest.Node{Kind: forest.Text, Text: strconv.Itoa(len(f)) + ";", Parent: 1})
	}
	return f
}

// kept is a copy that shares nothing with f.
func kept(f forest.Forest) forest.Forest {
	c := slices.Clone(f)
	for i := range c {
		c[i].Attrs = slices.Clone(c[i].Attrs)
		c[i].Kids = slices.Clone(c[i].Kids)
	}
	return c
}

// told has all of a forest; lists without elements and nil lists are told alike.
func told(x any) string { return fmt.Sprintf("%+v", x) }

// noNodes are numbers that are no node of f, if it has at most 60.
func noNodes(f forest.Forest) []int {
	return []int{math.MinInt, -60, -2, -1, len(f), len(f) + 1, 60, 61, 1 << 32, math.MaxInt}
}

// someTexts are names and values, of attributes that a forest may have, and others.
func someTexts() []string {
	return []string{"", "a", "b", "c", "e", "f", "k", "q", "A", "id", "ID", "class", "n", "b c", " a", "\xff", strings.Repeat("t", 60), strings.Repeat("t", 300), strings.Repeat("t", 600)}
}

// above are id, and all that stand above it, the topmost first.
func above(f forest.Forest, id int) []int {
	var way []int
	for at := id; at != -1; at = f[at].Parent {
		way = append([]int{at}, way...)
	}
	return way
}

// places are where the nodes of the way down to id stand, each among its Parent's Kids.
func places(f forest.Forest, id int) []int {
	var l []int
	for _, at := range above(f, id)[1:] {
		l = append(l, slices.Index(f[f[at].Parent].Kids, at))
	}
	return l
}

// orderByRule goes up, where the program goes down: who comes by id on the way up is of its Order, sorted by the places on the way.
func orderByRule(f forest.Forest, id int) []int {
	var l []int
	for at := range f {
		if slices.Contains(above(f, at), id) {
			l = append(l, at)
		}
	}
	slices.SortFunc(l, func(a, b int) int { return slices.Compare(places(f, a), places(f, b)) })
	return l
}

// contentByRule is what is printed of nodes that are Texts, put together.
func contentByRule(f forest.Forest, id int) string {
	s := ""
	for _, at := range orderByRule(f, id) {
		s += map[int]string{forest.Text: f[at].Text}[f[at].Kind]
	}
	return s
}

// besideByRule goes step by step, or not at all, if there are more steps than there may be Kids.
func besideByRule(f forest.Forest, id, by int) (int, api.Errno) {
	if f[id].Parent == -1 || by > 60 || by < -60 {
		return 0, api.ErrNone
	}
	around := map[int]int{}
	kids := f[f[id].Parent].Kids
	for i, kid := range kids {
		around[i-slices.Index(kids, id)] = kid
	}
	if kid, is := around[by]; is {
		return kid, api.OK
	}
	return 0, api.ErrNone
}

// attrByRule is what P8.3 says, of a node.
func attrByRule(n forest.Node, name string) (string, api.Errno) {
	if n.Kind != forest.Element {
		return "", api.ErrKind
	}
	all := map[string]string{}
	for _, a := range n.Attrs {
		all[a.Name] = a.Value
	}
	if value, has := all[name]; has {
		return value, api.OK
	}
	return "", api.ErrAttr
}

// byIdByRule asks all nodes, and takes the one that stands first in the document.
func byIdByRule(f forest.Forest, text string) (int, api.Errno) {
	for _, at := range orderByRule(f, 0) {
		if slices.Contains(f[at].Attrs, forest.Attr{Name: "id", Value: text}) && text != "" {
			return at, api.OK
		}
	}
	return 0, api.ErrNone
}

// asksNode holds all calls but ById, of one node, against the rule.
func asksNode(t *testing.T, f forest.Forest, id int) {
	t.Helper()
	parent, e := Parent(f, id)
	if want := f[id].Parent; want == -1 && (parent != 0 || e != api.ErrNone) || want != -1 && (parent != want || e != api.OK) {
		t.Fatalf("Parent of %s, %d = %d, %d", told(f), id, parent, e)
	}
	if l, e := Kids(f, id); e != api.OK || !slices.Equal(l, f[id].Kids) {
		t.Fatalf("Kids of %s, %d = %v, %d", told(f), id, l, e)
	}
	if l, e := Order(f, id); e != api.OK || !slices.Equal(l, orderByRule(f, id)) {
		t.Fatalf("Order of %s, %d = %v, %d, want %v", told(f), id, l, e, orderByRule(f, id))
	}
	if s, e := Content(f, id); e != api.OK || s != contentByRule(f, id) {
		t.Fatalf("Content of %s, %d = %q, %d, want %q", told(f), id, s, e, contentByRule(f, id))
	}
	steps := []int{math.MinInt, math.MinInt + 1, math.MinInt + 60, -1 << 32, 1 << 32, math.MaxInt - 60, math.MaxInt - 1, math.MaxInt}
	for by := -62; by <= 62; by++ {
		steps = append(steps, by)
	}
	for _, by := range steps {
		want, wantE := besideByRule(f, id, by)
		if n, e := Beside(f, id, by); n != want || e != wantE {
			t.Fatalf("Beside of %s, %d, %d = %d, %d, want %d, %d", told(f), id, by, n, e, want, wantE)
		}
	}
	names := someTexts()
	for _, a := range f[id].Attrs {
		names = append(names, a.Name, a.Value, strings.ToUpper(a.Name), a.Name[1:])
	}
	for _, name := range names {
		want, wantE := attrByRule(f[id], name)
		if s, e := Attr(f, id, name); s != want || e != wantE {
			t.Fatalf("Attr of %s, %d, %q = %q, %d, want %q, %d", told(f), id, name, s, e, want, wantE)
		}
	}
}

// asksNone asks that every call says that id is no node.
func asksNone(t *testing.T, f forest.Forest, id int) {
	t.Helper()
	if n, e := Parent(f, id); n != 0 || e != api.ErrNode {
		t.Fatalf("Parent of %s, %d = %d, %d", told(f), id, n, e)
	}
	if l, e := Kids(f, id); len(l) != 0 || e != api.ErrNode {
		t.Fatalf("Kids of %s, %d = %v, %d", told(f), id, l, e)
	}
	for _, by := range []int{math.MinInt, -1, 0, 1, math.MaxInt} {
		if n, e := Beside(f, id, by); n != 0 || e != api.ErrNode {
			t.Fatalf("Beside of %s, %d, %d = %d, %d", told(f), id, by, n, e)
		}
	}
	if l, e := Order(f, id); len(l) != 0 || e != api.ErrNode {
		t.Fatalf("Order of %s, %d = %v, %d", told(f), id, l, e)
	}
	if s, e := Content(f, id); s != "" || e != api.ErrNode {
		t.Fatalf("Content of %s, %d = %q, %d", told(f), id, s, e)
	}
	for _, name := range someTexts() {
		if s, e := Attr(f, id, name); s != "" || e != api.ErrNode {
			t.Fatalf("Attr of %s, %d, %q = %q, %d", told(f), id, name, s, e)
		}
	}
}

// isAsRuled holds every call against the rule, and asks that f stays; P8.4 is among what it asks.
func isAsRuled(t *testing.T, f forest.Forest) {
	t.Helper()
	was := kept(f)
	texts := someTexts()
	for id := range f {
		asksNode(t, f, id)
		for _, a := range f[id].Attrs {
			texts = append(texts, a.Value, a.Value+" ", strings.ToUpper(a.Value))
		}
	}
	for _, id := range noNodes(f) {
		if id < 0 || id >= len(f) {
			asksNone(t, f, id)
		}
	}
	for _, text := range texts {
		want, wantE := byIdByRule(f, text)
		if n, e := ById(f, text); n != want || e != wantE {
			t.Fatalf("ById of %s, %q = %d, %d, want %d, %d", told(f), text, n, e, want, wantE)
		}
	}
	followsOf(t, f)
	if !forest.Same(f, was) {
		t.Fatalf("%s became %s", told(was), told(f))
	}
}

// followsOf is P8.4: each node is in the Order of just those that it is below, and there just once.
func followsOf(t *testing.T, f forest.Forest) {
	t.Helper()
	for top := range f {
		l, e := Order(f, top)
		if e != api.OK {
			t.Fatalf("Order of %s, %d: %d", told(f), top, e)
		}
		for id := range f {
			many := 0
			for _, at := range l {
				if at == id {
					many++
				}
			}
			if many > 1 || (many == 1) != forest.Below(f, top, id) {
				t.Fatalf("%s: %d is %d times in the Order of %d, Below says %v", told(f), id, many, top, forest.Below(f, top, id))
			}
		}
	}
}

// P8.1
func TestParent(t *testing.T) {
	for id, want := range map[int]int{1: 0, 2: 1, 3: 1, 4: 1, 5: 2, 6: 0, 8: 7, 9: 7, 11: 2, 12: 0, 13: 1} {
		if n, e := Parent(sample(), id); n != want || e != api.OK {
			t.Errorf("Parent of %d = %d, %d", id, n, e)
		}
	}
	// The document, and what stands alone, be it an Element, a Text or a Comment.
	for _, id := range []int{0, 7, 10, 14, 15} {
		if n, e := Parent(sample(), id); n != 0 || e != api.ErrNone {
			t.Errorf("Parent of %d = %d, %d", id, n, e)
		}
	}
	if n, e := Parent(forest.New(), 0); n != 0 || e != api.ErrNone {
		t.Error(n, e)
	}
	if n, e := Parent(chain(60), 59); n != 58 || e != api.OK {
		t.Error(n, e)
	}
}

// P8.1
func TestKids(t *testing.T) {
	for id, want := range map[int][]int{
		0: {6, 1, 12}, 1: {3, 4, 2, 13}, 2: {5, 11}, 7: {9, 8},
		3: nil, 4: nil, 5: nil, 6: nil, 8: nil, 9: nil, 10: nil, 11: nil, 12: nil, 13: nil, 14: nil, 15: nil,
	} {
		if l, e := Kids(sample(), id); !slices.Equal(l, want) || e != api.OK {
			t.Errorf("Kids of %d = %v, %d", id, l, e)
		}
	}
	if l, e := Kids(forest.New(), 0); len(l) != 0 || e != api.OK {
		t.Error(l, e)
	}
	if l, e := Kids(broad(60), 1); len(l) != 58 || l[0] != 59 || l[57] != 2 || e != api.OK {
		t.Error(l, e)
	}
}

// P8.1: from each of the Kids to each of them, and to both sides of them.
func TestBeside(t *testing.T) {
	for _, kids := range [][]int{{6, 1, 12}, {3, 4, 2, 13}, {5, 11}, {9, 8}} {
		for i, id := range kids {
			for by := -8; by <= 8; by++ {
				want, wantE := 0, api.ErrNone
				if i+by >= 0 && i+by < len(kids) {
					want, wantE = kids[i+by], api.OK
				}
				if n, e := Beside(sample(), id, by); n != want || e != wantE {
					t.Errorf("Beside of %d, %d = %d, %d, want %d, %d", id, by, n, e, want, wantE)
				}
			}
		}
	}
	// What stands alone has nothing beside it, not even itself.
	for _, id := range []int{0, 7, 10, 14, 15} {
		for _, by := range []int{math.MinInt, -1, 0, 1, math.MaxInt} {
			if n, e := Beside(sample(), id, by); n != 0 || e != api.ErrNone {
				t.Errorf("Beside of %d, %d = %d, %d", id, by, n, e)
			}
		}
	}
	// An only Kid has itself alone.
	for by, want := range map[int]api.Errno{0: api.OK, 1: api.ErrNone, -1: api.ErrNone} {
		if n, e := Beside(chain(60), 59, by); e != want || e == api.OK && n != 59 {
			t.Errorf("Beside of 59, %d = %d, %d", by, n, e)
		}
	}
}

// P8.1: far beyond both ends, where the places wrap round if they are added up.
func TestBesideFarOff(t *testing.T) {
	for id := 1; id < 60; id++ {
		for _, by := range []int{
			math.MinInt, math.MinInt + 1, math.MinInt + 57, math.MinInt + 58, math.MinInt + 59, math.MinInt32, -256, -60, -59, -58,
			58, 59, 60, 256, 1 << 32, math.MaxInt - 58, math.MaxInt - 57, math.MaxInt - 1, math.MaxInt,
		} {
			if n, e := Beside(broad(60), id, by); n != 0 || e != api.ErrNone {
				t.Errorf("Beside of %d, %d = %d, %d", id, by, n, e)
			}
		}
	}
	// From end to end.
	if n, e := Beside(broad(60), 59, 57); n != 2 || e != api.OK {
		t.Error(n, e)
	}
	if n, e := Beside(broad(60), 2, -57); n != 59 || e != api.OK {
		t.Error(n, e)
	}
}

// P8.2
func TestOrder(t *testing.T) {
	for id, want := range map[int][]int{
		0: {0, 6, 1, 3, 4, 2, 5, 11, 13, 12}, 1: {1, 3, 4, 2, 5, 11, 13}, 2: {2, 5, 11}, 7: {7, 9, 8},
		3: {3}, 4: {4}, 5: {5}, 6: {6}, 8: {8}, 9: {9}, 10: {10}, 11: {11}, 12: {12}, 13: {13}, 14: {14}, 15: {15},
	} {
		if l, e := Order(sample(), id); !slices.Equal(l, want) || e != api.OK {
			t.Errorf("Order of %d = %v, %d, want %v", id, l, e, want)
		}
	}
	if l, e := Order(forest.New(), 0); !slices.Equal(l, []int{0}) || e != api.OK {
		t.Error(l, e)
	}
	if l, e := Order(loose(60), 0); !slices.Equal(l, []int{0}) || e != api.OK {
		t.Error(l, e)
	}
	for id := range 60 {
		if l, e := Order(chain(60), id); len(l) != 60-id || !slices.IsSorted(l) || l[0] != id || e != api.OK {
			t.Errorf("Order of %d in a chain = %v, %d", id, l, e)
		}
	}
	l, e := Order(broad(60), 1)
	if len(l) != 59 || l[0] != 1 || l[1] != 59 || l[58] != 2 || e != api.OK {
		t.Error(l, e)
	}
}

// example is <a>x<b>y</b></a>.
func example() forest.Forest {
	return forest.Forest{
		{Parent: -1, Kids: []int{1}},
		{Kind: forest.Element, Name: "a", Parent: 0, Kids: []int{2, 3}},
		{Kind: forest.Text, Text: "x", Parent: 1},
		{Kind: forest.Element, Name: "b", Parent: 1, Kids: []int{4}},
		{Kind: forest.Text, Text: "y", Parent: 3},
	}
}

// P8.2
func TestContent(t *testing.T) {
	for id, want := range []string{"xy", "xy", "x", "y", "y"} {
		if s, e := Content(example(), id); s != want || e != api.OK {
			t.Errorf("Content of %d = %q, %d", id, s, e)
		}
	}
	// As it stands, not as it is printed; comments have no part in it, not even their own one.
	for id, want := range []string{"x<y&\xff", "x<y&\xff", "y", "x<", "", "y", "", "r", "", "r", "z", "", "", "&\xff", "", ""} {
		if s, e := Content(sample(), id); s != want || e != api.OK {
			t.Errorf("Content of %d = %q, %d, want %q", id, s, e, want)
		}
	}
	if s, e := Content(forest.New(), 0); s != "" || e != api.OK {
		t.Error(s, e)
	}
	want := ""
	for id := 59; id >= 2; id-- {
		want += strconv.Itoa(id) + ";"
	}
	if s, e := Content(broad(60), 0); s != want || e != api.OK {
		t.Error(s, e)
	}
	f := broad(60)
	for id := range f[2:] {
		f[2+id].Text = strings.Repeat("\x00", 60)
	}
	if s, e := Content(f, 1); s != strings.Repeat("\x00", 58*60) || e != api.OK {
		t.Error(len(s), e)
	}
}

// P8.3
func TestAttr(t *testing.T) {
	for _, x := range []struct {
		id   int
		name string
		want string
		e    api.Errno
	}{
		{1, "id", "a", api.OK}, {1, "class", "b c", api.OK}, {1, "k", "", api.OK}, {2, "n", "a", api.OK}, {2, "id", "b", api.OK},
		{11, "id", "e", api.OK}, {11, "ID", "f", api.OK}, {7, "id", "q", api.OK}, {8, "id", "b", api.OK},
		{1, "K", "", api.ErrAttr}, {1, "clas", "", api.ErrAttr}, {1, "classs", "", api.ErrAttr}, {1, "a", "", api.ErrAttr}, {1, "", "", api.ErrAttr},
		{1, "div", "", api.ErrAttr}, {1, "id ", "", api.ErrAttr}, {1, "n", "", api.ErrAttr}, {2, "class", "", api.ErrAttr}, {15, "id", "", api.ErrAttr},
		{1, "1", "", api.ErrAttr}, {15, "", "", api.ErrAttr}, {1, strings.Repeat("i", 300), "", api.ErrAttr},
		{0, "id", "", api.ErrKind}, {3, "id", "", api.ErrKind}, {4, "id", "", api.ErrKind}, {10, "id", "", api.ErrKind}, {14, "id", "", api.ErrKind},
		{0, "", "", api.ErrKind}, {3, "x<", "", api.ErrKind},
		{-1, "id", "", api.ErrNode}, {16, "id", "", api.ErrNode}, {16, "", "", api.ErrNode}, {math.MinInt, "id", "", api.ErrNode}, {math.MaxInt, "id", "", api.ErrNode},
	} {
		if s, e := Attr(sample(), x.id, x.name); s != x.want || e != x.e {
			t.Errorf("Attr of %d, %q = %q, %d, want %q, %d", x.id, x.name, s, e, x.want, x.e)
		}
	}
	f := chain(2)
	for i := range 8 {
		f[1].Attrs = append(f[1].Attrs, forest.Attr{Name: "n" + strconv.Itoa(i), Value: strings.Repeat(strconv.Itoa(i), 60)})
	}
	for i := range 8 {
		if s, e := Attr(f, 1, "n"+strconv.Itoa(i)); s != strings.Repeat(strconv.Itoa(i), 60) || e != api.OK {
			t.Error(i, s, e)
		}
	}
}

// P8.3
func TestById(t *testing.T) {
	for text, want := range map[string]int{"a": 1, "b": 2, "e": 11} {
		if n, e := ById(sample(), text); n != want || e != api.OK {
			t.Errorf("ById of %q = %d, %d", text, n, e)
		}
	}
	// Of q stands none below the document; the others are the Value of another attribute, or of none.
	for _, text := range []string{"q", "", "f", "b c", "A", "a ", "id", "div", "x<", "c", strings.Repeat("a", 600)} {
		if n, e := ById(sample(), text); n != 0 || e != api.ErrNone {
			t.Errorf("ById of %q = %d, %d", text, n, e)
		}
	}
	if n, e := ById(forest.New(), "a"); n != 0 || e != api.ErrNone {
		t.Error(n, e)
	}
}

// P8.3: an empty Value is found by nobody, and a Value is any text.
func TestByIdOfTexts(t *testing.T) {
	for _, value := range []string{"", " ", "a b", "\x00", "\xff", "&<\"", strings.Repeat("i", 60)} {
		f := chain(2)
		f[1].Attrs = attrs("x", "no", "id", value)
		want, wantE := 1, api.OK
		if value == "" {
			want, wantE = 0, api.ErrNone
		}
		if n, e := ById(f, value); n != want || e != wantE {
			t.Errorf("ById of %q = %d, %d", value, n, e)
		}
		for _, other := range []string{value + "a", " " + value, "no"} {
			if n, e := ById(f, other); n != 0 || e != api.ErrNone {
				t.Errorf("ById of %q where it is %q = %d, %d", other, value, n, e)
			}
		}
	}
}

// P8.3: of two that have it the first one in the document, not the one of the least number, nor the uppermost one.
func TestByIdOfTwo(t *testing.T) {
	same := func(parent int) forest.Node {
		return forest.Node{Kind: forest.Element, Name: "a", Attrs: attrs("id", "i"), Parent: parent}
	}
	f := forest.Forest{{Parent: -1, Kids: []int{4}}, same(4), same(3), node(forest.Element, 4), node(forest.Element, 0), same(-1)}
	f[4].Kids = []int{3, 1}
	f[3].Kids = []int{2}
	if n, e := ById(f, "i"); n != 2 || e != api.OK {
		t.Error(n, e)
	}
	f[4].Kids = []int{1, 3}
	if n, e := ById(f, "i"); n != 1 || e != api.OK {
		t.Error(n, e)
	}
	// A node ahead of what stands below it.
	f[3].Attrs = attrs("id", "i")
	f[4].Kids = []int{3, 1}
	if n, e := ById(f, "i"); n != 3 || e != api.OK {
		t.Error(n, e)
	}
	isAsRuled(t, f)
	c := chain(60)
	for id := range c[1:] {
		c[1+id].Attrs = attrs("id", strconv.Itoa(id/2))
	}
	for i := range 30 {
		if n, e := ById(c, strconv.Itoa(i)); n != 1+2*i || e != api.OK {
			t.Error(i, n, e)
		}
	}
}

// P8.1 to P8.3: numbers that are no node, whatever else is asked.
func TestNoNode(t *testing.T) {
	for _, f := range []forest.Forest{forest.New(), sample(), example(), loose(59), chain(60)} {
		for _, id := range noNodes(f) {
			asksNone(t, f, id)
		}
	}
	// The last one is one.
	asksNode(t, sample(), 15)
	asksNode(t, chain(60), 59)
}

// P8.1 to P8.4
func TestKnownForests(t *testing.T) {
	for _, f := range []forest.Forest{forest.New(), sample(), example(), loose(60), chain(60), broad(60), chain(2), loose(2)} {
		if !forest.May(f) {
			t.Fatalf("%s may not be", told(f))
		}
		isAsRuled(t, f)
	}
}

// P8.4: by hand, so that it does not hang on forest.Below alone.
func TestWhoseOrdersHaveIt(t *testing.T) {
	f := sample()
	for id, want := range [][]int{
		{0}, {0, 1}, {0, 1, 2}, {0, 1, 3}, {0, 1, 4}, {0, 1, 2, 5}, {0, 6}, {7}, {7, 8}, {7, 9}, {10}, {0, 1, 2, 11}, {0, 12}, {0, 1, 13}, {14}, {15},
	} {
		var of []int
		for top := range f {
			if l, _ := Order(f, top); slices.Contains(l, id) {
				of = append(of, top)
			}
		}
		if !slices.Equal(of, want) {
			t.Errorf("%d is in the Orders of %v, want %v", id, of, want)
		}
	}
}

// counted tells all rows of so many numbers, each from 0 to below base.
func counted(places, base int, tell func(row []int)) {
	row := make([]int, places)
	for {
		tell(row)
		at := 0
		for at < places && row[at] == base-1 {
			row[at] = 0
			at++
		}
		if at == places {
			return
		}
		row[at]++
	}
}

// smallForests tells all forests of n nodes that may be, in every order of Kids; where there is an Element, it has an id.
func smallForests(n int, tell func(f forest.Forest)) {
	counted(n-1, n+1, func(parents []int) {
		counted(n-1, 3, func(kinds []int) {
			counted(n-1, n-1, func(turns []int) {
				f := forest.New()
				for i := range n - 1 {
					f = append(f, node(1+kinds[i], parents[i]-1))
					if f[i+1].Kind == forest.Element {
						f[i+1].Attrs = attrs("id", string(rune('a'+i/2)))
					} else {
						f[i+1].Text = strconv.Itoa(i)
					}
				}
				for id := 1; id < n; id++ {
					if p := f[id].Parent; p >= 0 {
						if turns[id-1] > len(f[p].Kids) {
							return
						}
						f[p].Kids = slices.Insert(f[p].Kids, turns[id-1], id)
					} else if turns[id-1] > 0 {
						return
					}
				}
				if forest.May(f) {
					tell(f)
				}
			})
		})
	})
}

// P8.1 to P8.4: all forests of four nodes and fewer.
func TestSmallForests(t *testing.T) {
	many := 0
	for n := 1; n <= 4; n++ {
		smallForests(n, func(f forest.Forest) {
			many++
			isAsRuled(t, f)
		})
	}
	if many < 300 {
		t.Errorf("%d forests", many)
	}
}

// dice is a run of numbers that is always the same.
type dice uint32

func (d *dice) roll(n int) int {
	*d = *d*1664525 + 1013904223
	return int(*d>>8) % n
}

// thrown is a forest that may be, with that many nodes, numbered anyhow.
func thrown(d *dice, many int) forest.Forest {
	f := forest.New()
	if many > 1 && d.roll(4) > 0 {
		// Else most of them would stand beside the document.
		f = chain(2)
	}
	texts := []string{"", "a", "b", "&<", "x\xff", strings.Repeat("t", 60)}
	for len(f) < many {
		n := node(1+d.roll(3), -1)
		if n.Kind == forest.Element {
			for _, name := range []string{"id", "ID", "class"} {
				if d.roll(2) == 0 {
					n.Attrs = append(n.Attrs, forest.Attr{Name: name, Value: texts[d.roll(len(texts))]})
				}
			}
		} else {
			n.Text = texts[d.roll(len(texts))]
		}
		f = append(f, n)
		// Only below what was there ahead of it: so nothing goes round.
		id, parent := len(f)-1, d.roll(len(f))
		element := func(kid int) bool { return f[kid].Kind == forest.Element }
		for range 3 {
			// Else most of them would stand alone.
			if parent == id || !element(parent) {
				parent = d.roll(len(f))
			}
		}
		taken := n.Kind == forest.Text || n.Kind == forest.Element && slices.ContainsFunc(f[0].Kids, element)
		if parent == id || f[parent].Kind > forest.Element || parent == 0 && taken {
			continue
		}
		f[id].Parent = parent
		f[parent].Kids = slices.Insert(f[parent].Kids, d.roll(len(f[parent].Kids)+1), id)
	}
	return renumbered(d, f)
}

// renumbered is f with other numbers for its nodes; the document stays 0.
func renumbered(d *dice, f forest.Forest) forest.Forest {
	to := make([]int, len(f))
	for i := range to {
		to[i] = i
	}
	for i := len(to) - 1; i > 1; i-- {
		j := 1 + d.roll(i)
		to[i], to[j] = to[j], to[i]
	}
	g := make(forest.Forest, len(f))
	for id, n := range kept(f) {
		if n.Parent >= 0 {
			n.Parent = to[n.Parent]
		}
		for i, kid := range n.Kids {
			n.Kids[i] = to[kid]
		}
		g[to[id]] = n
	}
	return g
}

// P8.1 to P8.4: greater forests.
func TestThrownForests(t *testing.T) {
	found := 0
	for seed := range 120 {
		d := dice(seed)
		f := thrown(&d, 1+d.roll(60))
		if !forest.May(f) {
			t.Fatalf("%s may not be", told(f))
		}
		isAsRuled(t, f)
		if _, e := ById(f, "a"); e == api.OK {
			found++
		}
	}
	if found < 20 {
		t.Errorf("a is found in %d forests", found)
	}
}

// roomy is f with room behind the ends of its lists, where something stands.
func roomy(f forest.Forest) forest.Forest {
	c := append(kept(f), forest.Node{Name: "behind"})
	for i := range c {
		c[i].Attrs = append(c[i].Attrs, forest.Attr{Name: "behind"})
		c[i].Kids = append(c[i].Kids, 77)
		c[i].Attrs = c[i].Attrs[:len(c[i].Attrs)-1]
		c[i].Kids = c[i].Kids[:len(c[i].Kids)-1]
	}
	return c[:len(c)-1]
}

// whole tells all of f, with what stands behind the ends of its lists.
func whole(f forest.Forest) string {
	c := slices.Clone(f[:cap(f)])
	for i := range c {
		c[i].Attrs = c[i].Attrs[:cap(c[i].Attrs)]
		c[i].Kids = c[i].Kids[:cap(c[i].Kids)]
	}
	return told(c)
}

// scribble writes over a list, and behind its end.
func scribble(l []int) {
	for i := range l[:cap(l)] {
		l[:cap(l)][i] = 99
	}
}

// R4: forests stay as they were behind every call, and writing over what was answered changes nothing.
func TestForestsStay(t *testing.T) {
	for _, f := range []forest.Forest{forest.New(), sample(), example(), chain(60), broad(60)} {
		f := roomy(f)
		was := whole(f)
		for id := -1; id <= len(f); id++ {
			kids, _ := Kids(f, id)
			order, _ := Order(f, id)
			kidsWere, orderWas := slices.Clone(kids), slices.Clone(order)
			Parent(f, id)
			Content(f, id)
			for _, name := range someTexts() {
				Attr(f, id, name)
				ById(f, name)
			}
			for by := -3; by <= 3; by++ {
				Beside(f, id, by)
			}
			scribble(kids)
			scribble(order)
			if l, _ := Kids(f, id); !slices.Equal(l, kidsWere) {
				t.Fatalf("Kids of %d, once more: %v, want %v", id, l, kidsWere)
			}
			if l, _ := Order(f, id); !slices.Equal(l, orderWas) {
				t.Fatalf("Order of %d, once more: %v, want %v", id, l, orderWas)
			}
			if whole(f) != was {
				t.Fatalf("of %d: %s became %s", id, was, whole(f))
			}
		}
	}
}

// R4: what was answered does not hang on what is done to the forest behind it.
func TestAnswersShareNothing(t *testing.T) {
	f := sample()
	kids, _ := Kids(f, 1)
	order, _ := Order(f, 1)
	for i := range f {
		for j := range f[i].Kids {
			f[i].Kids[j] = 55
		}
		f[i] = forest.Node{Kind: 9, Parent: 66}
	}
	if !slices.Equal(kids, []int{3, 4, 2, 13}) || !slices.Equal(order, []int{1, 3, 4, 2, 5, 11, 13}) {
		t.Error(kids, order)
	}
}

// R6: lists without elements and nil lists are alike.
func TestEmptyListsAreAlike(t *testing.T) {
	f := forest.Forest{{Parent: -1}, node(forest.Element, -1), node(forest.Text, -1), node(forest.Comment, -1)}
	for i := range f {
		f[i].Attrs, f[i].Kids = []forest.Attr{}, []int{}
	}
	isAsRuled(t, f)
}

// forestsOfNone are nodes that make no forest.
func forestsOfNone() []forest.Forest {
	return []forest.Forest{
		nil, {}, loose(61), chain(70), make(forest.Forest, 70),
		{{Parent: -1, Kids: []int{5}}, node(forest.Element, -1)},
		{{Parent: -1, Kids: []int{0}}},
		{{Parent: 0, Kids: []int{0}}},
		{{Parent: -1}, node(forest.Element, 9)},
		{{Parent: -1}, {Kind: forest.Element, Name: "a", Parent: math.MinInt, Kids: []int{-1}}},
		{{Parent: -1}, {Kind: forest.Element, Name: "a", Parent: 2, Kids: []int{2}}, {Kind: forest.Element, Name: "a", Parent: 1, Kids: []int{1}}},
		{{Parent: -1}, {Kind: forest.Element, Name: "a", Parent: 1, Kids: []int{1, 1}}},
		{{Parent: -1, Kids: []int{1}}, {Kind: forest.Element, Name: "a", Attrs: attrs("id", "a"), Parent: 0, Kids: []int{0}}},
		{{Parent: -1}, node(forest.Element, 0)},
	}
}

// Of forests that may not be nothing is said: the calls end, and leave them as they were; no number is a node of them.
func TestForestsThatMayNotBe(t *testing.T) {
	for _, f := range forestsOfNone() {
		was := kept(f)
		for _, id := range append(noNodes(f), 0, 1, 2) {
			asksNone(t, f, id)
		}
		for _, text := range someTexts() {
			if n, e := ById(f, text); n != 0 || e != api.ErrNone {
				t.Errorf("ById of %s, %q = %d, %d", told(f), text, n, e)
			}
		}
		if !forest.Same(f, was) {
			t.Errorf("%s became %s", told(was), told(f))
		}
	}
}

// shaped reads nodes out of bytes: of each its kind, its Parent, how many Kids, and them.
func shaped(shape []byte, name, text string) forest.Forest {
	var f forest.Forest
	next := func() int {
		if len(shape) == 0 {
			return 0
		}
		x := int(int8(shape[0]))
		shape = shape[1:]
		return x
	}
	for len(shape) > 0 {
		n := node(next(), next()-1)
		if n.Kind == forest.Element {
			n.Attrs = attrs(name, text, "id", name)
		}
		if n.Kind == forest.Text || n.Kind == forest.Comment {
			n.Text = text
		}
		for range min(next(), 70) {
			n.Kids = append(n.Kids, next())
		}
		f = append(f, n)
	}
	return f
}

// FuzzWalk holds any few nodes, and forests that are thrown, against the rule.
func FuzzWalk(f *testing.F) {
	f.Add([]byte{0, 0, 0}, "a", "b", uint32(0))
	f.Add([]byte{0, 0, 1, 1, 1, 1, 2, 2, 3, 2, 2, 0, 1, 2, 1, 4, 2, 4, 0}, "k", "x<", uint32(1))
	f.Add([]byte{0, 0, 1, 1, 1, 1, 1, 1}, "k", "", uint32(2))
	f.Fuzz(func(t *testing.T, shape []byte, name, text string, seed uint32) {
		if len(shape) > 250 || len(name) > 300 || len(text) > 600 {
			return
		}
		g := shaped(shape, name, text)
		if forest.May(g) {
			isAsRuled(t, g)
		} else {
			for id := -1; id <= len(g); id++ {
				asksNone(t, g, id)
			}
		}
		d := dice(seed)
		isAsRuled(t, thrown(&d, 1+d.roll(60)))
	})
}

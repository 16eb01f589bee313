package find

import (
	"fmt"
	"math"
	"slices"
	"strings"
	"testing"

	"treillage/api"
	"treillage/forest"
	"treillage/sel"
	"treillage/walk"
)

// sample has nodes of all kinds, below the document and beside it; Kids stand otherwise than they are numbered.
func sample() forest.Forest {
	return forest.Forest{
		{Kind: forest.Doc, Parent: -1, Kids: []int{11, 1}},
		{Kind: forest.Element, Name: "html", Parent: 0, Kids: []int{5, 2}},
		{Kind: forest.Element, Name: "div", Attrs: attrs("id", "top", "class", "x  y"), Parent: 1, Kids: []int{8, 3, 4, 12}},
		{Kind: forest.Element, Name: "p", Attrs: attrs("class", "xy", "k", ""), Parent: 2, Kids: []int{9, 6}},
		{Kind: forest.Element, Name: "P", Attrs: attrs("k", "v w", "id", "K", "K", "V"), Parent: 2, Kids: []int{7}},
		{Kind: forest.Element, Name: "Div", Attrs: attrs("class", ""), Parent: 1},
		{Kind: forest.Element, Name: "b", Attrs: attrs("class", "y\tx"), Parent: 3},
		{Kind: forest.Element, Name: "B", Parent: 4, Kids: []int{10}},
		{Kind: forest.Text, Text: "x", Parent: 2},
		{Kind: forest.Text, Text: "b", Parent: 3},
		{Kind: forest.Element, Name: "b", Attrs: attrs("class", " x-y z "), Parent: 7},
		{Kind: forest.Comment, Text: "html", Parent: 0},
		{Kind: forest.Comment, Text: "c", Parent: 2},
		{Kind: forest.Element, Name: "q", Attrs: attrs("class", "x", "id", "top"), Parent: -1, Kids: []int{15, 14}},
		{Kind: forest.Element, Name: "b", Parent: 13, Kids: []int{16}},
		{Kind: forest.Text, Text: "q", Parent: 13},
		{Kind: forest.Element, Name: "div", Parent: 14},
		{Kind: forest.Text, Text: "z", Parent: -1},
		{Kind: forest.Comment, Text: "alone", Parent: -1},
		{Kind: forest.Element, Name: "b", Parent: -1},
	}
}

// attrs are attributes, each told as its Name and its Value.
func attrs(l ...string) []forest.Attr {
	var made []forest.Attr
	for i := 0; i < len(l); i += 2 {
		made = append(made, forest.Attr{Name: l[i], Value: l[i+1]})
	}
	return made
}

// element is one that stands alone, with these attributes.
func element(name string, l ...string) forest.Node {
	return forest.Node{Kind: forest.Element, Name: name, Attrs: attrs(l...), Parent: -1}
}

// chain is the document, and elements of these names, each below the one ahead of it.
func chain(names ...string) forest.Forest {
	f := forest.New()
	for _, name := range names {
		f[len(f)-1].Kids = []int{len(f)}
		f = append(f, forest.Node{Kind: forest.Element, Name: name, Parent: len(f) - 1})
	}
	return f
}

// kept is a copy that shares nothing with f.
func kept(f forest.Forest) forest.Forest {
	c := slices.Clone(f)
	for i := range c {
		c[i].Attrs = slices.Clone(c[i].Attrs)
		c[i].Kids = slices.Clone(c[i].Kids)
	}
	return c
}

// told has all of a thing; lists without elements and nil lists are told alike.
func told(x any) string { return fmt.Sprintf("%+v", x) }

// parsed is the selector that s tells, and must tell.
func parsed(t *testing.T, s string) sel.Selector {
	t.Helper()
	l, place, e := sel.Parse(s)
	if e != api.OK {
		t.Fatalf("Parse of %q: %d, %d", s, place, e)
	}
	return l
}

// one is a compound of these tests.
func one(tests ...sel.Test) sel.Compound { return tests }

// noNodes are numbers that are no node of f.
func noNodes(f forest.Forest) []int {
	return []int{math.MinInt, -60, -2, -1, len(f), len(f) + 1, 1 << 32, math.MaxInt}
}

// lower is s with small letters, and all other bytes as they are.
func lower(s string) string {
	const capitals, small = "ABCDEFGHIJKLMNOPQRSTUVWXYZ", "abcdefghijklmnopqrstuvwxyz"
	b := []byte(s)
	for i, c := range b {
		if at := strings.IndexByte(capitals, c); at >= 0 {
			b[i] = small[at]
		}
	}
	return string(b)
}

// isWordOf says whether token stands in s between blanks.
func isWordOf(s, token string) bool {
	if token == "" || strings.ContainsAny(token, "\t\n\f\r ") {
		return false
	}
	return strings.Contains(" "+strings.NewReplacer("\t", " ", "\n", " ", "\f", " ", "\r", " ").Replace(s)+" ", " "+token+" ")
}

// fitsByRule is what P10.1 says, of a node that may be.
func fitsByRule(n forest.Node, c sel.Compound) bool {
	values := map[string]string{}
	for _, a := range n.Attrs {
		values[a.Name] = a.Value
	}
	has := func(name string) bool { _, is := values[name]; return is }
	for _, x := range c {
		so := map[int]bool{
			1: lower(n.Name) == lower(x.Name),
			2: has("id") && values["id"] == x.Name,
			3: has("class") && isWordOf(values["class"], x.Name),
			4: has(x.Name),
			5: has(x.Name) && values[x.Name] == x.Value,
		}
		if !so[x.Kind] {
			return false
		}
	}
	return n.Kind == 1
}

// endsByRule goes down the rows, where the program goes up the forest: it tells all nodes that each begin of a row ends at, and of them those that the whole row does.
func endsByRule(f forest.Forest, row []sel.Step) map[int]bool {
	var ends map[int]bool
	for i, step := range row {
		next := map[int]bool{}
		for id, n := range f {
			onward := i == 0
			for above := range f {
				isAbove := above != id && forest.Below(f, above, id)
				if step.Child {
					isAbove = n.Parent == above
				}
				onward = onward || isAbove && ends[above]
			}
			if onward && fitsByRule(n, step.C) {
				next[id] = true
			}
		}
		ends = next
	}
	return ends
}

// foundByRule is what l finds among all nodes, be they where they are.
func foundByRule(f forest.Forest, l sel.Selector) map[int]bool {
	found := map[int]bool{}
	for _, row := range l {
		for id := range endsByRule(f, row) {
			found[id] = true
		}
	}
	return found
}

// isAsRuled holds all calls but Fits against the rule, from every node on, and from what is none; it tells how many are found.
func isAsRuled(t *testing.T, f forest.Forest, l sel.Selector) int {
	t.Helper()
	found := foundByRule(f, l)
	for id := range f {
		if is := Is(f, id, l); is != found[id] {
			t.Fatalf("Is of %s, %d, %s = %v", told(f), id, told(l), is)
		}
		order, e := walk.Order(f, id)
		if e != api.OK {
			t.Fatalf("Order of %s, %d: %d", told(f), id, e)
		}
		var want []int
		for _, at := range order {
			if found[at] {
				want = append(want, at)
			}
		}
		asksAll(t, f, id, l, want)
	}
	for _, id := range noNodes(f) {
		if Is(f, id, l) {
			t.Fatalf("Is of %s, %d, %s", told(f), id, told(l))
		}
		asksAll(t, f, id, l, nil)
	}
	return len(found)
}

// asksAll asks All and First of top.
func asksAll(t *testing.T, f forest.Forest, top int, l sel.Selector, want []int) {
	t.Helper()
	if all := All(f, top, l); !slices.Equal(all, want) {
		t.Fatalf("All of %s, %d, %s = %v, want %v", told(f), top, told(l), all, want)
	}
	first, is := First(f, top, l)
	if is != (len(want) > 0) || is && first != want[0] || !is && first != 0 {
		t.Fatalf("First of %s, %d, %s = %d, %v, want that of %v", told(f), top, told(l), first, is, want)
	}
}

// finds asks that s finds want from the document on, and that all nodes are found as the rule says.
func finds(t *testing.T, f forest.Forest, s string, want ...int) {
	t.Helper()
	l := parsed(t, s)
	asksAll(t, f, 0, l, want)
	isAsRuled(t, f, l)
}

// findsNothing asks that s finds nothing from the document on.
func findsNothing(t *testing.T, f forest.Forest, s string) {
	t.Helper()
	finds(t, f, s)
}

// The forests that the tests ask may be.
func TestSampleMayBe(t *testing.T) {
	for _, f := range []forest.Forest{sample(), chain("a"), chain(), chain("a", "b", "A")} {
		if !forest.May(f) {
			t.Errorf("%s may not be", told(f))
		}
	}
}

// P10.3: the document's example.
func TestExample(t *testing.T) {
	f := chain("a", "b")
	f[2].Attrs = attrs("class", "x")
	finds(t, f, "a .x", 2)
	if n, is := First(f, 0, parsed(t, "a .x")); n != 2 || !is {
		t.Error(n, is)
	}
	// DOC.md's: a child of a div that has the class a, or the one of the id b.
	f = chain("div", "p", "div", "q")
	f[2].Attrs = attrs("class", "a", "id", "c")
	f[3].Attrs = attrs("id", "b")
	f[4].Attrs = attrs("class", "b a")
	finds(t, f, "div > .a, #b", 2, 3, 4)
	finds(t, f, "p > .a, #b", 3)
}

// fits asks that x fits n, alone and with others that fit it, and no node that is no Element.
func fits(t *testing.T, n forest.Node, x sel.Test, want bool) {
	t.Helper()
	own := sel.Test{Kind: sel.Type, Name: n.Name}
	for _, c := range []sel.Compound{one(x), one(x, x), one(own, x), one(x, own), one(own, x, own)} {
		if is := Fits(n, c); is != want {
			t.Errorf("Fits of %s, %s = %v", told(n), told(c), is)
		}
		for _, kind := range []int{forest.Doc, forest.Text, forest.Comment, -1, 4, math.MinInt, math.MaxInt} {
			other := n
			other.Kind = kind
			if Fits(other, c) {
				t.Errorf("Fits of %s, %s", told(other), told(c))
			}
		}
	}
	if fitsByRule(n, one(x)) != want {
		t.Errorf("the rule of %s, %s is another", told(n), told(x))
	}
}

// P10.1: a Type's letters may be large or small, and are all that may differ.
func TestType(t *testing.T) {
	for _, x := range []struct {
		name, test string
		want       bool
	}{
		{"div", "div", true}, {"div", "DIV", true}, {"DIV", "div", true}, {"dIv", "DiV", true}, {"h1", "H1", true}, {"a-B_c", "A-b_C", true},
		{"Zz", "zZ", true}, {"Aa", "aA", true}, {strings.Repeat("Ab", 10), strings.Repeat("aB", 10), true},
		{"div", "di", false}, {"div", "divs", false}, {"div", "iv", false}, {"div", "", false}, {"div", " div", false}, {"div", "div ", false},
		{"h1", "h2", false}, {"a-b", "a_b", false}, {"a-b", "ab", false}, {"a_", "a\x7f", false}, {"a-", "a\r", false}, {"a1", "a\x11", false}, {"a1", "aQ", false},
		{"k", "\u212a", false}, {"s", "\u017f", false}, {"a", strings.Repeat("a", 300), false},
	} {
		fits(t, element(x.name), sel.Test{Kind: sel.Type, Name: x.test}, x.want)
		// Attributes of that name, or that Value, are another thing.
		fits(t, element(x.name, "div", "div", "id", x.test, "class", x.test), sel.Test{Kind: sel.Type, Name: x.test}, x.want)
	}
}

// P10.1: an Id is all of the Value of `id`, as its letters are.
func TestId(t *testing.T) {
	for _, x := range []struct {
		n    forest.Node
		test string
		want bool
	}{
		{element("a", "id", "k"), "k", true}, {element("a", "class", "x", "id", "k"), "k", true}, {element("a", "id", "k", "ID", "K"), "k", true},
		{element("a", "id", "k"), "K", false}, {element("a", "id", "K"), "k", false}, {element("a", "id", "k l"), "k", false}, {element("a", "id", "k l"), "l", false},
		{element("a", "id", " k"), "k", false}, {element("a", "id", "kk"), "k", false}, {element("a", "id", "k"), "kk", false}, {element("a", "id", ""), "k", false},
		{element("a", "ID", "k"), "k", false}, {element("a", "Id", "k"), "k", false}, {element("a", "class", "k"), "k", false}, {element("k", "k", "id"), "k", false},
		{element("a", "idd", "k", "i", "k"), "k", false}, {element("a"), "k", false}, {element("id"), "id", false}, {element("a", "id", "k", "ID", "K"), "K", false},
		// No text tells these, but they are tests like others.
		{element("a", "id", "k l"), "k l", true}, {element("a", "id", ""), "", true}, {element("a", "id", "k"), "", false}, {element("a"), "", false}, {element("a", "ID", ""), "", false},
	} {
		fits(t, x.n, sel.Test{Kind: sel.Id, Name: x.test}, x.want)
	}
}

// P10.1: a Class is one of the words of the Value of `class`, not a part of one.
func TestClass(t *testing.T) {
	for _, x := range []struct {
		n    forest.Node
		test string
		want bool
	}{
		{element("a", "class", "x"), "x", true}, {element("a", "class", "x y z"), "x", true}, {element("a", "class", "x y z"), "y", true}, {element("a", "class", "x y z"), "z", true},
		{element("a", "class", "  x"), "x", true}, {element("a", "class", "x\t\n\f\ry"), "y", true}, {element("a", "class", "xy x"), "x", true}, {element("a", "id", "k", "class", "x"), "x", true},
		{element("a", "class", "x x"), "x", true}, {element("a", "class", "x", "CLASS", "y"), "x", true},
		{element("a", "class", "xy"), "x", false}, {element("a", "class", "yx"), "x", false}, {element("a", "class", "x-y"), "x", false}, {element("a", "class", "x_ -x"), "x", false},
		{element("a", "class", "x"), "xy", false}, {element("a", "class", "X"), "x", false}, {element("a", "class", "x"), "X", false}, {element("a", "class", ""), "x", false},
		{element("a", "class", "x,y"), "x", false}, {element("a", "class", "x\vy"), "x", false}, {element("a", "class", "x\xa0y"), "x", false}, {element("a", "class", "x\u2003y"), "x", false},
		{element("a", "CLASS", "x"), "x", false}, {element("a", "Class", "x"), "x", false}, {element("a", "id", "x"), "x", false}, {element("x", "x", "class"), "x", false},
		{element("a"), "x", false}, {element("class"), "class", false}, {element("a", "classs", "x", "clas", "x"), "x", false}, {element("a", "class", "x", "CLASS", "y"), "y", false},
		// No text tells these, but they are tests like others.
		{element("a", "class", "x y"), "x y", false}, {element("a", "class", ""), "", false}, {element("a", "class", " "), " ", false}, {element("a", "class", "x"), "", false},
		{element("a", "class", "1 \xff"), "\xff", true},
	} {
		fits(t, x.n, sel.Test{Kind: sel.Class, Name: x.test}, x.want)
	}
}

// P10.1: what an element Has is an attribute of that name, whatever its Value.
func TestHas(t *testing.T) {
	for _, x := range []struct {
		n    forest.Node
		test string
		want bool
	}{
		{element("a", "k", "v"), "k", true}, {element("a", "k", ""), "k", true}, {element("a", "j", "", "k", "v", "l", ""), "k", true}, {element("a", "id", ""), "id", true},
		{element("a", "class", "x"), "class", true}, {element("a", "k", "", "K", ""), "K", true},
		{element("a", "k", "v"), "K", false}, {element("a", "K", "v"), "k", false}, {element("a", "k", "v"), "v", false}, {element("a", "kk", "k"), "k", false},
		{element("a", "k", "v"), "kk", false}, {element("a", "k", "v"), "a", false}, {element("k"), "k", false}, {element("a", "k", ""), "", false}, {element("a"), "", false},
		{element("a", "class", "k"), "k", false}, {element("a", "id", "k"), "k", false},
	} {
		fits(t, x.n, sel.Test{Kind: sel.Has, Name: x.test}, x.want)
	}
	var l []string
	for i := range 8 {
		l = append(l, "k"+string(rune('0'+i)), "")
	}
	for i := range 9 {
		fits(t, element("a", l...), sel.Test{Kind: sel.Has, Name: "k" + string(rune('0'+i))}, i < 8)
	}
}

// P10.1: what it Is is all of the Value of that very attribute, as it is.
func TestIsOfAnAttribute(t *testing.T) {
	for _, x := range []struct {
		n           forest.Node
		name, value string
		want        bool
	}{
		{element("a", "k", "v"), "k", "v", true}, {element("a", "k", ""), "k", "", true}, {element("a", "j", "w", "k", "v w", "l", ""), "k", "v w", true},
		{element("a", "class", "x  y"), "class", "x  y", true}, {element("a", "id", "i"), "id", "i", true}, {element("a", "k", "\x00\xff"), "k", "\x00\xff", true},
		{element("a", "k", strings.Repeat("v", 60)), "k", strings.Repeat("v", 60), true},
		{element("a", "k", "v"), "k", "w", false}, {element("a", "k", "v"), "k", "V", false}, {element("a", "k", "v"), "k", "", false}, {element("a", "k", ""), "k", "v", false},
		{element("a", "k", "v w"), "k", "v", false}, {element("a", "k", "v w"), "k", "w", false}, {element("a", "k", "v"), "k", "v ", false}, {element("a", "k", "v"), "k", "vv", false},
		{element("a", "K", "v"), "k", "v", false}, {element("a", "k", "v"), "K", "v", false}, {element("a", "j", "v", "k", "w"), "k", "v", false}, {element("a", "k", "w", "l", "v"), "k", "v", false},
		{element("a", "class", "x  y"), "class", "x y", false}, {element("a", "class", "x y"), "class", "x", false}, {element("a", "v", "k"), "k", "v", false},
		{element("a"), "k", "v", false}, {element("a"), "k", "", false}, {element("a"), "", "", false}, {element("k"), "k", "", false}, {element("a", "k", ""), "", "", false},
	} {
		fits(t, x.n, sel.Test{Kind: sel.Is, Name: x.name, Value: x.value}, x.want)
	}
}

// P10.1: each test has to be so, of any kinds, as often as they stand there, in any order.
func TestCompounds(t *testing.T) {
	n := element("div", "id", "i", "class", "x y", "k", "v")
	so := []sel.Test{{Kind: 1, Name: "Div"}, {Kind: 2, Name: "i"}, {Kind: 3, Name: "x"}, {Kind: 3, Name: "y"}, {Kind: 4, Name: "k"}, {Kind: 5, Name: "k", Value: "v"}}
	not := []sel.Test{{Kind: 1, Name: "p"}, {Kind: 2, Name: "x"}, {Kind: 3, Name: "i"}, {Kind: 4, Name: "v"}, {Kind: 5, Name: "k", Value: "x"}, {Kind: 0}, {Kind: 6}}
	for turn := range so {
		all := append(slices.Clone(so[turn:]), so[:turn]...)
		if !Fits(n, all) {
			t.Errorf("Fits of %s = false", told(all))
		}
		for _, x := range not {
			for at := range len(all) + 1 {
				if c := slices.Insert(slices.Clone(all), at, x); Fits(n, c) {
					t.Errorf("Fits of %s = true", told(c))
				}
			}
		}
	}
	if !Fits(n, slices.Repeat(so, 40)) || Fits(n, append(slices.Repeat(so, 40), not[0])) {
		t.Error("Fits of 240 tests")
	}
}

// P10.1: a compound without tests fits each Element, and no other node.
func TestNoTests(t *testing.T) {
	for _, c := range []sel.Compound{nil, {}} {
		for _, n := range sample() {
			if Fits(n, c) != (n.Kind == forest.Element) {
				t.Error(told(n))
			}
		}
		if Fits(forest.Node{}, c) || !Fits(forest.Node{Kind: forest.Element}, c) {
			t.Error("of a node with nothing")
		}
	}
}

// P10.1: tests of no kind that there is are not so, whatever the node has.
func TestNoKinds(t *testing.T) {
	n := element("a", "id", "a", "class", "a", "a", "a")
	for _, kind := range []int{0, 6, 7, -1, -5, 1 << 32, 1<<32 + 1, math.MinInt, math.MinInt + 1, math.MaxInt} {
		for _, x := range []sel.Test{{Kind: kind}, {Kind: kind, Name: "a"}, {Kind: kind, Name: "a", Value: "a"}} {
			fits(t, n, x, false)
			if l := (sel.Selector{{{C: one(x)}}}); isAsRuled(t, chain("a", "b"), l) != 0 {
				t.Error(told(l))
			}
			if l := (sel.Selector{{{C: one(x)}, {}}}); isAsRuled(t, chain("a", "b"), l) != 0 {
				t.Error(told(l))
			}
		}
	}
	for kind := 1; kind <= 5; kind++ {
		fits(t, n, sel.Test{Kind: kind, Name: "a", Value: "a"}, true)
	}
}

// P10.2, P10.3: rows of one step.
func TestOneStep(t *testing.T) {
	f := sample()
	finds(t, f, "*", 1, 5, 2, 3, 6, 4, 7, 10)
	for _, s := range []string{"div", "DIV", "dIv"} {
		finds(t, f, s, 5, 2)
	}
	finds(t, f, "p", 3, 4)
	finds(t, f, "B", 6, 7, 10)
	finds(t, f, "html", 1)
	finds(t, f, "#top", 2)
	finds(t, f, "#K", 4)
	finds(t, f, ".x", 2, 6)
	finds(t, f, ".y", 2, 6)
	finds(t, f, ".xy", 3)
	finds(t, f, ".x-y", 10)
	finds(t, f, ".z", 10)
	finds(t, f, "[k]", 3, 4)
	finds(t, f, "[K]", 4)
	finds(t, f, "[class]", 5, 2, 3, 6, 10)
	finds(t, f, "[id]", 2, 4)
	finds(t, f, `[k=""]`, 3)
	finds(t, f, `[k="v w"]`, 4)
	finds(t, f, "[K=V]", 4)
	finds(t, f, `[class=""]`, 5)
	finds(t, f, `[class="x  y"]`, 2)
	finds(t, f, "[id=top]", 2)
	for _, s := range []string{"q", "di", "divs", "x", "#Top", "#k", "#to", "#x", ".X", ".top", ".x-", ".v", "[clas]", "[ID]", "[x]", "[k=v]", "[K=v]", "[class=x]", `[class="x y"]`, `[id=""]`, "[k=w]"} {
		findsNothing(t, f, s)
	}
}

// P10.2, P10.3: several tests in a compound.
func TestSeveralTests(t *testing.T) {
	f := sample()
	finds(t, f, ".x.y", 2, 6)
	finds(t, f, "b.x.y", 6)
	finds(t, f, "div#top.x.y[id][class][id=top]", 2)
	finds(t, f, "P#K[k]", 4)
	finds(t, f, "p[k]", 3, 4)
	finds(t, f, "b[class]", 6, 10)
	finds(t, f, "*.z.x-y", 10)
	finds(t, f, "[k][K]", 4)
	for _, s := range []string{"p.x", "div.xy", ".xy.x", "#top#K", `[k=""][k="v w"]`, "html[class]", "b#top", "p#top[k]", "div#top.x.y.z"} {
		findsNothing(t, f, s)
	}
}

// P10.2, P10.3: a child, and one anywhere below.
func TestSteps(t *testing.T) {
	f := sample()
	finds(t, f, "div > p", 3, 4)
	finds(t, f, "p > b", 6, 7)
	finds(t, f, "b > b", 10)
	finds(t, f, "* > *", 5, 2, 3, 6, 4, 7, 10)
	finds(t, f, "html > div > p > b", 6, 7)
	finds(t, f, "p > b > b", 10)
	finds(t, f, "#K > b > b", 10)
	finds(t, f, "html b", 6, 7, 10)
	finds(t, f, "div b", 6, 7, 10)
	finds(t, f, "b b", 10)
	finds(t, f, "div p b", 6, 7, 10)
	finds(t, f, "html div", 5, 2)
	finds(t, f, "* *", 5, 2, 3, 6, 4, 7, 10)
	finds(t, f, "* * *", 3, 6, 4, 7, 10)
	finds(t, f, "* * * *", 6, 7, 10)
	finds(t, f, "* * * * *", 10)
	finds(t, f, "html > div b", 6, 7, 10)
	finds(t, f, "html p > b", 6, 7)
	finds(t, f, "html b > b", 10)
	finds(t, f, "#top > #K b", 7, 10)
	finds(t, f, ".x .x", 6)
	for _, s := range []string{"html > p", "div > b", "html html", "p > p", "* * * * * *", "div > div", "q b", "q > b", "p div", "b > p", "#K .x", "html > * > b", "* > html", "* html"} {
		findsNothing(t, f, s)
	}
}

// P10.2, P10.3: of several rows one has to end there; each node is told once, in its place.
func TestRows(t *testing.T) {
	f := sample()
	finds(t, f, "html, p", 1, 3, 4)
	finds(t, f, "p, html", 1, 3, 4)
	finds(t, f, "b, .x", 2, 6, 7, 10)
	finds(t, f, ".x, b", 2, 6, 7, 10)
	finds(t, f, "b, b", 6, 7, 10)
	finds(t, f, "*, *, p", 1, 5, 2, 3, 6, 4, 7, 10)
	finds(t, f, "q, #K, i", 4)
	finds(t, f, "b > b, html > div, q > b", 5, 2, 10)
	findsNothing(t, f, "q, i, div > b")
}

// P10.2: a row without steps ends nowhere, and a selector without rows finds nothing.
func TestNothingAsked(t *testing.T) {
	step := sel.Step{C: one(sel.Test{Kind: sel.Type, Name: "p"})}
	for _, l := range []sel.Selector{nil, {}, {nil}, {{}}, {nil, {}, nil}} {
		if isAsRuled(t, sample(), l) != 0 {
			t.Error(told(l))
		}
	}
	for _, l := range []sel.Selector{{{step}, nil}, {nil, {step}}, {{}, {step}, {}}} {
		isAsRuled(t, sample(), l)
		asksAll(t, sample(), 0, l, []int{3, 4})
	}
}

// P10.2: what the first step's Child says is not asked, for there are no steps ahead of it.
func TestChildOfFirst(t *testing.T) {
	p := sel.Step{C: one(sel.Test{Kind: sel.Type, Name: "p"}), Child: true}
	html := sel.Step{C: one(sel.Test{Kind: sel.Type, Name: "html"}), Child: true}
	b := sel.Step{C: one(sel.Test{Kind: sel.Type, Name: "b"})}
	for _, x := range []struct {
		row  []sel.Step
		want []int
	}{{[]sel.Step{p}, []int{3, 4}}, {[]sel.Step{html}, []int{1}}, {[]sel.Step{html, b}, []int{6, 7, 10}}, {[]sel.Step{html, p, b}, nil}} {
		l := sel.Selector{x.row}
		isAsRuled(t, sample(), l)
		asksAll(t, sample(), 0, l, x.want)
	}
}

// P10.2: a first step may end where no Parent is; a step behind it may not, nor just below the document, which is no Element.
func TestNobodyAbove(t *testing.T) {
	f := sample()
	for s, want := range map[string][]int{
		"q": {13}, "#top": {2, 13}, "b": {6, 7, 10, 14, 19}, "* > q": nil, "* q": nil, "q > b": {14}, "* > b": {6, 7, 10, 14}, "* b": {6, 7, 10, 14},
		"q div": {16}, "q > div": nil, "q > b > div": {16}, "* > q > b": nil, "* q b": nil, "b div": {16}, "* > html": nil, "* html": nil, "* > html > div": nil, "html": {1},
	} {
		l := parsed(t, s)
		isAsRuled(t, f, l)
		for id := range f {
			if Is(f, id, l) != slices.Contains(want, id) {
				t.Errorf("Is of %d, %q = %v", id, s, Is(f, id, l))
			}
		}
	}
	for _, s := range []string{"*", "* > *", "* *", "* > * *"} {
		if l := parsed(t, s); Is(f, 0, l) || Is(f, 17, l) || Is(f, 18, l) || Is(f, 8, l) || Is(f, 11, l) {
			t.Errorf("%q ends at what is no Element", s)
		}
	}
}

// P10.2: of those above that a step fits, only a farther one goes on.
func TestFartherOne(t *testing.T) {
	for _, x := range []struct {
		names, s string
		want     bool
	}{
		{"a b x b c", "a > b c", true}, {"a x b b c", "a > b c", false}, {"x b a b x b c", "a > b c", true}, {"a b x b x b c", "a > b c", true},
		{"a b c b c d", "a > b > c d", true}, {"a b c x c d", "a > b > c d", true}, {"a b x c b x c d", "a > b > c d", false}, {"a b x b c d", "a > b > c d", false},
		{"a b a x a c", "a > b a c", true}, {"a a b x b c", "a > a > b c", true}, {"a b b b c", "a > b b b c", true}, {"a b b c", "a > b b b c", false},
		{"a b x b x c d", "a > b c > d", true}, {"a b x c x d", "a > b c > d", false}, {"x a b a c", "x > a c", true}, {"x b a c a d", "x > a a d", false},
		// A child's parent is the one, whoever else is farther up.
		{"a b x c", "b > c", false}, {"b b x c", "b > c", false}, {"a b x b c", "a > b > c", false}, {"a b c", "a > b > c", true}, {"a a b", "a > b", true},
		// Nobody is below itself.
		{"a", "a a", false}, {"a a", "a a", true}, {"a a", "a a a", false}, {"a b", "a b b", false}, {"a b a", "a a > b", false}, {"a a b", "a a > b", true},
	} {
		f := chain(strings.Fields(x.names)...)
		l := parsed(t, x.s)
		if Is(f, len(f)-1, l) != x.want {
			t.Errorf("Is of the last one of %s, %q = %v", x.names, x.s, !x.want)
		}
		isAsRuled(t, f, l)
	}
}

// P10.3: top itself counts, and those above top, too.
func TestTops(t *testing.T) {
	f := sample()
	for _, x := range []struct {
		top  int
		s    string
		want []int
	}{
		{0, "b", []int{6, 7, 10}}, {1, "html", []int{1}}, {2, "div", []int{2}}, {2, "div p", []int{3, 4}}, {4, "b", []int{7, 10}}, {4, "p", []int{4}}, {4, "p, b", []int{4, 7, 10}},
		{4, "div > p", []int{4}}, {7, "div b", []int{7, 10}}, {10, "html b", []int{10}}, {10, "html > div > p > b > b", []int{10}}, {6, "b b", nil}, {5, "*", []int{5}}, {5, "p", nil},
		{13, "*", []int{13, 14, 16}}, {14, "q b", []int{14}}, {14, "q div", []int{16}}, {16, "q div", []int{16}}, {13, "html b", nil}, {19, "b", []int{19}}, {19, "* b", nil},
		{8, "*", nil}, {9, "b", nil}, {11, "html", nil}, {12, "div *", nil}, {17, "*", nil}, {18, "*", nil}, {15, "q", nil},
	} {
		l := parsed(t, x.s)
		asksAll(t, f, x.top, l, x.want)
		isAsRuled(t, f, l)
	}
}

// P10.3: First where there are many, one, and none.
func TestFirst(t *testing.T) {
	f := sample()
	for s, want := range map[string]int{"*": 1, "div": 5, "b": 6, ".x": 2, "p, div": 5, "b > b": 10, "[k]": 3} {
		if n, is := First(f, 0, parsed(t, s)); n != want || !is {
			t.Errorf("First of %q = %d, %v", s, n, is)
		}
	}
	for _, s := range []string{"q", "html > b", "#none", "* > html"} {
		if n, is := First(f, 0, parsed(t, s)); n != 0 || is {
			t.Errorf("First of %q = %d, %v", s, n, is)
		}
	}
	if n, is := First(forest.New(), 0, parsed(t, "*")); n != 0 || is {
		t.Error(n, is)
	}
}

// P10.2, P10.3: an id, or a top, that is no node.
func TestNoNode(t *testing.T) {
	for _, f := range []forest.Forest{forest.New(), sample(), chain("a"), chain(slices.Repeat([]string{"a"}, 59)...)} {
		for _, l := range []sel.Selector{parsed(t, "*"), parsed(t, "a, b"), parsed(t, "* > *"), {{{}}}, nil, {nil}} {
			for _, id := range noNodes(f) {
				if Is(f, id, l) {
					t.Errorf("Is of %d of %d nodes", id, len(f))
				}
				asksAll(t, f, id, l, nil)
			}
		}
	}
	// The last one is one.
	if f := chain("a", "b"); !Is(f, 2, parsed(t, "b")) || len(All(f, 2, parsed(t, "b"))) != 1 {
		t.Error("the last node is none")
	}
}

// counted tells all rows of so many numbers, each from 0 to below base.
func counted(places, base int, tell func(row []int)) {
	row := make([]int, places)
	for {
		tell(row)
		at := 0
		for at < places && row[at] == base-1 {
			row[at] = 0
			at++
		}
		if at == places {
			return
		}
		row[at]++
	}
}

// fewRows are all rows of so many steps, each of which asks for an a, a b, or any Element.
func fewRows(steps int) [][]sel.Step {
	compounds := []sel.Compound{nil, one(sel.Test{Kind: sel.Type, Name: "a"}), one(sel.Test{Kind: sel.Type, Name: "b"})}
	var rows [][]sel.Step
	counted(steps, 6, func(l []int) {
		var row []sel.Step
		for _, x := range l {
			row = append(row, sel.Step{C: compounds[x%3], Child: x >= 3})
		}
		rows = append(rows, row)
	})
	return rows
}

// P10.2: all chains of a and b, of six and fewer, against all rows of three steps and fewer; and of four steps against those of five.
func TestAllShortRows(t *testing.T) {
	names := []string{"a", "b"}
	for steps := 1; steps <= 4; steps++ {
		rows := fewRows(steps)
		for many := range 6 - steps/4 {
			counted(many+1, 2, func(l []int) {
				f := forest.New()
				for _, x := range l {
					f = append(f, element(names[x]))
				}
				for id := 1; id < len(f); id++ {
					f[id].Parent = id - 1
					f[id-1].Kids = []int{id}
				}
				for _, row := range rows {
					ends := endsByChain(f, row)
					for id := range f {
						if Is(f, id, sel.Selector{row}) != ends[id] {
							t.Fatalf("Is of %s, %d, %s = %v", told(f), id, told(row), !ends[id])
						}
					}
				}
			})
		}
	}
}

// endsByChain is what endsByRule is, of a chain, where who is above has the lesser number.
func endsByChain(f forest.Forest, row []sel.Step) []bool {
	ends := make([]bool, len(f))
	for i, step := range row {
		next := make([]bool, len(f))
		for id := 1; id < len(f); id++ {
			above := ends[:id]
			if step.Child {
				above = ends[id-1 : id]
			}
			next[id] = (i == 0 || slices.Contains(above, true)) && (len(step.C) == 0 || step.C[0].Name == f[id].Name)
		}
		ends = next
	}
	return ends
}

// P10.2: rows as long as may be, in forests as deep as may be; who tries all ways up does not end.
func TestLongRows(t *testing.T) {
	f := chain(slices.Repeat([]string{"a"}, 59)...)
	for _, many := range []int{1, 2, 30, 58, 59} {
		var want []int
		for id := many; id <= 59; id++ {
			want = append(want, id)
		}
		for _, between := range []string{" ", ">"} {
			asksAll(t, f, 0, parsed(t, strings.Repeat("*"+between, many-1)+"a"), want)
			asksAll(t, f, 0, parsed(t, strings.Repeat("*"+between, many-1)+"b"), nil)
			asksAll(t, f, 0, parsed(t, "b"+between+strings.Repeat("*"+between, many-1)+"a"), nil)
			asksAll(t, f, 0, parsed(t, "b "+strings.Repeat("a> * ", many-1)+"a"), nil)
		}
	}
	for _, many := range []int{60, 61, 149} {
		asksAll(t, f, 0, parsed(t, strings.Repeat("* ", many-1)+"*"), nil)
		asksAll(t, f, 0, parsed(t, strings.Repeat("*>", many-1)+"*"), nil)
	}
	for _, child := range []bool{false, true} {
		row := slices.Repeat([]sel.Step{{Child: child}}, 250)
		asksAll(t, f, 0, slices.Repeat(sel.Selector{row}, 250), nil)
		asksAll(t, f, 0, append(slices.Repeat(sel.Selector{row}, 249), row[:59]), []int{59})
	}
}

// dice is a run of numbers that is always the same.
type dice uint32

func (d *dice) roll(n int) int {
	*d = *d*1664525 + 1013904223
	return int(*d>>16) % n
}

// pick is one of l.
func (d *dice) pick(l ...string) string { return l[d.roll(len(l))] }

// thrownNode is one that stands alone.
func thrownNode(d *dice) forest.Node {
	n := forest.Node{Kind: 1 + max(0, d.roll(8)-5), Parent: -1}
	if n.Kind != forest.Element {
		n.Text = d.pick("", "a", "x", "id")
		return n
	}
	n.Name = d.pick("a", "A", "a", "b", "id", "class")
	for _, name := range []string{"id", "class", "k", "K"} {
		if d.roll(2) == 0 {
			n.Attrs = append(n.Attrs, forest.Attr{Name: name, Value: d.pick("", "a", "b", "A", "a b", " a\tid", "ab", "k")})
		}
	}
	return n
}

// thrownForest is one that may be, with that many nodes.
func thrownForest(d *dice, many int) forest.Forest {
	f := chain("a")
	for len(f) < many {
		id, parent := len(f), 1+d.roll(len(f)-1)
		if d.roll(2) == 0 {
			// Else few would stand deep.
			parent = id - 1
		}
		f = append(f, thrownNode(d))
		if f[parent].Kind != forest.Element || parent == 0 || d.roll(12) == 0 {
			continue
		}
		f[id].Parent = parent
		f[parent].Kids = slices.Insert(f[parent].Kids, d.roll(len(f[parent].Kids)+1), id)
	}
	return f
}

// thrownTest is one of a kind that there is, or seldom of none.
func thrownTest(d *dice) sel.Test {
	x := sel.Test{Kind: 1 + max(0, d.roll(7)-2), Name: d.pick("a", "b", "A", "a", "id", "class", "k")}
	if x.Kind == sel.Is {
		x.Name, x.Value = d.pick("id", "class", "k", "K"), d.pick("", "a", "b", "a b", "ab")
	}
	if d.roll(20) == 0 {
		x.Kind = d.roll(9) - 1
	}
	return x
}

// thrownSelector is one of few rows, which may have no steps.
func thrownSelector(d *dice) sel.Selector {
	var l sel.Selector
	for range d.roll(4) {
		var row []sel.Step
		for range d.roll(6) {
			step := sel.Step{Child: d.roll(2) == 0}
			for range max(0, d.roll(5)-2) {
				step.C = append(step.C, thrownTest(d))
			}
			row = append(row, step)
		}
		l = append(l, row)
	}
	return l
}

// P10.1: thrown nodes, against thrown compounds.
func TestThrownNodes(t *testing.T) {
	many := 0
	d := dice(1)
	for range 50000 {
		n := thrownNode(&d)
		var c sel.Compound
		for range d.roll(4) {
			c = append(c, thrownTest(&d))
		}
		if is := Fits(n, c); is != fitsByRule(n, c) {
			t.Fatalf("Fits of %s, %s = %v", told(n), told(c), is)
		}
		if len(c) > 1 && Fits(n, c) {
			many++
		}
	}
	if many < 200 {
		t.Errorf("%d fit several tests", many)
	}
}

// P10.2 to P10.4: thrown forests, against thrown selectors.
func TestThrown(t *testing.T) {
	some, deep := 0, 0
	d := dice(2)
	for range 300 {
		f := thrownForest(&d, 1+d.roll(40))
		if !forest.May(f) {
			t.Fatalf("%s may not be", told(f))
		}
		l, m := thrownSelector(&d), thrownSelector(&d)
		if isAsRuled(t, f, l) > 0 {
			some++
		}
		if slices.ContainsFunc(l, func(row []sel.Step) bool { return len(row) > 2 && len(endsByRule(f, row)) > 0 }) {
			deep++
		}
		findsWhatBothFind(t, f, l, m)
	}
	if some < 60 || deep < 20 {
		t.Errorf("%d find something, %d by a row of three steps or more", some, deep)
	}
}

// findsWhatBothFind is P10.4, from every node on.
func findsWhatBothFind(t *testing.T, f forest.Forest, l, m sel.Selector) {
	t.Helper()
	both := append(slices.Clone(l), m...)
	for id := range f {
		if Is(f, id, both) != (Is(f, id, l) || Is(f, id, m)) {
			t.Fatalf("Is of %s, %d, %s, and of %s", told(f), id, told(l), told(m))
		}
		order, e := walk.Order(f, id)
		if e != api.OK {
			t.Fatalf("Order of %s, %d: %d", told(f), id, e)
		}
		first, second := All(f, id, l), All(f, id, m)
		want := slices.DeleteFunc(order, func(at int) bool { return !slices.Contains(first, at) && !slices.Contains(second, at) })
		asksAll(t, f, id, both, want)
		asksAll(t, f, id, append(slices.Clone(m), l...), want)
	}
}

// P10.4: texts with a comma between.
func TestBothOfTexts(t *testing.T) {
	texts := []string{"*", "b", "p, b", "html", "div > p", "html b", ".x", "q", "#none", "b > b, #top", "q b, [k]"}
	f := sample()
	for _, a := range texts {
		for _, b := range texts {
			findsWhatBothFind(t, f, parsed(t, a), parsed(t, b))
			both := parsed(t, a+","+b)
			isAsRuled(t, f, both)
			if told(both) != told(append(parsed(t, a), parsed(t, b)...)) {
				t.Errorf("%q and %q are not %s", a, b, told(both))
			}
		}
	}
	asksAll(t, f, 0, parsed(t, "b > b, html > div"), []int{5, 2, 10})
	asksAll(t, f, 0, parsed(t, "p, .x"), []int{2, 3, 6, 4})
}

// roomyForest is f with room behind the ends of its lists, where something stands.
func roomyForest(f forest.Forest) forest.Forest {
	c := append(kept(f), element("behind"))
	for i := range c {
		c[i].Attrs = append(c[i].Attrs, forest.Attr{Name: "id", Value: "behind"})
		c[i].Kids = append(c[i].Kids, 77)
		c[i].Attrs = c[i].Attrs[:len(c[i].Attrs)-1]
		c[i].Kids = c[i].Kids[:len(c[i].Kids)-1]
	}
	return c[:len(c)-1]
}

// wholeForest tells all of f, with what stands behind the ends of its lists.
func wholeForest(f forest.Forest) string {
	c := slices.Clone(f[:cap(f)])
	for i := range c {
		c[i].Attrs = c[i].Attrs[:cap(c[i].Attrs)]
		c[i].Kids = c[i].Kids[:cap(c[i].Kids)]
	}
	return told(c)
}

// roomySelector is l with room behind the ends of its lists, where something stands.
func roomySelector(l sel.Selector) sel.Selector {
	behind := sel.Step{C: one(sel.Test{Kind: sel.Type, Name: "b"}), Child: true}
	c := append(slices.Clone(l), []sel.Step{behind})
	for i := range c {
		c[i] = append(slices.Clone(c[i]), behind)
		for j := range c[i] {
			tests := append(slices.Clone(c[i][j].C), behind.C[0])
			c[i][j].C = tests[:len(tests)-1]
		}
		c[i] = c[i][:len(c[i])-1]
	}
	return c[:len(c)-1]
}

// wholeSelector tells all of l, with what stands behind the ends of its lists.
func wholeSelector(l sel.Selector) string {
	s := ""
	for _, row := range l[:cap(l)] {
		for _, step := range row[:cap(row)] {
			s += told(step) + told(step.C[:cap(step.C)])
		}
		s += "\n"
	}
	return s
}

// scribble writes over a list, and behind its end.
func scribble(l []int) {
	for i := range l[:cap(l)] {
		l[:cap(l)][i] = 99
	}
}

// R4: a forest, a node and a selector stay as they were behind each call, and writing over what was answered changes nothing.
func TestAllStays(t *testing.T) {
	f := roomyForest(sample())
	forestWas := wholeForest(f)
	for _, s := range []string{"*", "b", "p > b > b", "html b, .x", "* * *, q > b", "[k=\"\"], #top.x.y, B.x-y", "none none"} {
		l := roomySelector(parsed(t, s))
		if told(l) != told(parsed(t, s)) {
			t.Fatal(told(l))
		}
		selectorWas := wholeSelector(l)
		for id := -1; id <= len(f); id++ {
			is := Is(f, id, l)
			first, any := First(f, id, l)
			all := All(f, id, l)
			was := slices.Clone(all)
			scribble(all)
			again, anyAgain := First(f, id, l)
			if !slices.Equal(All(f, id, l), was) || Is(f, id, l) != is || again != first || anyAgain != any {
				t.Fatalf("%q of %d, once more, is another", s, id)
			}
			for _, row := range l {
				for _, step := range row {
					if id >= 0 && id < len(f) && Fits(f[id], step.C) != fitsByRule(f[id], step.C) {
						t.Fatalf("Fits of %d, %s", id, told(step.C))
					}
				}
			}
			if wholeForest(f) != forestWas || wholeSelector(l) != selectorWas {
				t.Fatalf("%q of %d changed what was handed in", s, id)
			}
		}
	}
}

// R4: what was answered does not hang on what is done to the forest and the selector behind it.
func TestAnswersShareNothing(t *testing.T) {
	f, l := sample(), parsed(t, "b, p")
	all, again := All(f, 0, l), All(f, 0, l)
	for i := range f {
		scribble(f[i].Kids)
		f[i] = forest.Node{Kind: 9, Parent: 66}
	}
	l[0][0], l[1] = sel.Step{Child: true}, nil
	scribble(again)
	if !slices.Equal(all, []int{3, 6, 4, 7, 10}) {
		t.Error(all)
	}
}

// R6: lists without elements and nil lists are alike.
func TestEmptyListsAreAlike(t *testing.T) {
	f := forest.Forest{{Parent: -1, Kids: []int{1}}, {Kind: forest.Element, Name: "a", Kids: []int{2}}, {Kind: forest.Element, Name: "b", Parent: 1, Attrs: []forest.Attr{}, Kids: []int{}}}
	for _, l := range []sel.Selector{{{{C: nil}, {C: sel.Compound{}}}}, {{{C: sel.Compound{}}, {C: nil}}}} {
		asksAll(t, f, 0, l, []int{2})
		isAsRuled(t, f, l)
	}
	asksAll(t, f, 0, sel.Selector{}, nil)
	asksAll(t, f, 0, sel.Selector{{}}, nil)
}

// forestsOfNone are nodes that make no forest.
func forestsOfNone() []forest.Forest {
	return []forest.Forest{
		nil, {}, chain(slices.Repeat([]string{"a"}, 60)...), make(forest.Forest, 70),
		{{Parent: -1, Kids: []int{5}}, element("a")},
		{{Parent: -1, Kids: []int{0}}},
		{{Kind: forest.Element, Name: "a", Parent: 0, Kids: []int{0}}},
		{{Kind: forest.Element, Name: "a", Parent: -1}},
		{{Parent: -1}, {Kind: forest.Element, Name: "a", Parent: 9}},
		{{Parent: -1}, {Kind: forest.Element, Name: "a", Parent: math.MinInt, Kids: []int{-1}}},
		{{Parent: -1}, {Kind: forest.Element, Name: "a", Parent: 2, Kids: []int{2}}, {Kind: forest.Element, Name: "a", Parent: 1, Kids: []int{1}}},
		{{Parent: -1}, {Kind: forest.Element, Name: "a", Parent: 1, Kids: []int{1, 1}}},
		{{Parent: -1, Kids: []int{1}}, {Kind: forest.Element, Name: "a", Kids: []int{0}}},
		{{Parent: -1}, {Kind: forest.Element, Name: "a"}},
	}
}

// Of forests that may not be nothing is said: the calls end, and leave them as they were; no number is a node of them.
func TestForestsThatMayNotBe(t *testing.T) {
	for _, f := range forestsOfNone() {
		was := kept(f)
		for _, s := range []string{"*", "a", "* > *", "a a a", "a > a, b"} {
			l := parsed(t, s)
			for _, id := range append(noNodes(f), 0, 1, 2) {
				if Is(f, id, l) {
					t.Errorf("Is of %s, %d, %q", told(f), id, s)
				}
				asksAll(t, f, id, l, nil)
			}
		}
		if !forest.Same(f, was) {
			t.Errorf("%s became %s", told(was), told(f))
		}
	}
}

// FuzzFind holds thrown forests against any selector that a text tells, and against thrown ones.
func FuzzFind(f *testing.F) {
	f.Add("a > b.a, #k", "[class=\"a b\"] *", uint32(0))
	f.Add("* * > * > *", "", uint32(1))
	f.Add("a[k] A, id", "b b b", uint32(2))
	f.Fuzz(func(t *testing.T, a, b string, seed uint32) {
		if len(a) > 300 || len(b) > 300 {
			return
		}
		d := dice(seed)
		g := thrownForest(&d, 1+d.roll(30))
		l, _, e := sel.Parse(a)
		if e != api.OK {
			l = thrownSelector(&d)
		}
		m, _, e := sel.Parse(b)
		if e != api.OK {
			m = thrownSelector(&d)
		}
		isAsRuled(t, g, l)
		isAsRuled(t, g, m)
		findsWhatBothFind(t, g, l, m)
	})
}

// FuzzFits holds any test of any kind against the rule, of an element that may have what it asks for.
func FuzzFits(f *testing.F) {
	f.Add(1, "a", "", "a", "k", "v")
	f.Add(2, "x", "", "a", "id", "x")
	f.Add(3, "x", "", "a", "class", "y x")
	f.Add(5, "k", "v", "a", "k", "v")
	f.Fuzz(func(t *testing.T, kind int, name, value, element, attr, has string) {
		n := forest.Node{Kind: forest.Element, Name: element, Attrs: attrs(attr, has), Parent: -1}
		c := one(sel.Test{Kind: kind, Name: name, Value: value})
		if Fits(n, c) != fitsByRule(n, c) {
			t.Fatalf("Fits of %s, %s = %v", told(n), told(c), Fits(n, c))
		}
	})
}

package forest

import (
	"math"
	"reflect"
	"regexp"
	"slices"
	"strconv"
	"strings"
	"testing"
)

// sample has nodes of all kinds, below the document and beside it.
func sample() Forest {
	return Forest{
		{Kind: Doc, Parent: -1, Kids: []int{4, 1, 7}},
		{Kind: Element, Name: "div", Attrs: []Attr{{"id", "a"}, {"class", "b c"}}, Parent: 0, Kids: []int{3, 2}},
		{Kind: Element, Name: "p", Parent: 1, Kids: []int{8}},
		{Kind: Text, Text: "x<", Parent: 1},
		{Kind: Comment, Text: "c", Parent: 0},
		{Kind: Element, Name: "q", Parent: -1, Kids: []int{6, 9}},
		{Kind: Element, Name: "q", Parent: 5},
		{Kind: Comment, Text: "", Parent: 0},
		{Kind: Text, Text: "y", Parent: 2},
		{Kind: Comment, Text: "d", Parent: 5},
		{Kind: Text, Text: "z", Parent: -1},
		{Kind: Comment, Text: "e", Parent: -1},
	}
}

// node is one of that kind, with the least that it must have.
func node(kind, parent int) Node {
	n := Node{Kind: kind, Parent: parent}
	if kind == Element {
		n.Name = "a"
	}
	return n
}

// linked is f with the Kids that its Parents ask for, rising.
func linked(f Forest) Forest {
	for id, n := range f {
		if n.Parent >= 0 && n.Parent < len(f) {
			f[n.Parent].Kids = append(f[n.Parent].Kids, id)
		}
	}
	return f
}

// loose is the document, and as many comments beside it as make n nodes.
func loose(n int) Forest {
	f := New()
	for len(f) < n {
		f = append(f, node(Comment, -1))
	}
	return f
}

// chain is of n nodes, each below the one ahead of it.
func chain(n int) Forest {
	f := New()
	for len(f) < n {
		f = append(f, node(Element, len(f)-1))
	}
	return linked(f)
}

// broad is of n nodes, all but one of them just below the document.
func broad(n int) Forest {
	f := New()
	for len(f) < n {
		f = append(f, node(Comment, 0))
	}
	return linked(f)
}

// withAttrs has an element with n attributes.
func withAttrs(n int) Forest {
	f := linked(Forest{node(Doc, -1), node(Element, 0)})
	for i := range n {
		f[1].Attrs = append(f[1].Attrs, Attr{Name: "n" + strconv.Itoa(i)})
	}
	return f
}

// kept is a copy that shares nothing with f.
func kept(f Forest) Forest {
	c := slices.Clone(f)
	for i := range c {
		c[i].Attrs = slices.Clone(c[i].Attrs)
		c[i].Kids = slices.Clone(c[i].Kids)
	}
	return c
}

func asText(f Forest) string {
	var l []string
	for _, n := range f {
		l = append(l, strings.Join([]string{
			strconv.Itoa(n.Kind), strconv.Quote(n.Name), strconv.Quote(n.Text), strconv.Itoa(len(n.Attrs)), strconv.Itoa(n.Parent), numbers(n.Kids),
		}, " "))
	}
	return strings.Join(l, "; ")
}

func numbers(l []int) string {
	var s []string
	for _, n := range l {
		s = append(s, strconv.Itoa(n))
	}
	return "[" + strings.Join(s, " ") + "]"
}

var aName = regexp.MustCompile(`\A[A-Za-z][A-Za-z0-9_-]{0,19}\z`)

// ownByRule is what P5.1 says of a node alone.
func ownByRule(n Node) bool {
	names := map[string]bool{}
	for _, a := range n.Attrs {
		names[a.Name] = true
		if !aName.MatchString(a.Name) || len(a.Value) > 60 {
			return false
		}
	}
	element, written := n.Kind == Element, n.Kind == Text || n.Kind == Comment
	return n.Kind >= 0 && n.Kind <= 3 &&
		(element && aName.MatchString(n.Name) || !element && n.Name == "") &&
		(written && len(n.Text) <= 60 || !written && n.Text == "") &&
		(element && len(n.Attrs) <= 8 || len(n.Attrs) == 0) && len(names) == len(n.Attrs) &&
		!(written && len(n.Kids) > 0)
}

// mayByRule goes down from Kids to Kids, where the program goes up: it comes by each node once, if f may be.
func mayByRule(f Forest) bool {
	if len(f) < 1 || len(f) > 60 || f[0].Parent != -1 {
		return false
	}
	seen := make([]int, len(f))
	var down func(id, parent int) bool
	down = func(id, parent int) bool {
		if id < 0 || id >= len(f) || f[id].Parent != parent || seen[id] > 0 {
			return false
		}
		seen[id]++
		for _, kid := range f[id].Kids {
			if !down(kid, id) {
				return false
			}
		}
		return true
	}
	for id, n := range f {
		if !ownByRule(n) || (n.Kind == Doc) != (id == 0) || n.Parent == -1 && !down(id, -1) {
			return false
		}
	}
	kinds := map[int]int{}
	for _, kid := range f[0].Kids {
		kinds[f[kid].Kind]++
	}
	return !slices.Contains(seen, 0) && kinds[Text] == 0 && kinds[Element] <= 1
}

// above are id, and all that stand above it.
func above(f Forest, id int) []int {
	l := []int{id}
	for f[id].Parent != -1 {
		id = f[id].Parent
		l = append(l, id)
	}
	return l
}

// printByRule tells a node by what its Kids are told as.
func printByRule(f Forest, id int) string {
	inText := strings.NewReplacer("&", "&amp;", "<", "&lt;")
	inValue := strings.NewReplacer("&", "&amp;", "<", "&lt;", `"`, "&quot;")
	n, kids, attrs := f[id], "", ""
	for _, kid := range n.Kids {
		kids += printByRule(f, kid)
	}
	for _, a := range n.Attrs {
		attrs += " " + a.Name + `="` + inValue.Replace(a.Value) + `"`
	}
	return []string{
		Doc:     kids,
		Element: "<" + n.Name + attrs + ">" + kids + "</" + n.Name + ">",
		Text:    inText.Replace(n.Text),
		Comment: "<!" + inText.Replace(n.Text) + "!>",
	}[n.Kind]
}

// isNone asks that f may not be, and that every call says so.
func isNone(t *testing.T, f Forest) {
	t.Helper()
	if May(f) {
		t.Fatalf("May of %s = true", asText(f))
	}
	if l := Tops(f); len(l) != 0 {
		t.Fatalf("Tops of %s = %v", asText(f), l)
	}
	ids := []int{math.MinInt, -1, 0, 1, len(f) - 1, len(f), math.MaxInt}
	for _, id := range ids {
		if s := Print(f, id); s != "" {
			t.Fatalf("Print of %s, %d = %q", asText(f), id, s)
		}
		for _, top := range ids {
			if Below(f, top, id) {
				t.Fatalf("Below of %s, %d, %d = true", asText(f), top, id)
			}
		}
	}
	if !Same(f, f) || !Same(f, kept(f)) {
		t.Fatalf("Same of %s, twice = false", asText(f))
	}
}

// isOne asks that f may be, and holds every call against the rule; P5.4 is among what it asks.
func isOne(t *testing.T, f Forest) {
	t.Helper()
	if !May(f) {
		t.Fatalf("May of %s = false", asText(f))
	}
	tops := Tops(f)
	var want []int
	for id := range f {
		if f[id].Parent == -1 {
			want = append(want, id)
		}
	}
	if !slices.Equal(tops, want) {
		t.Fatalf("Tops of %s = %v, want %v", asText(f), tops, want)
	}
	for id := range f {
		if s := Print(f, id); s != printByRule(f, id) {
			t.Fatalf("Print of %s, %d = %q, want %q", asText(f), id, s, printByRule(f, id))
		}
		way := above(f, id)
		for top := -2; top < len(f)+2; top++ {
			if Below(f, top, id) != slices.Contains(way, top) {
				t.Fatalf("Below of %s, %d, %d = %v", asText(f), top, id, !slices.Contains(way, top))
			}
		}
		many := 0
		for _, top := range tops {
			if Below(f, top, id) {
				many++
			}
		}
		if many != 1 {
			t.Fatalf("%s: %d is below %d of %v", asText(f), id, many, tops)
		}
	}
	for _, id := range []int{math.MinInt, -2, -1, len(f), len(f) + 1, math.MaxInt} {
		if Print(f, id) != "" || Below(f, 0, id) || Below(f, id, 0) || Below(f, id, id) {
			t.Fatalf("%s has a node %d", asText(f), id)
		}
	}
}

// isAsRuled asks that f may be if the rule says so, and that what follows holds.
func isAsRuled(t *testing.T, f Forest) {
	t.Helper()
	if mayByRule(f) {
		isOne(t, f)
	} else {
		isNone(t, f)
	}
}

// P5.1
func TestNew(t *testing.T) {
	for range 2 {
		f := New()
		if len(f) != 1 {
			t.Fatal(asText(f))
		}
		n := f[0]
		if n.Kind != 0 || n.Name != "" || n.Text != "" || len(n.Attrs) != 0 || n.Parent != -1 || len(n.Kids) != 0 {
			t.Fatal(asText(f))
		}
		isOne(t, f)
		if !slices.Equal(Tops(f), []int{0}) || Print(f, 0) != "" || !Below(f, 0, 0) {
			t.Error(Tops(f), Print(f, 0))
		}
		// Writing over it does not reach the next one.
		f[0] = Node{Kind: Text, Text: "x"}
	}
}

// P5.1: the kinds are told apart by these numbers.
func TestKinds(t *testing.T) {
	if Doc != 0 || Element != 1 || Text != 2 || Comment != 3 {
		t.Error(Doc, Element, Text, Comment)
	}
}

// P5.1: 1 to MaxNodes nodes.
func TestMayByNumber(t *testing.T) {
	isNone(t, nil)
	isNone(t, Forest{})
	for _, many := range []int{1, 2, 59, 60} {
		for _, f := range []Forest{loose(many), chain(many), broad(many)} {
			if len(f) != many {
				t.Fatal(len(f))
			}
			isOne(t, f)
		}
	}
	for _, many := range []int{61, 62, 70} {
		for _, f := range []Forest{loose(many), chain(many), broad(many), make(Forest, many)} {
			isNone(t, f)
		}
	}
}

// wholes are forests that may be, with what stands at the edge of it.
func wholes() map[string]Forest {
	turned := func(turn func(Forest)) Forest {
		f := sample()
		turn(f)
		return f
	}
	return map[string]Forest{
		"sample":                         sample(),
		"the document alone":             {{Parent: -1}},
		"empty lists":                    {{Parent: -1, Attrs: []Attr{}, Kids: []int{}}, {Kind: Text, Parent: -1, Attrs: []Attr{}, Kids: []int{}}},
		"no attributes":                  withAttrs(0),
		"8 attributes":                   withAttrs(8),
		"a long name":                    turned(func(f Forest) { f[1].Name = strings.Repeat("a", 20) }),
		"a long text":                    turned(func(f Forest) { f[3].Text = strings.Repeat("a", 60) }),
		"a long comment":                 turned(func(f Forest) { f[4].Text = strings.Repeat("\xff", 60) }),
		"a long name of an attribute":    turned(func(f Forest) { f[1].Attrs[0].Name = strings.Repeat("a", 20) }),
		"a long value":                   turned(func(f Forest) { f[1].Attrs[1].Value = strings.Repeat("\"", 60) }),
		"an empty value":                 turned(func(f Forest) { f[1].Attrs[1].Value = "" }),
		"an empty text":                  turned(func(f Forest) { f[3].Text = "" }),
		"values that are the same":       turned(func(f Forest) { f[1].Attrs[1].Value = "a" }),
		"names apart by capitals":        turned(func(f Forest) { f[1].Attrs[1].Name = "ID" }),
		"an attribute named as its node": turned(func(f Forest) { f[1].Attrs[0].Name = "div" }),
		"the same attribute twice":       turned(func(f Forest) { f[2].Attrs = []Attr{{"id", "a"}} }),
		"Kids in another order":          turned(func(f Forest) { f[1].Kids = []int{2, 3}; f[0].Kids = []int{7, 4, 1} }),
		"the document without Kids":      turned(func(f Forest) { f[0].Kids, f[1].Parent, f[4].Parent, f[7].Parent = nil, -1, -1, -1 }),
		"comments in the document":       turned(func(f Forest) { f[0].Kids = []int{4, 1, 7, 11}; f[11].Parent = 0 }),
		"a parent of a higher number":    linked(Forest{node(Doc, -1), node(Text, 2), node(Element, 3), node(Element, 0)}),
		"two Elements below an Element":  linked(Forest{node(Doc, -1), node(Element, 0), node(Element, 1), node(Element, 1)}),
		"Elements beside the document":   linked(Forest{node(Doc, -1), node(Element, -1), node(Element, -1), node(Element, 0)}),
		"Texts beside the document":      linked(Forest{node(Doc, -1), node(Text, -1), node(Text, -1)}),
	}
}

// P5.1
func TestMay(t *testing.T) {
	for name, f := range wholes() {
		t.Run(name, func(t *testing.T) { isOne(t, f) })
		if !mayByRule(f) {
			t.Errorf("%s: the rule says that it may not be", name)
		}
	}
}

// wrong is what makes of sample a forest that may not be.
func wrong() map[string]func(Forest) {
	return map[string]func(Forest){
		"node 0 is an Element":             func(f Forest) { f[0].Kind, f[0].Name = Element, "a" },
		"node 0 is a Comment":              func(f Forest) { f[0].Kind = Comment },
		"another document":                 func(f Forest) { f[10] = node(Doc, -1) },
		"another document below":           func(f Forest) { f[6] = node(Doc, 5) },
		"another document in the document": func(f Forest) { f[7] = node(Doc, 0) },
		"kind 4":                           func(f Forest) { f[10].Kind = 4 },
		"kind -1":                          func(f Forest) { f[10] = node(-1, -1) },
		"a kind that is far off":           func(f Forest) { f[10] = node(1<<32+Comment, -1) },
		"a named document":                 func(f Forest) { f[0].Name = "a" },
		"a document with a text":           func(f Forest) { f[0].Text = "a" },
		"a document with an attribute":     func(f Forest) { f[0].Attrs = []Attr{{"a", ""}} },
		"a nameless Element":               func(f Forest) { f[6].Name = "" },
		"an Element with a wrong name":     func(f Forest) { f[6].Name = "1" },
		"an Element with a long name":      func(f Forest) { f[6].Name = strings.Repeat("a", 21) },
		"an Element with a text":           func(f Forest) { f[6].Text = "a" },
		"a named Text":                     func(f Forest) { f[10].Name = "a" },
		"a named Comment":                  func(f Forest) { f[11].Name = "a" },
		"a Text that is too long":          func(f Forest) { f[10].Text = strings.Repeat("a", 61) },
		"a Comment that is too long":       func(f Forest) { f[11].Text = strings.Repeat("a", 61) },
		"a Text with an attribute":         func(f Forest) { f[10].Attrs = []Attr{{"a", ""}} },
		"a Comment with an attribute":      func(f Forest) { f[11].Attrs = []Attr{{"a", ""}} },
		"a nameless attribute":             func(f Forest) { f[1].Attrs[1].Name = "" },
		"an attribute with a wrong name":   func(f Forest) { f[1].Attrs[1].Name = "a b" },
		"an attribute with a long name":    func(f Forest) { f[1].Attrs[0].Name = strings.Repeat("a", 21) },
		"a long value":                     func(f Forest) { f[1].Attrs[1].Value = strings.Repeat("a", 61) },
		"a long value first":               func(f Forest) { f[1].Attrs[0].Value = strings.Repeat("a", 61) },
		"two attributes of one name":       func(f Forest) { f[1].Attrs[1].Name = "id" },
		"an attribute twice":               func(f Forest) { f[1].Attrs[1] = f[1].Attrs[0] },
		"a Text with a Kid":                func(f Forest) { f[10].Kids, f[11].Parent = []int{11}, 10 },
		"a Comment with a Kid":             func(f Forest) { f[11].Kids, f[10].Parent = []int{10}, 11 },
		"a document below":                 func(f Forest) { f[0].Parent, f[6].Kids = 6, []int{0} },
		"a document below itself":          func(f Forest) { f[0].Parent, f[0].Kids = 0, []int{4, 1, 7, 0} },
		"a document of the Parent 0":       func(f Forest) { f[0].Parent = 0 },
		"a document of the Parent -2":      func(f Forest) { f[0].Parent = -2 },
		"the Parent -2":                    func(f Forest) { f[10].Parent = -2 },
		"the lowest Parent":                func(f Forest) { f[10].Parent = math.MinInt },
		"the Parent behind all":            func(f Forest) { f[10].Parent = 12 },
		"the highest Parent":               func(f Forest) { f[10].Parent = math.MaxInt },
		"a Parent without it":              func(f Forest) { f[10].Parent = 1 },
		"a Parent without Kids":            func(f Forest) { f[10].Parent = 6 },
		"a Text as a Parent":               func(f Forest) { f[11].Parent = 10 },
		"itself as a Parent":               func(f Forest) { f[10].Parent = 10 },
		"not in its Parent's Kids":         func(f Forest) { f[0].Kids = []int{4, 1} },
		"twice in its Parent's Kids":       func(f Forest) { f[1].Kids = []int{3, 2, 3} },
		"twice, side by side":              func(f Forest) { f[0].Kids = []int{4, 4, 1, 7} },
		"thrice in its Parent's Kids":      func(f Forest) { f[5].Kids = []int{6, 6, 6, 9} },
		"250 times in its Parent's Kids":   func(f Forest) { f[2].Kids = slices.Repeat([]int{8}, 250) },
		"the Kid -1":                       func(f Forest) { f[6].Kids = []int{-1} },
		"the lowest Kid":                   func(f Forest) { f[6].Kids = []int{math.MinInt} },
		"the Kid behind all":               func(f Forest) { f[6].Kids = []int{12} },
		"the highest Kid":                  func(f Forest) { f[6].Kids = []int{math.MaxInt} },
		"a Kid behind all, last":           func(f Forest) { f[5].Kids = []int{6, 9, 12} },
		"a Kid of the document behind all": func(f Forest) { f[0].Kids = []int{4, 1, 7, 12} },
		"a Kid of another one":             func(f Forest) { f[6].Kids = []int{8} },
		"a Kid that stands alone":          func(f Forest) { f[6].Kids = []int{10} },
		"a Kid of the document, alone":     func(f Forest) { f[0].Kids = []int{4, 1, 7, 11} },
		"the document as a Kid":            func(f Forest) { f[6].Kids = []int{0} },
		"itself as a Kid":                  func(f Forest) { f[6].Kids = []int{6} },
		"a Text in the document":           func(f Forest) { f[0].Kids, f[10].Parent = []int{4, 1, 7, 10}, 0 },
		"a Text first in the document":     func(f Forest) { f[0].Kids, f[10].Parent = []int{10, 4, 1, 7}, 0 },
		"two Elements in the document":     func(f Forest) { f[0].Kids, f[5].Parent = []int{4, 1, 7, 5}, 0 },
		"round by itself":                  func(f Forest) { f[5].Parent, f[5].Kids = 5, []int{6, 9, 5} },
		"round by two":                     func(f Forest) { f[5].Parent, f[6].Kids = 6, []int{5} },
		"round by two, out of the document": func(f Forest) {
			f[0].Kids, f[1].Parent, f[2].Kids = []int{4, 7}, 2, []int{8, 1}
		},
	}
}

// P5.1, P5.2, P5.3: all that the document names as what may not be, each alone.
func TestWrongForests(t *testing.T) {
	for name, turn := range wrong() {
		t.Run(name, func(t *testing.T) {
			f := sample()
			turn(f)
			isNone(t, f)
			if mayByRule(f) {
				t.Error("the rule says that it may be")
			}
			if Same(f, sample()) || Same(sample(), f) {
				t.Error("the same as it was")
			}
		})
	}
}

// P5.1: the document's Kids, of every kind, one alone and three side by side.
func TestMayOfADocumentWithKids(t *testing.T) {
	for kind, want := range map[int]bool{Doc: false, Element: true, Text: false, Comment: true} {
		if f := linked(Forest{node(Doc, -1), node(kind, 0)}); May(f) != want {
			t.Errorf("a node of the kind %d below the document: %v", kind, !want)
		}
	}
	for first := range 4 {
		for second := range 4 {
			for third := range 4 {
				isAsRuled(t, linked(Forest{node(Doc, -1), node(first, 0), node(second, 0), node(third, 0)}))
			}
		}
	}
}

// P5.1: MaxAttrs attributes, no two with the same Name.
func TestMayOfAttributes(t *testing.T) {
	for many := range 9 {
		isOne(t, withAttrs(many))
		for i := range many {
			for j := range many {
				f := withAttrs(many)
				f[1].Attrs[i] = Attr{Name: f[1].Attrs[j].Name, Value: "other"}
				if May(f) != (i == j) {
					t.Errorf("of %d attributes %d is named as %d: %v", many, i, j, May(f))
				}
			}
			f := withAttrs(many)
			f[1].Attrs[i].Name = "9"
			isNone(t, f)
			f = withAttrs(many)
			f[1].Attrs[i].Value = strings.Repeat("a", 61)
			isNone(t, f)
		}
	}
	for _, many := range []int{9, 10, 250} {
		isNone(t, withAttrs(many))
	}
}

// P5.1: each byte in a name, and in a text.
func TestMayByBytes(t *testing.T) {
	for i := range 256 {
		c := string([]byte{byte(i)})
		for _, s := range []string{c, "a" + c} {
			f := linked(Forest{node(Doc, -1), node(Element, 0), node(Text, 1), node(Comment, 0)})
			f[1].Name, f[2].Text, f[3].Text = s, s, s
			f[1].Attrs = []Attr{{s, s}}
			if May(f) != aName.MatchString(s) {
				t.Errorf("the name %q: %v", s, May(f))
			}
			f[1].Name = "a"
			if May(f) != aName.MatchString(s) {
				t.Errorf("an attribute's name %q: %v", s, May(f))
			}
			f[1].Attrs[0].Name = "a"
			isOne(t, f)
		}
	}
}

// choices calls with every list of that many numbers from low to high.
func choices(many, low, high int, with func([]int)) {
	l := make([]int, many)
	var from func(at int)
	from = func(at int) {
		if at == many {
			with(l)
			return
		}
		for l[at] = low; l[at] <= high; l[at]++ {
			from(at + 1)
		}
	}
	from(0)
}

// P5.1 to P5.4: every few nodes of all kinds, each below any other one.
func TestEveryShape(t *testing.T) {
	for many := range 5 {
		whole := 0
		choices(many, -1, many, func(parents []int) {
			choices(many, Element, Comment, func(kinds []int) {
				f := New()
				for i := range many {
					f = append(f, node(kinds[i], parents[i]))
				}
				f = linked(f)
				isAsRuled(t, f)
				if May(f) {
					whole++
				}
			})
		})
		if whole == 0 {
			t.Errorf("%d nodes: none of all may be", many)
		}
	}
}

// P5.1: every three nodes with any Parents, and with any short Kids.
func TestEveryLink(t *testing.T) {
	kids := [][]int{nil}
	for many := 1; many <= 2; many++ {
		choices(many, -1, 3, func(l []int) { kids = append(kids, slices.Clone(l)) })
	}
	whole := 0
	for _, last := range []int{Element, Comment} {
		choices(3, 0, len(kids)-1, func(which []int) {
			f := Forest{node(Doc, -1), node(Element, -1), node(last, -1)}
			for id := range f {
				f[id].Kids = kids[which[id]]
			}
			choices(2, -2, 3, func(parents []int) {
				f[1].Parent, f[2].Parent = parents[0], parents[1]
				want := mayByRule(f)
				if May(f) != want {
					t.Fatalf("May of %s = %v", asText(f), !want)
				}
				if want {
					whole++
				}
			})
		})
	}
	// Of two Elements, and of an Element and a Comment as well: none is below another one in one way, one is in four, or three,
	// and both are in two, or three.
	if whole != 14 {
		t.Errorf("%d of all may be", whole)
	}
}

// P5.1: nodes that go round, in rings of any length, with and without others below them.
func TestMayOfRings(t *testing.T) {
	for many := 1; many < 60; many++ {
		for _, more := range []int{0, 1} {
			if 1+many+more > 60 {
				continue
			}
			f := New()
			for i := range many {
				f = append(f, node(Element, 1+(i+1)%many))
			}
			for range more {
				f = append(f, node(Text, 1))
			}
			isNone(t, linked(f))
		}
	}
}

// P5.2
func TestSame(t *testing.T) {
	if !Same(sample(), sample()) || !Same(New(), New()) {
		t.Error("Same of what is the same = false")
	}
	for name, turn := range map[string]func(Forest){
		"Kind":               func(f Forest) { f[10].Kind = Comment },
		"Name":               func(f Forest) { f[6].Name = "Q" },
		"Text":               func(f Forest) { f[11].Text = "E" },
		"no Text":            func(f Forest) { f[11].Text = "" },
		"Parent":             func(f Forest) { f[9].Parent = -1 },
		"the first Parent":   func(f Forest) { f[0].Parent = 0 },
		"an attribute":       func(f Forest) { f[1].Attrs[1].Name = "other" },
		"a value":            func(f Forest) { f[1].Attrs[0].Value = "" },
		"fewer attributes":   func(f Forest) { f[1].Attrs = f[1].Attrs[:1] },
		"no attributes":      func(f Forest) { f[1].Attrs = nil },
		"one attribute more": func(f Forest) { f[6].Attrs = []Attr{{}} },
		"attributes' order":  func(f Forest) { slices.Reverse(f[1].Attrs) },
		"a Kid":              func(f Forest) { f[2].Kids[0] = 9 },
		"fewer Kids":         func(f Forest) { f[5].Kids = f[5].Kids[:1] },
		"no Kids":            func(f Forest) { f[5].Kids = []int{} },
		"one Kid more":       func(f Forest) { f[11].Kids = []int{0} },
		"the Kids' order":    func(f Forest) { slices.Reverse(f[1].Kids) },
		"the nodes' order":   func(f Forest) { f[10], f[11] = f[11], f[10] },
	} {
		f := sample()
		turn(f)
		if Same(f, sample()) || Same(sample(), f) {
			t.Errorf("%s: the same", name)
		}
		if !Same(f, kept(f)) || !Same(kept(f), f) {
			t.Errorf("%s: not the same as itself", name)
		}
	}
}

// P5.2: how many nodes there are, of forests that may be and of others.
func TestSameByNumber(t *testing.T) {
	for i := range 71 {
		for j := range 71 {
			if Same(loose(70)[:i], loose(70)[:j]) != (i == j) {
				t.Errorf("%d nodes and %d", i, j)
			}
		}
	}
	if Same(New(), nil) || Same(nil, New()) || Same(Forest{}, New()) || Same(New(), Forest{{}}) {
		t.Error("the same as nothing")
	}
}

// P5.2, R6: lists without elements are alike.
func TestSameOfEmptyLists(t *testing.T) {
	for _, a := range []Forest{nil, {}, make(Forest, 0, 5)} {
		for _, b := range []Forest{nil, {}, make(Forest, 0, 5)} {
			if !Same(a, b) {
				t.Error("forests without nodes are not the same")
			}
		}
	}
	var all []Forest
	for _, attrs := range [][]Attr{nil, {}, make([]Attr, 0, 5)} {
		for _, kids := range [][]int{nil, {}, make([]int, 0, 5)} {
			f := loose(3)
			for i := range f {
				f[i].Attrs, f[i].Kids = attrs, kids
			}
			all = append(all, f)
		}
	}
	for _, a := range all {
		isOne(t, a)
		for _, b := range all {
			if !Same(a, b) {
				t.Errorf("%#v and %#v are not the same", a, b)
			}
		}
	}
}

// P5.2: which forest stands at which side says nothing, and each is the same as none but itself.
func TestSameOfMany(t *testing.T) {
	all := []Forest{nil}
	for _, turn := range wrong() {
		f := sample()
		turn(f)
		all = append(all, f)
	}
	for _, f := range wholes() {
		all = append(all, f)
	}
	for i, a := range all {
		for j, b := range all {
			if Same(a, b) != (i == j) {
				t.Errorf("%s and %s: %v", asText(a), asText(b), Same(a, b))
			}
		}
	}
}

// P5.2
func TestBelow(t *testing.T) {
	tops := map[int][]int{
		0: {0}, 1: {1, 0}, 2: {2, 1, 0}, 3: {3, 1, 0}, 4: {4, 0}, 5: {5}, 6: {6, 5},
		7: {7, 0}, 8: {8, 2, 1, 0}, 9: {9, 5}, 10: {10}, 11: {11}, -1: nil, 12: nil,
	}
	f := sample()
	for id, want := range tops {
		for _, top := range []int{math.MinInt, -2, -1, 0, 1, 2, 3, 4, 5, 6, 7, 8, 9, 10, 11, 12, 13, math.MaxInt} {
			if Below(f, top, id) != slices.Contains(want, top) {
				t.Errorf("Below of %d and %d = %v", top, id, !slices.Contains(want, top))
			}
		}
	}
	f = chain(60)
	if !Below(f, 0, 59) || !Below(f, 58, 59) || !Below(f, 59, 59) || Below(f, 59, 58) || Below(f, 59, 0) || Below(f, 0, 60) || Below(f, -1, 59) {
		t.Error("Below in a chain")
	}
}

// P5.2
func TestTops(t *testing.T) {
	if l := Tops(sample()); !slices.Equal(l, []int{0, 5, 10, 11}) {
		t.Error(l)
	}
	for _, f := range []Forest{New(), chain(60), broad(60)} {
		if l := Tops(f); !slices.Equal(l, []int{0}) {
			t.Error(l)
		}
	}
	if l := Tops(loose(60)); len(l) != 60 || !slices.IsSorted(l) || l[0] != 0 || l[59] != 59 {
		t.Error(l)
	}
	f := linked(Forest{node(Doc, -1), node(Text, 2), node(Element, -1), node(Element, 0), node(Comment, -1)})
	if l := Tops(f); !slices.Equal(l, []int{0, 2, 4}) {
		t.Error(l)
	}
}

// P5.3
func TestPrint(t *testing.T) {
	const p = "<p>y</p>"
	const div = `<div id="a" class="b c">x&lt;` + p + "</div>"
	for id, want := range []string{
		"<!c!>" + div + "<!!>", div, p, "x&lt;", "<!c!>", "<q><q></q><!d!></q>", "<q></q>", "<!!>", "y", "<!d!>", "z", "<!e!>",
	} {
		if s := Print(sample(), id); s != want {
			t.Errorf("Print of %d = %q, want %q", id, s, want)
		}
	}
	for _, id := range []int{math.MinInt, -1, 12, 13, math.MaxInt} {
		if s := Print(sample(), id); s != "" {
			t.Errorf("Print of %d = %q", id, s)
		}
	}
	f := Forest{{Parent: -1, Kids: []int{1}}, {Kind: Element, Name: "div", Kids: []int{2}}, {Kind: Text, Text: "x<", Parent: 1}}
	if s := Print(f, 0); s != "<div>x&lt;</div>" {
		t.Errorf("%q", s)
	}
}

// P5.3: what stands for others in texts, comments and values.
func TestPrintOfMarks(t *testing.T) {
	for _, x := range []struct{ s, inText, inValue string }{
		{"", "", ""},
		{"&", "&amp;", "&amp;"},
		{"<", "&lt;", "&lt;"},
		{`"`, `"`, "&quot;"},
		{">", ">", ">"},
		{"'", "'", "'"},
		{`&<"`, `&amp;&lt;"`, "&amp;&lt;&quot;"},
		{`"<&`, `"&lt;&amp;`, "&quot;&lt;&amp;"},
		{"&&<<", "&amp;&amp;&lt;&lt;", "&amp;&amp;&lt;&lt;"},
		{"&amp;", "&amp;amp;", "&amp;amp;"},
		{"&lt;", "&amp;lt;", "&amp;lt;"},
		{"&quot;", "&amp;quot;", "&amp;quot;"},
		{"!>", "!>", "!>"},
		{"a b\n\x00", "a b\n\x00", "a b\n\x00"},
		{"\xff<\xc3", "\xff&lt;\xc3", "\xff&lt;\xc3"},
		{"\u00e9\u20ac", "\u00e9\u20ac", "\u00e9\u20ac"},
		{strings.Repeat("<", 60), strings.Repeat("&lt;", 60), strings.Repeat("&lt;", 60)},
		{strings.Repeat(`"`, 60), strings.Repeat(`"`, 60), strings.Repeat("&quot;", 60)},
	} {
		f := linked(Forest{node(Doc, -1), node(Element, 0), node(Text, 1), node(Comment, 0)})
		f[1].Attrs = []Attr{{"v", x.s}, {"w", "0"}, {"u", x.s}}
		f[2].Text, f[3].Text = x.s, x.s
		element := `<a v="` + x.inValue + `" w="0" u="` + x.inValue + `">` + x.inText + "</a>"
		comment := "<!" + x.inText + "!>"
		for id, want := range []string{element + comment, element, x.inText, comment} {
			if s := Print(f, id); s != want {
				t.Errorf("%q in %d: %q, want %q", x.s, id, s, want)
			}
		}
	}
}

// P5.3: as they stand in Kids, not as they are numbered, and the attributes as they stand.
func TestPrintInOrder(t *testing.T) {
	f := Forest{
		{Parent: -1, Kids: []int{5, 1, 4}},
		{Kind: Element, Name: "A-1", Attrs: []Attr{{"z", "1"}, {"a", "2"}, {"m", "3"}}, Kids: []int{3, 6, 2}},
		{Kind: Text, Text: "two", Parent: 1},
		{Kind: Text, Text: "three", Parent: 1},
		{Kind: Comment, Text: "four"},
		{Kind: Comment, Text: "five"},
		{Kind: Element, Name: "b", Parent: 1},
	}
	if s := Print(f, 0); s != `<!five!><A-1 z="1" a="2" m="3">three<b></b>two</A-1><!four!>` {
		t.Error(s)
	}
}

// P5.3: as deep, and as broad, as there are nodes.
func TestPrintOfMany(t *testing.T) {
	if s := Print(chain(60), 0); s != strings.Repeat("<a>", 59)+strings.Repeat("</a>", 59) {
		t.Error(s)
	}
	if s := Print(chain(60), 58); s != "<a><a></a></a>" {
		t.Error(s)
	}
	if s := Print(broad(60), 0); s != strings.Repeat("<!!>", 59) {
		t.Error(s)
	}
	if s := Print(loose(60), 0); s != "" {
		t.Error(s)
	}
	f := broad(60)
	for i := range f[1:] {
		f[1+i].Text = strings.Repeat("&", 60)
	}
	if s := Print(f, 0); s != strings.Repeat("<!"+strings.Repeat("&amp;", 60)+"!>", 59) {
		t.Error(len(s))
	}
	f = withAttrs(8)
	for i := range f[1].Attrs {
		f[1].Attrs[i].Value = strings.Repeat(`"`, 60)
	}
	if s := Print(f, 1); s != printByRule(f, 1) || len(s) != len("<a></a>")+8*(len(` n0=""`)+60*len("&quot;")) {
		t.Error(s)
	}
}

// P5.4: each node is below just one of Tops, and that one is the last on its way up.
func TestEachBelowOneTop(t *testing.T) {
	for _, f := range []Forest{New(), sample(), chain(60), broad(60), loose(60)} {
		tops := Tops(f)
		for id := range f {
			var of []int
			for _, top := range tops {
				if Below(f, top, id) {
					of = append(of, top)
				}
			}
			way := above(f, id)
			if !slices.Equal(of, way[len(way)-1:]) {
				t.Errorf("%s: %d is below %v", asText(f), id, of)
			}
		}
	}
}

// dice is a run of numbers that is always the same.
type dice uint32

func (d *dice) roll(n int) int {
	*d = *d*1664525 + 1013904223
	return int(*d>>8) % n
}

// thrown is a forest that may be, with up to that many nodes.
func thrown(d *dice, most int) Forest {
	f := New()
	texts := []string{"", "a", "&<", `"`, "x\xff", strings.Repeat("t", 60)}
	for len(f) < most {
		n := node(1+d.roll(3), -1)
		if n.Kind == Element {
			n.Name = []string{"a", "B", "c-d_9"}[d.roll(3)]
			for i := range d.roll(9) {
				n.Attrs = append(n.Attrs, Attr{"n" + strconv.Itoa(i), texts[d.roll(len(texts))]})
			}
		} else {
			n.Text = texts[d.roll(len(texts))]
		}
		f = append(f, n)
		// Only below what was there ahead of it: so nothing goes round.
		id, parent := len(f)-1, d.roll(len(f))
		element := func(kid int) bool { return f[kid].Kind == Element }
		taken := n.Kind == Text || n.Kind == Element && slices.ContainsFunc(f[0].Kids, element)
		if parent == id || f[parent].Kind > Element || parent == 0 && taken {
			continue
		}
		f[id].Parent = parent
		f[parent].Kids = slices.Insert(f[parent].Kids, d.roll(len(f[parent].Kids)+1), id)
	}
	return f
}

// bent is f with one number of it, or one text, changed.
func bent(d *dice, f Forest) Forest {
	f = kept(f)
	id, x := d.roll(len(f)), d.roll(len(f)+4)-2
	n := &f[id]
	switch d.roll(8) {
	case 0:
		n.Parent = x
	case 1:
		n.Kids = slices.Insert(n.Kids, d.roll(len(n.Kids)+1), x)
	case 2:
		if len(n.Kids) > 0 {
			n.Kids[d.roll(len(n.Kids))] = x
		}
	case 3:
		if len(n.Kids) > 0 {
			at := d.roll(len(n.Kids))
			n.Kids = slices.Delete(n.Kids, at, at+1)
		}
	case 4:
		n.Kind = d.roll(6) - 1
	case 5:
		n.Name = []string{"", "a", "9"}[d.roll(3)]
	case 6:
		n.Text = []string{"", "a", strings.Repeat("a", 61)}[d.roll(3)]
	case 7:
		n.Attrs = append(n.Attrs, Attr{Name: "n" + strconv.Itoa(d.roll(10))})
	}
	return f
}

// P5.1 to P5.4: greater forests, and what comes of them by a change or two.
func TestThrownForests(t *testing.T) {
	wholes, others := 0, 0
	for seed := range 60 {
		d := dice(seed)
		f := thrown(&d, 1+d.roll(60))
		isOne(t, f)
		for range 20 {
			g := bent(&d, f)
			if d.roll(2) == 0 {
				g = bent(&d, g)
			}
			isAsRuled(t, g)
			if Same(f, g) != (asText(f) == asText(g) && reflect.DeepEqual(attrsOf(f), attrsOf(g))) {
				t.Fatalf("Same of %s and %s = %v", asText(f), asText(g), Same(f, g))
			}
			if May(g) {
				wholes++
			} else {
				others++
			}
		}
	}
	if wholes < 100 || others < 100 {
		t.Errorf("%d may be, and %d may not", wholes, others)
	}
}

func attrsOf(f Forest) []Attr {
	var l []Attr
	for id, n := range f {
		for _, a := range n.Attrs {
			l = append(l, Attr{Name: strconv.Itoa(id) + a.Name, Value: a.Value})
		}
	}
	return l
}

// roomy is f with room behind the ends of its lists, where something stands.
func roomy(f Forest) Forest {
	c := append(kept(f), Node{Name: "behind"})
	for i := range c {
		c[i].Attrs = append(c[i].Attrs, Attr{Name: "behind"})
		c[i].Kids = append(c[i].Kids, 77)
		c[i].Attrs = c[i].Attrs[:len(c[i].Attrs)-1]
		c[i].Kids = c[i].Kids[:len(c[i].Kids)-1]
	}
	return c[:len(c)-1]
}

// whole is f with all that stands behind the ends of its lists.
func whole(f Forest) Forest {
	f = slices.Clone(f[:len(f)+1])
	for i := range f {
		f[i].Attrs = f[i].Attrs[:len(f[i].Attrs)+1]
		f[i].Kids = f[i].Kids[:len(f[i].Kids)+1]
	}
	return kept(f)
}

// R4: forests stay as they were behind every call, and writing over what was answered changes nothing.
func TestForestsStay(t *testing.T) {
	all := []Forest{nil, New(), sample(), chain(60), loose(61), withAttrs(8), withAttrs(9)}
	for _, turn := range wrong() {
		f := sample()
		turn(f)
		all = append(all, f)
	}
	for _, f := range all {
		f := roomy(f)
		was := whole(f)
		for range 2 {
			May(f)
			Same(f, f)
			Same(f, sample())
			Same(sample(), f)
			tops := Tops(f)
			again := slices.Clone(tops)
			for i := range tops[:cap(tops)] {
				tops[:cap(tops)][i] = 99
			}
			if !slices.Equal(Tops(f), again) {
				t.Errorf("Tops of %s, behind others: %v, want %v", asText(f), Tops(f), again)
			}
			for id := -1; id <= len(f); id++ {
				s := Print(f, id)
				Below(f, 0, id)
				Below(f, id, 1)
				if Print(f, id) != s {
					t.Errorf("Print of %s, %d, behind others: %q", asText(f), id, s)
				}
			}
		}
		if !reflect.DeepEqual(whole(f), was) {
			t.Errorf("%s became %s", asText(was), asText(whole(f)))
		}
	}
}

// R4: what was answered does not hang on what is done to the forest behind it.
func TestAnswersAreNotShared(t *testing.T) {
	f := sample()
	tops, s := Tops(f), Print(f, 0)
	was := slices.Clone(tops)
	for i := range f {
		for j := range f[i].Kids {
			f[i].Kids[j] = 55
		}
		f[i] = Node{Kind: 9, Parent: 66}
	}
	if !slices.Equal(tops, was) || s != Print(sample(), 0) {
		t.Error(tops, s)
	}
}

// FuzzForest holds any few nodes against the rule.
func FuzzForest(f *testing.F) {
	f.Add([]byte{0, 0, 0}, "a", "b")
	f.Add([]byte{0, 0, 1, 2, 1, 1, 0, 1, 2, 2, 2, 0, 3, 0, 0}, "div", "x<")
	f.Add([]byte{0, 0, 0, 1, 3, 1, 3, 1, 2, 1, 2}, "a", "")
	f.Add([]byte{0, 0, 2, 2, 3, 1, 1, 0, 3, 1, 0}, "", "&\"")
	f.Fuzz(func(t *testing.T, shape []byte, name, text string) {
		if len(shape) > 250 || len(name) > 300 || len(text) > 600 {
			return
		}
		isAsRuled(t, shaped(shape, name, text))
	})
}

// shaped reads nodes out of bytes: of each its kind, its Parent, how many Kids, and them.
func shaped(shape []byte, name, text string) Forest {
	var f Forest
	next := func() int {
		if len(shape) == 0 {
			return 0
		}
		x := int(int8(shape[0]))
		shape = shape[1:]
		return x
	}
	for len(shape) > 0 {
		n := node(next(), next()-1)
		if n.Kind == Element {
			n.Name, n.Attrs = name, []Attr{{name, text}, {"v", name}}
		}
		if n.Kind == Text || n.Kind == Comment {
			n.Text = text
		}
		for range min(next(), 70) {
			n.Kids = append(n.Kids, next())
		}
		f = append(f, n)
	}
	return f
}

package sel

import (
	"regexp"
	"slices"
	"strconv"
	"strings"
	"testing"

	"treillage/api"
)

// What a selector is, as a rule of another kind than the program: each byte of a text stands for a letter of its own (see wide).
const (
	blankRule    = `[\t\n\f\r ]`
	nameRule     = `[A-Za-z][A-Za-z0-9_-]{0,19}`
	stringRule   = `"([^"]{0,60})"`
	valueRule    = blankRule + `*=` + blankRule + `*(?:(` + nameRule + `)|` + stringRule + `)`
	hasRule      = `\[` + blankRule + `*(` + nameRule + `)(?:` + valueRule + `)?` + blankRule + `*\]`
	testRule     = `(?:#(?:` + nameRule + `)|\.(?:` + nameRule + `)|` + hasRule + `)`
	compoundRule = `(?:(?:\*|` + nameRule + `)` + testRule + `*|` + testRule + `+)`
	betweenRule  = `(?:` + blankRule + `*>` + blankRule + `*|` + blankRule + `+)`
	rowRule      = blankRule + `*` + compoundRule + `(?:` + betweenRule + compoundRule + `)*` + blankRule + `*`
)

// marks are bytes of all that a selector's rules speak of, and some that may stand in strings only.
const marks = "a1*#.[]=\">, !\x80"

var (
	whole = regexp.MustCompile(`\A` + rowRule + `(?:,` + rowRule + `)*\z`)
	part  = regexp.MustCompile(`\A(?:(` + blankRule + `*,` + blankRule + `*)|(` + blankRule + `*>` + blankRule + `*)|(` + blankRule + `+)|(\*)|` +
		`(` + nameRule + `)|#(` + nameRule + `)|\.(` + nameRule + `)|` + hasRule + `)`)
	aName = regexp.MustCompile(`\A` + nameRule + `\z`)
)

// wide is s with a rune for each byte, so that a rule of runes is one of bytes.
func wide(s string) string {
	l := make([]rune, len(s))
	for i := range len(s) {
		l[i] = rune(s[i])
	}
	return string(l)
}

// narrow is what wide was told of.
func narrow(s string) string {
	var b []byte
	for _, c := range s {
		b = append(b, byte(c))
	}
	return string(b)
}

// isWhole says whether s is a selector.
func isWhole(s string) bool { return whole.MatchString(wide(s)) }

// goesOn says whether something can stand behind s, or nothing, so that all is a selector.
func goesOn(s string) bool {
	return slices.ContainsFunc([]string{"", "a", "]", "a]", `"]`}, func(rest string) bool { return isWhole(s + rest) })
}

// placeByRule is the first byte of s, which is no selector, that nothing goes on from.
func placeByRule(s string) int {
	for i := range len(s) {
		if !goesOn(s[:i+1]) {
			return i
		}
	}
	return len(s)
}

// byRule is the selector that s, which must be one, tells, part by part.
func byRule(s string) Selector {
	l := Selector{{{}}}
	rest := strings.Trim(wide(s), "\t\n\f\r ")
	for rest != "" {
		at := part.FindStringSubmatchIndex(rest)
		group := func(i int) (string, bool) {
			if at[2*i] < 0 {
				return "", false
			}
			return narrow(rest[at[2*i]:at[2*i+1]]), true
		}
		row := &l[len(l)-1]
		step := &(*row)[len(*row)-1]
		if _, is := group(1); is {
			l = append(l, []Step{{}})
		} else if _, is := group(2); is {
			*row = append(*row, Step{Child: true})
		} else if _, is := group(3); is {
			*row = append(*row, Step{})
		} else if _, is := group(4); !is {
			step.C = append(step.C, testByRule(group))
		}
		rest = rest[at[1]:]
	}
	return l
}

// testByRule is the test that a part tells.
func testByRule(group func(i int) (string, bool)) Test {
	for i, kind := range map[int]int{5: Type, 6: Id, 7: Class} {
		if name, is := group(i); is {
			return Test{Kind: kind, Name: name}
		}
	}
	name, _ := group(8)
	for _, i := range []int{9, 10} {
		if value, is := group(i); is {
			return Test{Kind: Is, Name: name, Value: value}
		}
	}
	return Test{Kind: Has, Name: name}
}

// told has all of a selector; lists without elements and nil lists are told alike.
func told(l Selector) string {
	s := ""
	for _, row := range l {
		s += "row"
		for _, step := range row {
			s += " step " + strconv.FormatBool(step.Child)
			for _, t := range step.C {
				s += " " + strconv.Itoa(t.Kind) + strconv.Quote(t.Name) + strconv.Quote(t.Value)
			}
		}
		s += "\n"
	}
	return s
}

// printByRule is what is printed of l, if it is one that may be.
func printByRule(l Selector) string {
	s := ""
	for i, row := range l {
		if i > 0 {
			s += ", "
		}
		for j, step := range row {
			if j > 0 {
				s += map[bool]string{false: " ", true: " > "}[step.Child]
			}
			if len(step.C) == 0 {
				s += "*"
			}
			for _, t := range step.C {
				around := map[int][]string{Type: {"", ""}, Id: {"#", ""}, Class: {".", ""}, Has: {"[", "]"}, Is: {"[", `="` + t.Value + `"]`}}[t.Kind]
				s += around[0] + t.Name + around[1]
			}
		}
	}
	return s
}

// mayByRule says whether there is a text that tells l.
func mayByRule(l Selector) bool {
	for _, row := range l {
		for j, step := range row {
			if j == 0 && step.Child {
				return false
			}
			for k, t := range step.C {
				if !testMay(t) || t.Kind == Type && k > 0 {
					return false
				}
			}
		}
		if len(row) == 0 {
			return false
		}
	}
	return len(l) > 0
}

func testMay(t Test) bool {
	if t.Kind < Type || t.Kind > Is || !aName.MatchString(wide(t.Name)) {
		return false
	}
	return t.Value == "" || t.Kind == Is && len(t.Value) <= 60 && !strings.Contains(t.Value, `"`)
}

// isParsed asks that s tells want, and that this is printed, and parsed to the same.
func isParsed(t *testing.T, s string, want Selector) {
	t.Helper()
	l, place, e := Parse(s)
	if told(l) != told(want) || place != 0 || e != api.OK {
		t.Errorf("Parse of %q = %s, %d, %d, want %s", s, told(l), place, e, told(want))
		return
	}
	isPrinted(t, l, printByRule(want))
}

// isPrinted asks that s is printed of l, and parsed to it.
func isPrinted(t *testing.T, l Selector, s string) {
	t.Helper()
	if u, e := Print(l); u != s || e != api.OK {
		t.Errorf("Print of %s = %q, %d, want %q", told(l), u, e, s)
	}
	if m, place, e := Parse(s); told(m) != told(l) || place != 0 || e != api.OK {
		t.Errorf("Parse of %q, that was printed of %s, = %s, %d, %d", s, told(l), told(m), place, e)
	}
}

// isRefused asks that s is none, for the byte at that place.
func isRefused(t *testing.T, s string, want int) {
	t.Helper()
	if l, place, e := Parse(s); len(l) != 0 || place != want || e != api.ErrSyntax {
		t.Errorf("Parse of %q = %s, %d, %d, want the place %d", s, told(l), place, e, want)
	}
}

// isNotPrinted asks that l is none.
func isNotPrinted(t *testing.T, l Selector) {
	t.Helper()
	if s, e := Print(l); s != "" || e != api.ErrArg {
		t.Errorf("Print of %s = %q, %d", told(l), s, e)
	}
}

// isAsRuled holds s against the rule, and says whether it is a selector.
func isAsRuled(t *testing.T, s string) bool {
	t.Helper()
	if !isWhole(s) {
		isRefused(t, s, placeByRule(s))
		return false
	}
	isParsed(t, s, byRule(s))
	return true
}

// isAsMay holds l against the rule, and says whether it may be.
func isAsMay(t *testing.T, l Selector) bool {
	t.Helper()
	if !mayByRule(l) {
		isNotPrinted(t, l)
		return false
	}
	isPrinted(t, l, printByRule(l))
	return true
}

// one is a selector of one compound.
func one(tests ...Test) Selector { return Selector{{{C: tests}}} }

// samples are texts with all that a selector may have.
func samples() []string {
	return []string{
		"*", "a", "#a", ".a", "[a]", "[a=b]", `[a="b"]`, `[a=""]`,
		"div > .a, #b", "a b", "a>b", "a > b", "a,b", " a ", "\ta\n,\fb\r", "*.a", "* *", "*>*", "*,*",
		"a#b.c[d][e=f]", "#a#a", ".a.b.a", "[a][b][a]", `*[ a = " x]>,*#.[=" ]`,
		"[ a ]", "[ a=b ]", `[a = "b"]`, "Div-1_x .B_2 > #c- d",
		"a b c>d > e\t>\nf,g,h i , *", `[a="` + strings.Repeat("x", 60) + `"]`,
		strings.Repeat("n", 20) + "#" + strings.Repeat("m", 20) + " [" + strings.Repeat("o", 20) + "=" + strings.Repeat("p", 20) + "]",
	}
}

// P9.1, P9.2: the document's example.
func TestExample(t *testing.T) {
	isParsed(t, "div > .a, #b", Selector{
		{{C: Compound{{Kind: Type, Name: "div"}}}, {C: Compound{{Kind: Class, Name: "a"}}, Child: true}},
		{{C: Compound{{Kind: Id, Name: "b"}}}},
	})
	if s, e := Print(Selector{{{}}}); s != "*" || e != api.OK {
		t.Error(s, e)
	}
}

// P9.1: the kinds are numbers that others know, too.
func TestKinds(t *testing.T) {
	if kinds := [...]int{Type, Id, Class, Has, Is}; kinds != [...]int{1, 2, 3, 4, 5} {
		t.Error(kinds)
	}
	isParsed(t, "a", one(Test{1, "a", ""}))
	isParsed(t, "#a", one(Test{2, "a", ""}))
	isParsed(t, ".a", one(Test{3, "a", ""}))
	isParsed(t, "[a]", one(Test{4, "a", ""}))
	isParsed(t, "[a=b]", one(Test{5, "a", "b"}))
	isParsed(t, `[a="b"]`, one(Test{5, "a", "b"}))
}

// P9.1: a name keeps its letters, as they are, and its kind says nothing of it.
func TestNamesStay(t *testing.T) {
	for _, name := range []string{"a", "Z", "DIV", "Div", "a-b_c-", "a--", "x1", "h1", "e9_", "a" + strings.Repeat("-", 19)} {
		isParsed(t, name, one(Test{Kind: Type, Name: name}))
		isParsed(t, "#"+name, one(Test{Kind: Id, Name: name}))
		isParsed(t, "."+name, one(Test{Kind: Class, Name: name}))
		isParsed(t, "["+name+"]", one(Test{Kind: Has, Name: name}))
		isParsed(t, "["+name+"="+name+"]", one(Test{Kind: Is, Name: name, Value: name}))
		isParsed(t, "["+name+`="`+name+`"]`, one(Test{Kind: Is, Name: name, Value: name}))
	}
}

// P9.1: any many tests, in their order, the same one as often as it stands there; a Type ahead of all, or none.
func TestCompounds(t *testing.T) {
	texts := []string{"#a", ".b", "[c]", "[ d = e ]", `[f=" "]`}
	tests := []Test{{Id, "a", ""}, {Class, "b", ""}, {Has, "c", ""}, {Is, "d", "e"}, {Is, "f", " "}}
	for i := range texts {
		for j := range texts {
			for k := range texts {
				s := texts[i] + texts[j] + texts[k]
				l := []Test{tests[i], tests[j], tests[k]}
				isParsed(t, s, one(l...))
				isParsed(t, "*"+s, one(l...))
				isParsed(t, "div"+s, one(append([]Test{{Kind: Type, Name: "div"}}, l...)...))
			}
		}
	}
	many := slices.Repeat([]Test{{Kind: Class, Name: "a"}}, 150)
	isParsed(t, strings.Repeat(".a", 150), one(many...))
}

// P9.1: a `*` tells no test, alone and with tests.
func TestStar(t *testing.T) {
	isParsed(t, "*", one())
	isParsed(t, " * ", one())
	isParsed(t, "*#a", one(Test{Kind: Id, Name: "a"}))
	isParsed(t, "*[a][b]", one(Test{Kind: Has, Name: "a"}, Test{Kind: Has, Name: "b"}))
	isParsed(t, "* *.a>*,*", Selector{{{}, {C: Compound{{Kind: Class, Name: "a"}}}, {Child: true}}, {{}}})
	isRefused(t, "**", 1)
	isRefused(t, "*a", 1)
	isRefused(t, "a*", 1)
	isRefused(t, "#a*", 2)
	isRefused(t, "[a]*", 3)
	isRefused(t, "[*]", 1)
	isRefused(t, "#*", 1)
}

// P9.1: Child is of the steps that a `>` stands ahead of, never of the first one.
func TestChild(t *testing.T) {
	step := func(name string, child bool) Step { return Step{C: Compound{{Kind: Type, Name: name}}, Child: child} }
	for _, between := range []struct {
		s     string
		child bool
	}{{" ", false}, {"\n\t", false}, {">", true}, {" >", true}, {"> ", true}, {" > ", true}, {"\r\n>\f\t", true}} {
		for _, then := range []string{" ", ">"} {
			isParsed(t, "a"+between.s+"b"+then+"c", Selector{{step("a", false), step("b", between.child), step("c", then == ">")}})
			isParsed(t, "a"+then+"b"+between.s+"c", Selector{{step("a", false), step("b", then == ">"), step("c", between.child)}})
		}
		isParsed(t, "a"+between.s+"b,c"+between.s+"d", Selector{{step("a", false), step("b", between.child)}, {step("c", false), step("d", between.child)}})
	}
	isRefused(t, ">a", 0)
	isRefused(t, " > a", 1)
	isRefused(t, "a,>b", 2)
	isRefused(t, "a>>b", 2)
	isRefused(t, "a > > b", 4)
	isRefused(t, "a>", 2)
	isRefused(t, "a> ", 3)
	isRefused(t, "a>,b", 2)
}

// P9.1: rows, and nothing between two commas.
func TestRows(t *testing.T) {
	row := func(name string) []Step { return []Step{{C: Compound{{Kind: Type, Name: name}}}} }
	for _, comma := range []string{",", " ,", ", ", " , ", "\t\n\f\r ,\t\n\f\r "} {
		isParsed(t, "a"+comma+"b"+comma+"a", Selector{row("a"), row("b"), row("a")})
		isRefused(t, "a"+comma, len("a"+comma))
		isRefused(t, comma+"a", strings.Index(comma, ","))
		isRefused(t, "a"+comma+",b", len("a"+comma))
	}
}

// P9.1: where blanks may stand, and where not; of all bytes just five are blanks.
func TestBlanks(t *testing.T) {
	may := []string{"_a", "a_", "a_,b", "a,_b", "a_>b", "a>_b", "a_b", "[_a]", "[a_]", "[_a=b]", "[a_=b]", "[a=_b]", "[a=b_]", `[a=_"b"]`, `[a="b"_]`, "_*_", "_#a_", "_[a]_", "[a]_[b]", "*_.a", "_[_a_=_b_]_>_*_,_.b_"}
	for _, x := range may {
		want := byRule(strings.ReplaceAll(x, "_", " "))
		for i := range 256 {
			c := string([]byte{byte(i)})
			if strings.Contains("\t\n\f\r ", c) {
				isParsed(t, strings.ReplaceAll(x, "_", c), want)
				isParsed(t, strings.ReplaceAll(x, "_", c+" "+c), want)
			} else {
				isAsRuled(t, strings.ReplaceAll(x, "_", c))
			}
		}
	}
	for s, place := range map[string]int{"# a": 1, ". a": 1, "#\ta": 1, "a #": 3, "[a b]": 3, "[a = b c]": 7, "[\n]": 2, "[a= ]": 4, "\v": 0, "a\v": 1, "a\x00": 1, "\x1f": 0, "\x0b a": 0, "\xa0a": 0, "a\x85b": 1, "\u2003a": 0, "[\va]": 1} {
		isRefused(t, s, place)
	}
	// Inside a string a blank is a byte like others.
	isParsed(t, "[a=\"\t\n\f\r \"]", one(Test{Kind: Is, Name: "a", Value: "\t\n\f\r "}))
}

// P9.1: bytes that a name may have, in each place where a name stands.
func TestBytesOfNames(t *testing.T) {
	const letters = "ABCDEFGHIJKLMNOPQRSTUVWXYZabcdefghijklmnopqrstuvwxyz"
	const others = "0123456789-_"
	for _, x := range []string{"_", "#_", "._", "[_]", "[_=b]", "[a=_]", "* _", "a,._", "a>#_", "*#_"} {
		at := strings.Index(x, "_")
		for i := range 256 {
			c := string([]byte{byte(i)})
			first, later := strings.ReplaceAll(x, "_", c), strings.ReplaceAll(x, "_", "a"+c+"b")
			switch {
			case strings.Contains(letters, c):
				isParsed(t, first, byRule(first))
				isParsed(t, later, byRule(later))
			case strings.Contains(others, c):
				isRefused(t, first, at)
				isParsed(t, later, byRule(later))
			case i < 9 || i >= 127 || strings.Contains("!$%&'()/:;<?@\\^`{|}~", c):
				isRefused(t, first, at)
				isRefused(t, later, at+1)
			default:
				isAsRuled(t, first)
				isAsRuled(t, later)
			}
		}
	}
}

// P9.1: a name of 20 bytes, and one more, in each place where a name stands.
func TestLengthsOfNames(t *testing.T) {
	for _, x := range []string{"_", "_#b", "_,b", "_>b", "_ b", "#_", "._", "[_]", "[_ ]", "[_=b]", "[_ = b]", "[a=_]", "[a=_ ]", `[_="b"]`, "* _", "*._", "a,_", "a>_.b"} {
		at := strings.Index(x, "_")
		for many := 1; many <= 300; many++ {
			for _, more := range []string{"a", "7", "-", "_"} {
				name := "b" + strings.Repeat(more, many-1)
				s := x[:at] + name + x[at+1:]
				// Also where the text ends behind the name, or goes on with what may stand nowhere.
				short, wrong := s[:at+many], s[:at+many]+"!"
				if many <= 20 {
					isParsed(t, s, byRule(s))
					isAsRuled(t, short)
					isRefused(t, wrong, at+many)
				} else {
					isRefused(t, s, at+20)
					isRefused(t, short, at+20)
					isRefused(t, wrong, at+20)
				}
			}
		}
	}
}

// P9.1: a string has any bytes but one, 60 at most.
func TestStrings(t *testing.T) {
	for many := range 301 {
		for _, c := range []string{"x", " ", "]", "\x00", "\xff"} {
			value := strings.Repeat(c, many)
			for _, x := range []string{`[a="_"]`, `[ a = "_" ]`, `div>.b[c="_"], *`} {
				at := strings.Index(x, "_")
				s := strings.ReplaceAll(x, "_", value)
				if many <= 60 {
					isParsed(t, s, byRule(s))
					isRefused(t, s[:at+many], at+many)
				} else {
					isRefused(t, s, at+60)
					isRefused(t, s[:at+many], at+60)
				}
			}
			if many <= 60 {
				isParsed(t, `[a="`+value+`"]`, one(Test{Kind: Is, Name: "a", Value: value}))
			}
		}
	}
	for i := range 256 {
		if c := string([]byte{byte(i)}); c != `"` {
			isParsed(t, `[a="`+c+`"]`, one(Test{Kind: Is, Name: "a", Value: c}))
			isParsed(t, `[a=" `+c+`x"]`, one(Test{Kind: Is, Name: "a", Value: " " + c + "x"}))
		}
	}
	isParsed(t, `[a=""]`, one(Test{Kind: Is, Name: "a"}))
	isParsed(t, `[a="\"]`, one(Test{Kind: Is, Name: "a", Value: `\`}))
	isParsed(t, `[a="1"]`, one(Test{Kind: Is, Name: "a", Value: "1"}))
	isParsed(t, "[a=\"\u00e9\u20ac\"]", one(Test{Kind: Is, Name: "a", Value: "\u00e9\u20ac"}))
	isParsed(t, "[a=\""+strings.Repeat("\u20ac", 20)+"\"]", one(Test{Kind: Is, Name: "a", Value: strings.Repeat("\u20ac", 20)}))
	isRefused(t, "[a=\""+strings.Repeat("\u20ac", 21)+"\"]", 64)
	isParsed(t, `[a="a]>,*#.[=\'"]`, one(Test{Kind: Is, Name: "a", Value: `a]>,*#.[=\'`}))
}

// P9.1: the first byte that can not stand there.
func TestRefused(t *testing.T) {
	for s, place := range map[string]int{
		"": 0, " ": 1, "\t\n\f\r ": 5, ",": 0, " ,": 1, ",a": 0, "a,": 2, "a, ": 3, "a,,b": 2, "a , , b": 4,
		"a>": 2, ">": 0, ">a": 0, "a>>b": 2, "a>,": 2, "a > ": 4,
		"1": 0, "-a": 0, "_": 0, "!": 0, "]": 0, "=": 0, `"`: 0, `"a"`: 0, "\x00": 0, "\x80": 0, "\xc3": 0, "\xff": 0, "\u00e9": 0,
		"a!": 1, "a]": 1, "a=b": 1, `a"`: 1, "a\x00": 1, "a\x80": 1, "a\u00e9": 1, "a 1": 2, "a !": 2, "a ]": 2,
		"*!": 1, "*a": 1, "*1": 1, "**": 1, "* 1": 2, "*\xff": 1, "*]": 1, "*=": 1, "a*": 1,
		"#": 1, "#1": 1, "##": 1, "#.": 1, "#,": 1, "# a": 1, "#[a]": 1, "#\xff": 1, ".": 1, ".1": 1, "..": 1, ".-a": 1, ".>": 1,
		"[": 1, "[ ": 2, "[]": 1, "[ ]": 2, "[1]": 1, "[=": 1, `["a"]`: 1, "[[": 1, "[#a]": 1, "[,": 1, "[*]": 1, "[\xff]": 1,
		"[a": 2, "[a ": 3, "[a b]": 3, "[a!": 2, "[a,": 2, "[a>": 2, "[a#b]": 2, "[a[": 2, `[a"b"]`: 2, "[a\xff]": 2, "[a,b]": 2,
		"[a=": 3, "[a= ": 4, "[a=]": 3, "[a=1]": 3, "[a='x']": 3, "[a==b]": 3, "[a=#b]": 3, "[a=*]": 3, "[a=[": 3, "[a=\xff]": 3, "[a~=b]": 2, "[a^=b]": 2,
		"[a=b": 4, "[a=b ": 5, "[a=b c]": 5, `[a=b"]`: 4, "[a=b=c]": 4, "[a=b,c]": 4, "[a=b[": 4, "[a=b\x80": 4,
		`[a="`: 4, `[a="x`: 5, `[a="x]`: 6, `[a="x"`: 6, `[a="x" `: 7, `[a="x"b]`: 6, `[a="x""]`: 6, `[a="x" "y"]`: 7, `[a="x",`: 6,
		"[a]b": 3, "[a]1": 3, "[a]]": 3, "[a]=": 3, "[a]*": 3, "a[b]c": 4, "a.b c!": 5, "#a1#": 4, "#a*": 2, ".a!": 2,
		"a,b,c,d;": 7, "a b c d (": 8, "a:b": 1, "a+b": 1, "a ~ b": 2, "a|b": 1, "div > .a, #b,": 13, "div > .a, #b >": 14,
	} {
		isRefused(t, s, place)
		if placeByRule(s) != place {
			t.Errorf("by the rule, %q has its place at %d", s, placeByRule(s))
		}
	}
}

// P9.1: what a selector begins with is one, too, or ends too early; nothing else is wrong with it.
func TestTooEarly(t *testing.T) {
	for _, s := range samples() {
		for i := range len(s) + 1 {
			if isAsRuled(t, s[:i]) {
				continue
			}
			isRefused(t, s[:i], i)
		}
	}
}

// P9.1: any byte in the place of each one, ahead of it, and behind all; and without that one.
func TestBytesAtAllPlaces(t *testing.T) {
	for _, s := range samples() {
		isAsRuled(t, s)
		if len(s) > 40 {
			continue
		}
		for i := range len(s) {
			isAsRuled(t, s[:i]+s[i+1:])
		}
		for c := range 256 {
			b := string([]byte{byte(c)})
			isAsRuled(t, s+b)
			for i := range len(s) {
				isAsRuled(t, s[:i]+b+s[i:])
				isAsRuled(t, s[:i]+b+s[i+1:])
			}
		}
	}
}

// P9.1, P9.3: all short texts of bytes that a selector may have, as far as nothing in them is wrong, and one byte more.
func TestAllShortTexts(t *testing.T) {
	are, areNot := 0, 0
	var grow func(s, letters string, most int)
	grow = func(s, letters string, most int) {
		if isAsRuled(t, s) {
			are++
		} else {
			areNot++
		}
		if len(s) == most || !goesOn(s) {
			return
		}
		for i := range letters {
			grow(s+letters[i:i+1], letters, most)
		}
	}
	grow("", marks, 4)
	grow("", "a*#[]=\">, ", 5)
	grow("", "a[]=\" ", 7)
	grow("", "a*>, ", 7)
	if are < 5000 || areNot < 5000 {
		t.Errorf("%d are selectors, and %d are not", are, areNot)
	}
}

// dice is a run of numbers that is always the same.
type dice uint64

func (d *dice) roll(n int) int {
	*d = *d*6364136223846793005 + 1442695040888963407
	return int(*d>>33) % n
}

// thrownName is a name, of any length that there is.
func thrownName(d *dice) string {
	const first = "abcXYZ"
	const later = first + "019-_"
	b := []byte{first[d.roll(len(first))]}
	for range []int{0, 1, 2, 19, d.roll(20)}[d.roll(5)] {
		b = append(b, later[d.roll(len(later))])
	}
	return string(b)
}

// thrownTest is a test that may stand behind others.
func thrownTest(d *dice) Test {
	x := Test{Kind: 2 + d.roll(4), Name: thrownName(d)}
	if x.Kind != Is {
		return x
	}
	if d.roll(2) == 0 {
		x.Value = thrownName(d)
		return x
	}
	b := make([]byte, []int{0, 1, 2, 59, 60}[d.roll(5)])
	for i := range b {
		b[i] = byte(d.roll(256))
		if b[i] == '"' {
			b[i] = ']'
		}
	}
	x.Value = string(b)
	return x
}

// thrown is a selector that may be.
func thrown(d *dice) Selector {
	var l Selector
	for range 1 + d.roll(3) {
		var row []Step
		for i := range 1 + d.roll(4) {
			step := Step{Child: i > 0 && d.roll(2) == 0}
			if d.roll(2) == 0 {
				step.C = append(step.C, Test{Kind: Type, Name: thrownName(d)})
			}
			for range d.roll(4) {
				step.C = append(step.C, thrownTest(d))
			}
			row = append(row, step)
		}
		l = append(l, row)
	}
	return l
}

// written is a text that tells l, one of all that do.
func written(d *dice, l Selector) string {
	blanks := func(least int) string {
		s := ""
		for range least + []int{0, 0, 1, 2, 5}[d.roll(5)] {
			s += "\t\n\f\r "[d.roll(5):][:1]
		}
		return s
	}
	s := ""
	for i, row := range l {
		if i > 0 {
			s += ","
		}
		s += blanks(0)
		for j, step := range row {
			if step.Child {
				s += blanks(0) + ">" + blanks(0)
			} else if j > 0 {
				s += blanks(1)
			}
			if len(step.C) == 0 || step.C[0].Kind != Type && d.roll(2) == 0 {
				s += "*"
			}
			for _, x := range step.C {
				s += writtenTest(d, x, blanks)
			}
		}
		s += blanks(0)
	}
	return s
}

func writtenTest(d *dice, x Test, blanks func(least int) string) string {
	switch x.Kind {
	case Type:
		return x.Name
	case Id:
		return "#" + x.Name
	case Class:
		return "." + x.Name
	}
	s := "[" + blanks(0) + x.Name + blanks(0)
	if x.Kind == Is {
		value := `"` + x.Value + `"`
		if aName.MatchString(wide(x.Value)) && d.roll(2) == 0 {
			value = x.Value
		}
		s += "=" + blanks(0) + value + blanks(0)
	}
	return s + "]"
}

// P9.1 to P9.3: any selectors, written in any way, and their texts with one byte changed, gone, or more.
func TestThrown(t *testing.T) {
	are, areNot := 0, 0
	for seed := range 1500 {
		d := dice(seed)
		l := thrown(&d)
		s := written(&d, l)
		isParsed(t, s, l)
		isAsMay(t, l)
		if len(s) > 80 {
			continue
		}
		for range 20 {
			at := d.roll(len(s) + 1)
			c := marks[d.roll(len(marks)):][:1]
			m := s[:at] + c + s[at:]
			if at < len(s) && d.roll(2) == 0 {
				m = s[:at] + s[at+1:]
			} else if at < len(s) && d.roll(2) == 0 {
				m = s[:at] + c + s[at+1:]
			}
			if isAsRuled(t, m) {
				are++
			} else {
				areNot++
			}
		}
	}
	if are < 1000 || areNot < 1000 {
		t.Errorf("%d are selectors, and %d are not", are, areNot)
	}
}

// P9.2: how each thing is printed.
func TestPrint(t *testing.T) {
	for s, want := range map[string]string{
		"*": "*", "a": "a", "#a": "#a", ".a": ".a", "[a]": "[a]", "[a=b]": `[a="b"]`, `[a="b"]`: `[a="b"]`, `[a=""]`: `[a=""]`, "[ a = b ]": `[a="b"]`,
		"*#a": "#a", "*.a[b]": ".a[b]", "* *": "* *", "a\t\nb": "a b", "a>b": "a > b", "a\n>\nb": "a > b", "a,b": "a, b", " a , b ": "a, b",
		"DIV>*,*>#x-1.Y_2[Z][z=\" ,>]\"]  b": "DIV > *, * > #x-1.Y_2[Z][z=\" ,>]\"] b",
	} {
		l, _, e := Parse(s)
		if e != api.OK {
			t.Errorf("Parse of %q: %d", s, e)
		}
		isPrinted(t, l, want)
	}
	isPrinted(t, Selector{{{C: Compound{{Kind: Type, Name: "a"}}}, {Child: true}}}, "a > *")
	isPrinted(t, Selector{{{}, {}}, {{}, {Child: true}}}, "* *, * > *")
	isPrinted(t, one(Test{Is, "a", "b"}, Test{Has, "c", ""}, Test{Class, "d", ""}, Test{Id, "e", ""}), `[a="b"][c].d#e`)
}

// P9.2: what no text tells.
func TestPrintOfNone(t *testing.T) {
	a := Test{Kind: Type, Name: "a"}
	isNotPrinted(t, nil)
	isNotPrinted(t, Selector{})
	isNotPrinted(t, Selector{nil})
	isNotPrinted(t, Selector{{}})
	isNotPrinted(t, Selector{{{}}, nil})
	isNotPrinted(t, Selector{nil, {{}}})
	isNotPrinted(t, Selector{{{}}, {}, {{}}})
	isNotPrinted(t, Selector{{{Child: true}}})
	isNotPrinted(t, Selector{{{C: Compound{a}, Child: true}}})
	isNotPrinted(t, Selector{{{C: Compound{a}, Child: true}, {C: Compound{a}}}})
	isNotPrinted(t, Selector{{{}}, {{C: Compound{a}, Child: true}, {}}})
	for _, kind := range []int{-1 << 63, -5, -1, 0, 6, 7, 256 + Type, 1<<32 + Type, 1<<63 - 1} {
		isNotPrinted(t, one(Test{Kind: kind}))
		isNotPrinted(t, one(Test{Kind: kind, Name: "a"}))
		isNotPrinted(t, one(a, Test{Kind: kind, Name: "a"}))
		isNotPrinted(t, one(a, Test{Kind: kind}))
		isNotPrinted(t, one(Test{Kind: kind}, a))
		isNotPrinted(t, Selector{{{}, {C: Compound{{Kind: kind}}}}})
	}
	// A Type test that is not the first one.
	isNotPrinted(t, one(a, a))
	for _, x := range []Test{{Id, "a", ""}, {Class, "a", ""}, {Has, "a", ""}, {Is, "a", "b"}} {
		isPrinted(t, one(a, x), printByRule(one(a, x)))
		isNotPrinted(t, one(x, a))
		isNotPrinted(t, one(a, x, a))
	}
}

// P9.2: Names that are none, of each kind, and Values of those that have none.
func TestPrintOfNames(t *testing.T) {
	names := []string{
		"", " ", "1", "-", "_a", "*", "a b", " a", "a ", "a,b", "a>b", "a > b", "a, b", "a.b", "a#b", ".a", "#a", "[a]", "a[b]", "a]", "a][b", "a=b", `a="b"`, `a"`,
		"a\x00", "\xff", "a\x80", "\u00e9", "a\u00e9", strings.Repeat("a", 21), strings.Repeat("a", 300), "a!", "a\n",
	}
	for kind := Type; kind <= Is; kind++ {
		for _, name := range names {
			isNotPrinted(t, one(Test{Kind: kind, Name: name}))
			isNotPrinted(t, one(Test{Kind: kind, Name: name}, Test{Kind: Id, Name: "b"}))
			isNotPrinted(t, Selector{{{}}, {{}, {C: Compound{{Kind: kind, Name: name}}, Child: true}}})
		}
		for _, name := range []string{"a", "Z9", "a-_", strings.Repeat("a", 20)} {
			isAsMay(t, one(Test{Kind: kind, Name: name}))
			for _, value := range []string{"a", " ", "1", "]", `"`} {
				if is := isAsMay(t, one(Test{Kind: kind, Name: name, Value: value})); is != (kind == Is && value != `"`) {
					t.Errorf("%d %q %q: %v", kind, name, value, is)
				}
			}
		}
	}
}

// P9.2: Values of all lengths, and of all bytes.
func TestPrintOfValues(t *testing.T) {
	for many := range 301 {
		l := one(Test{Is, "a", strings.Repeat("]", many)})
		if isAsMay(t, l) != (many <= 60) {
			t.Errorf("%d bytes", many)
		}
	}
	for i := range 256 {
		for _, s := range []string{"", "x"} {
			if isAsMay(t, one(Test{Is, "a", s + string([]byte{byte(i)}) + s})) != (i != '"') {
				t.Errorf("%d", i)
			}
		}
	}
	for _, value := range []string{`"`, `""`, `"]`, `"][b="`, `b"][c="d`, `"],*[a="`} {
		isNotPrinted(t, one(Test{Is, "a", value}))
		isNotPrinted(t, one(Test{Is, "a", value}, Test{Class, "b", ""}))
	}
}

// P9.2: all selectors of two tests and fewer, and these on both sides of what stands between steps and rows.
func TestPrintOfFew(t *testing.T) {
	var tests []Test
	for kind := -1; kind <= 6; kind++ {
		for _, name := range []string{"", "a", "1", "a b", "a.b"} {
			for _, value := range []string{"", "b", `"`} {
				tests = append(tests, Test{kind, name, value})
			}
		}
	}
	compounds := []Compound{nil, {}}
	for _, x := range tests {
		compounds = append(compounds, Compound{x})
		for _, y := range tests {
			isAsMay(t, one(x, y))
		}
	}
	are, areNot := 0, 0
	for _, c := range compounds {
		for _, u := range compounds {
			for _, child := range []bool{false, true} {
				for _, l := range []Selector{{{{c, child}, {u, child}}}, {{{c, false}, {u, child}}}, {{{C: c}}, {{u, child}}}, {{{c, child}}, {{C: u}}}} {
					if isAsMay(t, l) {
						are++
					} else {
						areNot++
					}
				}
			}
		}
	}
	if are < 100 || areNot < 100 {
		t.Errorf("%d may be, and %d may not", are, areNot)
	}
}

// P9.3: what is printed of what is parsed is printed again, as it is.
func TestPrintedAgain(t *testing.T) {
	for _, s := range samples() {
		l, _, e := Parse(s)
		first, f := Print(l)
		m, _, g := Parse(first)
		again, h := Print(m)
		if e != api.OK || f != api.OK || g != api.OK || h != api.OK || told(l) != told(m) || first != again {
			t.Errorf("%q: %q, %q; %s, %s", s, first, again, told(l), told(m))
		}
	}
}

// R1: texts of any length end, and have their places.
func TestLongTexts(t *testing.T) {
	for _, s := range []string{"a", "*", "#a.b", `[a="x"]`} {
		for _, between := range []string{" ", ">", ",", " \t\n\f\r"} {
			for _, many := range []int{100, 10000} {
				long := strings.Repeat(s+between, many)
				l, place, e := Parse(long + s)
				if e != api.OK || place != 0 || max(len(l), len(l[0])) != many+1 {
					t.Errorf("%q and %q: %d, %d", s, between, place, e)
				}
				if u, e := Print(l); e != api.OK || !strings.HasSuffix(u, " "+s) {
					t.Errorf("%q and %q are not printed: %d", s, between, e)
				}
				isRefused(t, long+"!", len(long))
				isRefused(t, long+s+" !", len(long+s)+1)
			}
		}
	}
	for _, c := range []string{" ", "[", "a", ">", "\x00", `[a="`, "#", "a[b=c]"} {
		for _, many := range []int{300, 600, 100000} {
			s := strings.Repeat(c, many)
			if l, place, e := Parse(s); e == api.OK && len(l) != 1 || e != api.OK && place > len(s) {
				t.Errorf("%d of %q: %d, %d", many, c, place, e)
			}
		}
	}
	isRefused(t, strings.Repeat(" ", 100000), 100000)
	isParsed(t, strings.Repeat(" ", 100000)+"a", one(Test{Kind: Type, Name: "a"}))
	isNotPrinted(t, one(Test{Kind: Type, Name: strings.Repeat("a", 100000)}))
}

// R7, R3: what a chapter does not name is nothing; with an error all else is, but the place.
func TestNothingElse(t *testing.T) {
	l, place, e := Parse("a > #b")
	if e != api.OK || place != 0 || l[0][0].C[0].Value != "" || l[0][1].C[0].Value != "" || l[0][0].Child {
		t.Error(told(l), place, e)
	}
	if l, _, _ := Parse("a, b > c,"); l != nil {
		t.Error(told(l))
	}
	if s, _ := Print(Selector{{{C: Compound{{Kind: Type, Name: "a"}}}}, nil}); s != "" {
		t.Errorf("%q", s)
	}
}

// roomy is l with room behind the ends of its lists, where something stands.
func roomy(l Selector) Selector {
	c := append(slices.Clone(l), []Step{{}})
	for i := range c {
		c[i] = append(slices.Clone(c[i]), Step{Child: true})
		for j := range c[i] {
			c[i][j].C = append(slices.Clone(c[i][j].C), Test{Name: "behind"})
			c[i][j].C = c[i][j].C[:len(c[i][j].C)-1]
		}
		c[i] = c[i][:len(c[i])-1]
	}
	return c[:len(c)-1]
}

// behind is l with all that stands behind the ends of its lists.
func behind(l Selector) string {
	l = slices.Clone(l[:len(l)+1])
	for i := range l {
		l[i] = slices.Clone(l[i][:len(l[i])+1])
		for j := range l[i] {
			l[i][j].C = slices.Clone(l[i][j].C[:len(l[i][j].C)+1])
		}
	}
	return told(l)
}

// R4: a selector stays as it was behind Print, also behind its ends, and is printed as before.
func TestSelectorsStay(t *testing.T) {
	all := []Selector{nil, {nil}, {{{Child: true}}}, one(Test{Kind: 9, Name: "a"}), one(Test{Kind: Id, Name: "1"}), one(Test{Id, "a", ""}, Test{Type, "b", ""})}
	for _, s := range samples() {
		l, _, _ := Parse(s)
		all = append(all, l)
	}
	for _, l := range all {
		r := roomy(l)
		was := behind(r)
		s, e := Print(r)
		again, f := Print(r)
		u, g := Print(l)
		if s != again || s != u || e != f || e != g || behind(r) != was {
			t.Errorf("%s, %q and %q, became %s", was, s, again, behind(r))
		}
	}
}

// R4: writing over what was answered changes nothing, and no two lists of an answer share anything.
func TestAnswersShareNothing(t *testing.T) {
	for _, s := range samples() {
		l, _, _ := Parse(s)
		was := told(l)
		for i := range l {
			for j := range l[i] {
				c := l[i][j].C
				kept := slices.Clone(c)
				for k := range c[:cap(c)] {
					c[:cap(c)][k] = Test{Kind: 77, Name: "over"}
				}
				copy(c, kept)
			}
			kept := slices.Clone(l[i])
			for j := range l[i][:cap(l[i])] {
				l[i][:cap(l[i])][j] = Step{Child: true}
			}
			copy(l[i], kept)
		}
		if told(l) != was {
			t.Errorf("%q: %s became %s", s, was, told(l))
		}
		for i := range l[:cap(l)] {
			l[:cap(l)][i] = nil
		}
		if m, place, e := Parse(s); told(m) != was || place != 0 || e != api.OK {
			t.Errorf("%q, behind others: %s, want %s", s, told(m), was)
		}
	}
}

// R4: what was answered does not hang on what is done to the selector behind it.
func TestTextsStay(t *testing.T) {
	l := one(Test{Is, "a", "b"}, Test{Class, "c", ""})
	s, _ := Print(l)
	l[0][0].C[0] = Test{}
	l[0] = nil
	if s != `[a="b"].c` {
		t.Errorf("%q", s)
	}
}

// R6: lists without elements are alike.
func TestEmptyListsAreAlike(t *testing.T) {
	for _, c := range []Compound{nil, {}, make(Compound, 0, 5)} {
		isPrinted(t, Selector{{{C: c}, {c, true}}, {{C: c}}}, "* > *, *")
	}
	for _, row := range [][]Step{nil, {}, make([]Step, 0, 5)} {
		isNotPrinted(t, Selector{row})
		isNotPrinted(t, Selector{{{}}, row})
	}
	isNotPrinted(t, make(Selector, 0, 5))
}

// FuzzParse holds any text against the rule.
func FuzzParse(f *testing.F) {
	f.Add("")
	for _, s := range samples() {
		f.Add(s)
	}
	f.Fuzz(func(t *testing.T, s string) {
		if len(s) <= 300 {
			isAsRuled(t, s)
		}
	})
}

// FuzzPrint holds any few tests against the rule.
func FuzzPrint(f *testing.F) {
	f.Add(1, "a", "", 5, "b", "c", true)
	f.Add(3, "a", "", 1, "b", "", false)
	f.Add(5, "a", `"`, 0, "", "", false)
	f.Fuzz(func(t *testing.T, kind int, name, value string, then int, next, last string, child bool) {
		x, y := Test{kind, name, value}, Test{then, next, last}
		isAsMay(t, one(x))
		isAsMay(t, one(x, y))
		isAsMay(t, Selector{{{C: Compound{x}}, {Compound{y}, child}}})
		isAsMay(t, Selector{{{C: Compound{x, y}}, {Child: child}}, {{Compound{y}, child}}})
	})
}

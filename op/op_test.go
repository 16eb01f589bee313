package op

import (
	"math"
	"math/big"
	"regexp"
	"slices"
	"strconv"
	"strings"
	"testing"

	"treillage/api"
)

// one is an operation with its bytes and its line, written down by hand.
type one struct {
	o     Op
	bytes string
	line  string
}

// ones are operations that may be, of all kinds, with what stands at the edge of it.
func ones() []one {
	long, longBytes := strings.Repeat("t", 255), "\xff"+strings.Repeat("t", 255)
	l := []one{
		{Op{Kind: NewElement, Name: "div"}, "\x01\x03div", "element [div]"},
		{Op{Kind: NewElement}, "\x01\x00", "element []"},
		{Op{Kind: NewElement, Name: "no name"}, "\x01\x07no name", "element [no name]"},
		{Op{Kind: NewElement, Name: long}, "\x01" + longBytes, "element [" + long + "]"},
		{Op{Kind: NewText, Text: "x"}, "\x02\x01x", "text [x]"},
		{Op{Kind: NewText}, "\x02\x00", "text []"},
		{Op{Kind: NewText, Text: long}, "\x02" + longBytes, "text [" + long + "]"},
		{Op{Kind: NewText, Text: "\x00"}, "\x02\x01\x00", "text [\x00]"},
		{Op{Kind: NewText, Text: "] [\n\xff"}, "\x02\x05] [\n\xff", "text [] [\n\xff]"},
		{Op{Kind: NewText, Text: "\u00e9"}, "\x02\x02\xc3\xa9", "text [\u00e9]"},
		{Op{Kind: NewComment, Text: "a b"}, "\x03\x03a b", "comment [a b]"},
		{Op{Kind: NewComment}, "\x03\x00", "comment []"},
		{Op{Kind: NewComment, Text: long}, "\x03" + longBytes, "comment [" + long + "]"},
		{Op{Kind: Insert, Id: 3, To: 0, At: 1}, "\x04\x01\x06\x00\x01\x02", "insert 3 0 1"},
		{Op{Kind: Insert, Id: 1, To: 2, At: 3}, "\x04\x01\x02\x01\x04\x01\x06", "insert 1 2 3"},
		{Op{Kind: Insert, Id: -1, To: -2, At: -3}, "\x04\x01\x01\x01\x03\x01\x05", "insert -1 -2 -3"},
		{Op{Kind: Insert}, "\x04\x00\x00\x00", "insert 0 0 0"},
		{Op{Kind: Remove, Id: 300}, "\x05\x02\x58\x02", "remove 300"},
		{Op{Kind: Remove, Id: -300}, "\x05\x02\x57\x02", "remove -300"},
		{Op{Kind: Remove, Id: 127}, "\x05\x01\xfe", "remove 127"},
		{Op{Kind: Remove, Id: -128}, "\x05\x01\xff", "remove -128"},
		{Op{Kind: Remove, Id: 128}, "\x05\x02\x00\x01", "remove 128"},
		{Op{Kind: Remove}, "\x05\x00", "remove 0"},
		{Op{Kind: SetAttr, Id: 1, Name: "a", Text: "b c"}, "\x06\x01\x02\x01a\x03b c", "set 1 [a] [b c]"},
		{Op{Kind: SetAttr}, "\x06\x00\x00\x00", "set 0 [] []"},
		{Op{Kind: SetAttr, Name: "a"}, "\x06\x00\x01a\x00", "set 0 [a] []"},
		{Op{Kind: SetAttr, Text: "a"}, "\x06\x00\x00\x01a", "set 0 [] [a]"},
		{Op{Kind: SetAttr, Id: -7, Name: long, Text: long}, "\x06\x01\x0d" + longBytes + longBytes, "set -7 [" + long + "] [" + long + "]"},
		{Op{Kind: DelAttr, Id: 5, Name: "a"}, "\x07\x01\x0a\x01a", "unset 5 [a]"},
		{Op{Kind: DelAttr, Name: "a"}, "\x07\x00\x01a", "unset 0 [a]"},
		{Op{Kind: DelAttr}, "\x07\x00\x00", "unset 0 []"},
		{Op{Kind: DelAttr, Id: 1, Name: long}, "\x07\x01\x02" + longBytes, "unset 1 [" + long + "]"},
		{Op{Kind: SetText, Id: 2, Text: "]"}, "\x08\x01\x04\x01]", "change 2 []]"},
		{Op{Kind: SetText, Id: 2}, "\x08\x01\x04\x00", "change 2 []"},
		{Op{Kind: SetText}, "\x08\x00\x00", "change 0 []"},
		{Op{Kind: SetText, Id: 1, Text: long}, "\x08\x01\x02" + longBytes, "change 1 [" + long + "]"},
	}
	return append(l, extremes()...)
}

// extremes are the least and the greatest int, at each place where a number stands.
func extremes() []one {
	least, greatest := strconv.Itoa(math.MinInt), strconv.Itoa(math.MaxInt)
	size := strconv.IntSize / 8
	leastBytes := string(rune(size)) + strings.Repeat("\xff", size)
	greatestBytes := string(rune(size)) + "\xfe" + strings.Repeat("\xff", size-1)
	var l []one
	for _, x := range []struct {
		n           int
		line, bytes string
	}{{math.MinInt, least, leastBytes}, {math.MaxInt, greatest, greatestBytes}} {
		l = append(l,
			one{Op{Kind: Insert, Id: x.n}, "\x04" + x.bytes + "\x00\x00", "insert " + x.line + " 0 0"},
			one{Op{Kind: Insert, To: x.n}, "\x04\x00" + x.bytes + "\x00", "insert 0 " + x.line + " 0"},
			one{Op{Kind: Insert, At: x.n}, "\x04\x00\x00" + x.bytes, "insert 0 0 " + x.line},
			one{Op{Kind: Remove, Id: x.n}, "\x05" + x.bytes, "remove " + x.line},
			one{Op{Kind: SetAttr, Id: x.n, Name: "n", Text: "t"}, "\x06" + x.bytes + "\x01n\x01t", "set " + x.line + " [n] [t]"},
			one{Op{Kind: DelAttr, Id: x.n, Name: "n"}, "\x07" + x.bytes + "\x01n", "unset " + x.line + " [n]"},
			one{Op{Kind: SetText, Id: x.n, Text: "t"}, "\x08" + x.bytes + "\x01t", "change " + x.line + " [t]"},
		)
	}
	return l
}

// fields of each kind, by their letters: Id, To, At, Name, teXt.
func fields(kind int) string {
	switch kind {
	case NewElement:
		return "n"
	case NewText, NewComment:
		return "x"
	case Insert:
		return "ita"
	case Remove:
		return "i"
	case SetAttr:
		return "inx"
	case DelAttr:
		return "in"
	case SetText:
		return "ix"
	}
	return "none"
}

// numbersAndTexts are what o has, whatever its kind has, by the letters of fields.
func numbersAndTexts(o Op) (map[rune]int, map[rune]string) {
	return map[rune]int{'i': o.Id, 't': o.To, 'a': o.At}, map[rune]string{'n': o.Name, 'x': o.Text}
}

// mayByRule is what P6.1 says.
func mayByRule(o Op) bool {
	has := fields(o.Kind)
	if has == "none" {
		return false
	}
	numbers, texts := numbersAndTexts(o)
	for c, n := range numbers {
		if n != 0 && !strings.ContainsRune(has, c) {
			return false
		}
	}
	for c, s := range texts {
		if s != "" && !strings.ContainsRune(has, c) || len(s) > 255 {
			return false
		}
	}
	return true
}

// numberByRule tells a number by arithmetic on numbers of any size, where the program shifts.
func numberByRule(n int) string {
	u := new(big.Int).Mul(big.NewInt(2), big.NewInt(int64(n)))
	if n < 0 {
		u.Neg(u).Sub(u, big.NewInt(1))
	}
	b := u.Bytes()
	slices.Reverse(b)
	return string([]byte{byte(len(b))}) + string(b)
}

// encodeByRule is what P6.2 says of one operation that may be.
func encodeByRule(o Op) string {
	s := string([]byte{byte(o.Kind)})
	numbers, texts := numbersAndTexts(o)
	for _, c := range fields(o.Kind) {
		if n, ok := numbers[c]; ok {
			s += numberByRule(n)
		} else {
			s += string([]byte{byte(len(texts[c]))}) + texts[c]
		}
	}
	return s
}

// printByRule is what P6.3 says of one operation that may be.
func printByRule(o Op) string {
	words := []string{[]string{"", "element", "text", "comment", "insert", "remove", "set", "unset", "change"}[o.Kind]}
	numbers, texts := numbersAndTexts(o)
	for _, c := range fields(o.Kind) {
		if n, ok := numbers[c]; ok {
			words = append(words, strconv.FormatInt(int64(n), 10))
		} else {
			words = append(words, "["+texts[c]+"]")
		}
	}
	return strings.Join(words, " ")
}

// isAsRuled holds all calls against the rule, of one operation.
func isAsRuled(t *testing.T, o Op) {
	t.Helper()
	if !mayByRule(o) {
		isNone(t, o)
		return
	}
	isOne(t, one{o, encodeByRule(o), printByRule(o)})
}

// isOne asks that an operation may be, and is told so; P6.4 is among what it asks.
func isOne(t *testing.T, x one) {
	t.Helper()
	if !May(x.o) {
		t.Fatalf("May of %+v = false", x.o)
	}
	if s := Print(x.o); s != x.line {
		t.Fatalf("Print of %+v = %q, want %q", x.o, s, x.line)
	}
	if s, e := Encode([]Op{x.o}); s != x.bytes || e != api.OK {
		t.Fatalf("Encode of %+v = %q, %d, want %q", x.o, s, e, x.bytes)
	}
	if l, e := Decode(x.bytes); e != api.OK || len(l) != 1 || l[0] != x.o {
		t.Fatalf("Decode of %q = %+v, %d, want %+v", x.bytes, l, e, x.o)
	}
}

// isNone asks that an operation may not be, alone and among others.
func isNone(t *testing.T, o Op) {
	t.Helper()
	if May(o) {
		t.Fatalf("May of %+v = true", o)
	}
	if s := Print(o); s != "" {
		t.Fatalf("Print of %+v = %q", o, s)
	}
	good := Op{Kind: Remove, Id: 1}
	for _, l := range [][]Op{{o}, {o, good}, {good, o}, {good, o, good}, {o, o}} {
		if s, e := Encode(l); s != "" || e != api.ErrArg {
			t.Fatalf("Encode of %+v = %q, %d", l, s, e)
		}
	}
}

// isForm asks that s is no operations' Encode.
func isForm(t *testing.T, s string) {
	t.Helper()
	if l, e := Decode(s); len(l) != 0 || e != api.ErrForm {
		t.Fatalf("Decode of %q = %+v, %d", s, l, e)
	}
}

// comesBack asks that operations which may be are encoded as bytes, and those decoded to the same.
func comesBack(t *testing.T, l []Op) {
	t.Helper()
	want := ""
	for _, o := range l {
		want += encodeByRule(o)
	}
	s, e := Encode(l)
	if s != want || e != api.OK {
		t.Fatalf("Encode of %+v = %q, %d, want %q", l, s, e, want)
	}
	if m, e := Decode(s); e != api.OK || !slices.Equal(m, l) {
		t.Fatalf("Decode of %q = %+v, %d, want %+v", s, m, e, l)
	}
}

// P6.1: the kinds are told apart by these numbers.
func TestKinds(t *testing.T) {
	for i, kind := range []int{NewElement, NewText, NewComment, Insert, Remove, SetAttr, DelAttr, SetText} {
		if kind != i+1 {
			t.Errorf("the kind at %d is %d", i, kind)
		}
	}
}

// P6.1, P6.2, P6.3: each kind, as written down by hand.
func TestOnes(t *testing.T) {
	for _, x := range ones() {
		isOne(t, x)
		isAsRuled(t, x.o)
	}
}

// P6.1: a Kind that is none, with nothing, and with all that others have.
func TestNoKind(t *testing.T) {
	for _, kind := range []int{math.MinInt, math.MinInt32, -257, -256, -255, -9, -8, -2, -1, 0, 9, 10, 255, 256, 257, 260, 264, 265, math.MaxInt32, math.MaxInt} {
		isNone(t, Op{Kind: kind})
		for _, x := range ones() {
			o := x.o
			o.Kind = kind
			isNone(t, o)
		}
	}
}

// P6.1: each field that a kind has not must be 0, or "", whatever the fields are that it has.
func TestFieldsOfOthers(t *testing.T) {
	type turn func(o *Op)
	turns := map[rune][]turn{}
	for _, n := range []int{1, -1, 256, math.MinInt, math.MaxInt, 1 << 30} {
		turns['i'] = append(turns['i'], func(o *Op) { o.Id = n })
		turns['t'] = append(turns['t'], func(o *Op) { o.To = n })
		turns['a'] = append(turns['a'], func(o *Op) { o.At = n })
	}
	for _, s := range []string{"a", " ", "\x00", strings.Repeat("a", 255), strings.Repeat("a", 256)} {
		turns['n'] = append(turns['n'], func(o *Op) { o.Name = s })
		turns['x'] = append(turns['x'], func(o *Op) { o.Text = s })
	}
	for _, x := range ones() {
		for c, l := range turns {
			for _, turn := range l {
				o := x.o
				turn(&o)
				if !strings.ContainsRune(fields(o.Kind), c) {
					isNone(t, o)
				}
				isAsRuled(t, o)
			}
		}
	}
}

// P6.1: all mixtures of fields, those that a kind has and others.
func TestMixtures(t *testing.T) {
	numbers, texts := []int{0, 1, -300}, []string{"", "a"}
	may := 0
	for kind := -1; kind <= 10; kind++ {
		for i := range len(numbers) * len(numbers) * len(numbers) {
			for j := range len(texts) * len(texts) {
				o := Op{Kind: kind, Id: numbers[i%3], To: numbers[i/3%3], At: numbers[i/9], Name: texts[j%2], Text: texts[j/2]}
				isAsRuled(t, o)
				if May(o) {
					may++
				}
			}
		}
	}
	// 2 of NewElement, NewText and NewComment each, 27 of Insert, 3 of Remove, 12 of SetAttr, 6 of DelAttr and SetText each.
	if may != 3*2+27+3+12+2*6 {
		t.Errorf("%d may be", may)
	}
}

// P6.1: texts of 255 bytes, and of 256; bytes count, not runes.
func TestLengths(t *testing.T) {
	for _, many := range []int{0, 1, 20, 21, 60, 61, 127, 128, 254, 255, 256, 257, 300, 511, 512, 600} {
		for _, c := range []string{"a", "\x00", "\xff", "]"} {
			s := strings.Repeat(c, many)
			for _, o := range []Op{
				{Kind: NewElement, Name: s}, {Kind: NewText, Text: s}, {Kind: NewComment, Text: s}, {Kind: DelAttr, Name: s}, {Kind: SetText, Text: s},
				{Kind: SetAttr, Name: s}, {Kind: SetAttr, Text: s}, {Kind: SetAttr, Name: s, Text: s}, {Kind: SetAttr, Name: "a", Text: s}, {Kind: SetAttr, Name: s, Text: "a"},
			} {
				if May(o) != (many <= 255) {
					t.Errorf("May of kind %d, with %d bytes = %v", o.Kind, many, May(o))
				}
				isAsRuled(t, o)
			}
		}
	}
	two := strings.Repeat("\u00e9", 127)
	if !May(Op{Kind: NewText, Text: two + "a"}) || May(Op{Kind: NewText, Text: two + "\u00e9"}) || May(Op{Kind: NewElement, Name: two + "\u00e9"}) {
		t.Error("texts of longer runes")
	}
}

// P6.2, P6.3: numbers where their bytes become more, of both signs.
func TestNumbers(t *testing.T) {
	for i := range strconv.IntSize {
		p := 1 << i
		for _, n := range []int{p - 1, p, p + 1, -p - 1, -p, -p + 1} {
			for _, o := range []Op{{Kind: Insert, Id: n}, {Kind: Insert, To: n}, {Kind: Insert, At: n}, {Kind: Insert, Id: n, To: -n, At: n ^ 5}, {Kind: Remove, Id: n}, {Kind: SetAttr, Id: n}, {Kind: DelAttr, Id: n}, {Kind: SetText, Id: n}} {
				isAsRuled(t, o)
			}
		}
	}
}

// P6.2: none at all.
func TestNoOperations(t *testing.T) {
	for _, l := range [][]Op{nil, {}, make([]Op, 0, 5)} {
		if s, e := Encode(l); s != "" || e != api.OK {
			t.Errorf("%q, %d", s, e)
		}
	}
	if l, e := Decode(""); len(l) != 0 || e != api.OK {
		t.Errorf("%v, %d", l, e)
	}
}

// P6.2, P6.4: operations one behind the other, up to MaxOps of them.
func TestManyOperations(t *testing.T) {
	all := ones()
	for many := 1; many <= 20; many++ {
		for from := range all {
			var l []Op
			want := ""
			for i := range many {
				x := all[(from+i*i)%len(all)]
				l = append(l, x.o)
				want += x.bytes
			}
			if s, e := Encode(l); s != want || e != api.OK {
				t.Fatalf("Encode of %+v = %q, %d", l, s, e)
			}
			if m, e := Decode(want); e != api.OK || !slices.Equal(m, l) {
				t.Fatalf("Decode of %q = %+v, %d", want, m, e)
			}
		}
	}
}

// P6.2: more than MaxOps, whether they may be or not: ErrFull is named first.
func TestTooManyOperations(t *testing.T) {
	if api.MaxOps != 20 {
		t.Fatal(api.MaxOps)
	}
	for _, x := range ones() {
		l := slices.Repeat([]Op{x.o}, 20)
		comesBack(t, l)
		isForm(t, strings.Repeat(x.bytes, 21))
		l[19] = Op{}
		if s, e := Encode(l); s != "" || e != api.ErrArg {
			t.Errorf("Encode of 20, the last wrong: %q, %d", s, e)
		}
		for _, many := range []int{21, 22, 40, 150} {
			for _, o := range []Op{x.o, {}, {Kind: 9}, {Kind: NewText, Text: strings.Repeat("a", 256)}} {
				if s, e := Encode(slices.Repeat([]Op{o}, many)); s != "" || e != api.ErrFull {
					t.Errorf("Encode of %d = %q, %d", many, s, e)
				}
			}
			isForm(t, strings.Repeat(x.bytes, many))
		}
		// What stands behind the last one is none, be it an operation or not.
		isForm(t, strings.Repeat(x.bytes, 20)+"\x00")
		isForm(t, strings.Repeat(x.bytes, 20)+"\x05")
		isForm(t, strings.Repeat(x.bytes, 20)+"\x05\x00")
	}
}

// P6.2: bytes that end too early.
func TestTooFewBytes(t *testing.T) {
	for _, x := range ones() {
		for end := 1; end < len(x.bytes); end++ {
			isForm(t, x.bytes[:end])
			isForm(t, "\x05\x00"+x.bytes[:end])
		}
	}
	for _, s := range []string{"\x01", "\x01\x03di", "\x02\xff", "\x05", "\x05\x01", "\x05\x02\x01", "\x04\x00", "\x04\x00\x00", "\x06\x00\x00", "\x06\x00", "\x07\x00", "\x08\x01\x04"} {
		isForm(t, s)
	}
}

// P6.2: bytes that go on behind the last operation.
func TestTooManyBytes(t *testing.T) {
	for _, x := range ones() {
		for _, behind := range []string{"\x00", "\x09", "a", "\xff", "\x01", "\x05", "\x05\x01", "\x00\x00", "\x05\x00\x00", "\x02\x00\x02"} {
			isForm(t, x.bytes+behind)
		}
	}
}

// P6.2: a Kind which is none, ahead of and behind what is one.
func TestBytesOfNoKind(t *testing.T) {
	for kind := range 256 {
		if kind >= 1 && kind <= 8 {
			continue
		}
		for _, x := range ones() {
			c := string([]byte{byte(kind)})
			isForm(t, c)
			isForm(t, c+x.bytes)
			isForm(t, c+x.bytes[1:])
			isForm(t, x.bytes+c)
			isForm(t, x.bytes+c+x.bytes[1:])
		}
	}
}

// P6.2: a length greater than what is left, of a text and of a number.
func TestBytesOfGreatLengths(t *testing.T) {
	for length := range 256 {
		c := string([]byte{byte(length)})
		for _, many := range []int{0, 1, 2, 7, 8, 9, 127, 128, 254, 255, 256, 600} {
			behind := strings.Repeat("a", many)
			for _, ahead := range []string{"\x01", "\x02", "\x03", "\x06\x00\x00", "\x07\x00", "\x08\x00"} {
				if length != many {
					// Of a shorter text what is left begins with an a, and that is no Kind.
					isForm(t, ahead+c+behind)
					continue
				}
				if l, e := Decode(ahead + c + behind); e != api.OK || len(l) != 1 || l[0].Name+l[0].Text != behind {
					t.Errorf("Decode of %q = %+v, %d", ahead+c+behind, l, e)
				}
			}
			number := length == many && length <= strconv.IntSize/8
			if l, e := Decode("\x05" + c + behind); number != (e == api.OK && len(l) == 1 && numberByRule(l[0].Id) == c+behind) {
				t.Errorf("Decode of %q = %+v, %d", "\x05"+c+behind, l, e)
			}
		}
	}
}

// P6.2: a number in more bytes than it needs, at each place where one stands, and in more than there are.
func TestBytesOfLongNumbers(t *testing.T) {
	var long []string
	for _, x := range ones() {
		if x.o.Kind == Remove && len(x.bytes) < 2+8 {
			long = append(long, string([]byte{x.bytes[1] + 1})+x.bytes[2:]+"\x00")
		}
	}
	long = append(long, "\x01\x00", "\x02\x01\x00", "\x02\x00\x00", "\x08"+strings.Repeat("\x00", 8), "\x08\x01"+strings.Repeat("\x00", 7),
		"\x09"+strings.Repeat("\x01", 9), "\x09"+strings.Repeat("\x00", 9), "\x08"+strings.Repeat("\xff", 7)+"\x00",
		"\xff"+strings.Repeat("\x01", 255), "\x10"+strings.Repeat("\x01", 16))
	if len(long) < 15 {
		t.Fatal(len(long))
	}
	for _, n := range long {
		for _, s := range []string{
			"\x04" + n + "\x00\x00", "\x04\x00" + n + "\x00", "\x04\x00\x00" + n, "\x05" + n, "\x06" + n + "\x00\x00", "\x07" + n + "\x00", "\x08" + n + "\x00",
		} {
			isForm(t, s)
			isForm(t, "\x03\x00"+s)
			isForm(t, s+"\x03\x00")
		}
	}
}

// P6.2: a number of 64 bits is one only where int has as many.
func TestBytesOfWideNumbers(t *testing.T) {
	wide := map[string]string{
		"\x04" + strings.Repeat("\xff", 4):              "-2147483648",
		"\x04\xfe" + strings.Repeat("\xff", 3):          "2147483647",
		"\x05" + strings.Repeat("\x00", 4) + "\x01":     "2147483648",
		"\x05\x01" + strings.Repeat("\x00", 3) + "\x01": "-2147483649",
		"\x08" + strings.Repeat("\xff", 8):              "-9223372036854775808",
		"\x08\xfe" + strings.Repeat("\xff", 7):          "9223372036854775807",
	}
	for bytes, digits := range wide {
		if _, err := strconv.Atoi(digits); err != nil {
			isForm(t, "\x05"+bytes)
			continue
		}
		l, e := Decode("\x05" + bytes)
		if e != api.OK || len(l) != 1 || strconv.Itoa(l[0].Id) != digits {
			t.Errorf("Decode of %q = %+v, %d", bytes, l, e)
		}
	}
}

// aList is what any operations' bytes look like, as long as numbers and texts have three bytes at most.
var aList = func() *regexp.Regexp {
	number := "(?:\x00|\x01[^\x00]|\x02.[^\x00]|\x03..[^\x00])"
	text := "(?:\x00|\x01.|\x02..|\x03...)"
	kinds := []string{"\x01" + text, "[\x02\x03]" + text, "\x04" + number + number + number, "\x05" + number,
		"\x06" + number + text + text, "\x07" + number + text, "\x08" + number + text}
	return regexp.MustCompile(`(?s)\A(?:` + strings.Join(kinds, "|") + `)*\z`)
}()

// P6.2: all short strings of few bytes: those that are some operations' Encode, and those that are not.
func TestAllShortStrings(t *testing.T) {
	const letters = "\x00\x01\x02\x03\x04\x05\x06\x07\x08\x09"
	are, areNot := 0, 0
	var grow func(s string)
	grow = func(s string) {
		l, e := Decode(s)
		if is := aList.MatchString(s); is != (e == api.OK) || !is && e != api.ErrForm || !is && len(l) != 0 {
			t.Fatalf("Decode of %q = %+v, %d", s, l, e)
		}
		if e == api.OK {
			are++
			again := ""
			for _, o := range l {
				if !mayByRule(o) {
					t.Fatalf("Decode of %q = %+v", s, l)
				}
				again += encodeByRule(o)
			}
			if again != s {
				t.Fatalf("Decode of %q = %+v, and that is %q", s, l, again)
			}
		} else {
			areNot++
		}
		// In five bytes, behind a Kind and a length, three are left.
		if len(s) < 5 {
			for i := range letters {
				grow(s + letters[i:i+1])
			}
		}
	}
	grow("")
	if are < 1000 || areNot < 1000 {
		t.Errorf("%d are, and %d are not", are, areNot)
	}
}

// P6.4: what two lists are encoded as is different, if they are.
func TestNoTwoAlike(t *testing.T) {
	seen := map[string][]Op{}
	all := ones()
	keep := func(l []Op) {
		s, e := Encode(l)
		if before, is := seen[s]; e != api.OK || is && !slices.Equal(before, l) {
			t.Fatalf("%+v and %+v are both %q (%d)", before, l, s, e)
		}
		seen[s] = l
	}
	keep(nil)
	for _, x := range all {
		keep([]Op{x.o})
		for _, y := range all {
			keep([]Op{x.o, y.o})
		}
	}
}

// P6.3
func TestPrint(t *testing.T) {
	for _, x := range []struct {
		o    Op
		want string
	}{
		{Op{Kind: Insert, Id: 3, To: 0, At: 1}, "insert 3 0 1"},
		{Op{Kind: Insert, Id: 10, To: -20, At: 300}, "insert 10 -20 300"},
		{Op{Kind: NewElement, Name: "a"}, "element [a]"},
		{Op{Kind: NewText, Text: " "}, "text [ ]"},
		{Op{Kind: NewComment, Text: "[]"}, "comment [[]]"},
		{Op{Kind: Remove, Id: 1}, "remove 1"},
		{Op{Kind: SetAttr, Id: 1, Name: "b", Text: "a"}, "set 1 [b] [a]"},
		{Op{Kind: DelAttr, Id: 1, Name: "b"}, "unset 1 [b]"},
		{Op{Kind: SetText, Id: 1, Text: "\"\\\n"}, "change 1 [\"\\\n]"},
		{Op{}, ""},
		{Op{Kind: Insert, Id: 3, At: 1, Text: "a"}, ""},
		{Op{Kind: Remove, Id: 1, To: 1}, ""},
	} {
		if s := Print(x.o); s != x.want {
			t.Errorf("Print of %+v = %q, want %q", x.o, s, x.want)
		}
	}
}

// dice is a run of numbers that is always the same.
type dice uint64

func (d *dice) roll(n int) int {
	*d = *d*6364136223846793005 + 1442695040888963407
	return int(*d>>33) % n
}

// thrown is an operation that may be.
func thrown(d *dice) Op {
	number := func() int {
		n := (d.roll(1<<30)<<30 ^ d.roll(1<<30)) >> d.roll(60)
		if d.roll(2) == 0 {
			n = -n
		}
		return n
	}
	text := func() string {
		b := make([]byte, []int{0, 1, 2, 10, 254, 255}[d.roll(6)])
		for i := range b {
			b[i] = byte(d.roll(256))
		}
		return string(b)
	}
	o := Op{Kind: 1 + d.roll(8)}
	for _, c := range fields(o.Kind) {
		switch c {
		case 'i':
			o.Id = number()
		case 't':
			o.To = number()
		case 'a':
			o.At = number()
		case 'n':
			o.Name = text()
		case 'x':
			o.Text = text()
		}
	}
	return o
}

// P6.1 to P6.4: any operations, and their bytes with one of them changed, gone, or more.
func TestThrown(t *testing.T) {
	formed, others := 0, 0
	for seed := range 300 {
		d := dice(seed)
		var l []Op
		for range d.roll(21) {
			o := thrown(&d)
			isAsRuled(t, o)
			l = append(l, o)
		}
		comesBack(t, l)
		s, _ := Encode(l)
		for range 40 {
			at := d.roll(len(s) + 1)
			c := string([]byte{byte(d.roll(10))})
			m := s[:at] + c + s[at:]
			if at < len(s) && d.roll(2) == 0 {
				m = s[:at] + s[at+1:]
			} else if at < len(s) && d.roll(2) == 0 {
				m = s[:at] + c + s[at+1:]
			}
			if isAsEncoded(t, m) {
				formed++
			} else {
				others++
			}
		}
	}
	if formed < 100 || others < 100 {
		t.Errorf("%d are operations, and %d are not", formed, others)
	}
}

// isAsEncoded asks that s is decoded to what is encoded as s, or is none.
func isAsEncoded(t *testing.T, s string) bool {
	t.Helper()
	l, e := Decode(s)
	if e != api.OK {
		isForm(t, s)
		return false
	}
	if len(l) > 20 || slices.ContainsFunc(l, func(o Op) bool { return !mayByRule(o) }) {
		t.Fatalf("Decode of %q = %+v", s, l)
	}
	again := ""
	for _, o := range l {
		again += encodeByRule(o)
	}
	if again != s {
		t.Fatalf("Decode of %q = %+v, and that is %q", s, l, again)
	}
	comesBack(t, l)
	return true
}

// R4: lists stay as they were behind every call, also behind their ends.
func TestListsStay(t *testing.T) {
	var good, bad, long []Op
	for i, x := range ones() {
		if i%3 == 0 {
			good = append(good, x.o)
		}
		long = append(long, x.o)
	}
	good = good[:min(len(good), 20)]
	bad = append(slices.Clone(good[:5]), Op{Kind: 9, Id: 1, To: 2, At: 3, Name: "a", Text: "b"})
	for i, l := range [][]Op{nil, {}, good, bad, long} {
		want := []api.Errno{api.OK, api.OK, api.OK, api.ErrArg, api.ErrFull}[i]
		roomy := append(slices.Clone(l), Op{Kind: 7, Name: "behind"})
		was := slices.Clone(roomy)
		first := ""
		for again := range 2 {
			s, e := Encode(roomy[:len(l)])
			if e != want || again > 0 && s != first {
				t.Errorf("Encode of %+v = %q, %d", l, s, e)
			}
			first = s
			for _, o := range roomy {
				May(o)
				Print(o)
			}
		}
		if !slices.Equal(roomy, was) {
			t.Errorf("%+v became %+v", was, roomy)
		}
	}
}

// R4: writing over what was answered changes nothing, and no two answers share anything.
func TestAnswersAreNotShared(t *testing.T) {
	s := ""
	var want []Op
	for _, x := range ones()[:20] {
		s += x.bytes
		want = append(want, x.o)
		l, _ := Decode(s)
		m, _ := Decode(s)
		for i := range l[:cap(l)] {
			l[:cap(l)][i] = Op{Kind: 77, Name: "over"}
		}
		if n, e := Decode(s); e != api.OK || !slices.Equal(n, want) || !slices.Equal(m, want) {
			t.Errorf("Decode of %q = %+v, %+v, want %+v", s, m, n, want)
		}
	}
}

// R4: what was answered does not hang on what is done to the list behind it.
func TestBytesStay(t *testing.T) {
	l := []Op{{Kind: NewText, Text: "x"}, {Kind: Remove, Id: 3}}
	s, _ := Encode(l)
	l[0], l[1] = Op{Kind: NewText, Text: "y"}, Op{}
	if s != "\x02\x01x\x05\x01\x06" {
		t.Errorf("%q", s)
	}
}

// FuzzDecode holds any bytes against the rule.
func FuzzDecode(f *testing.F) {
	f.Add("")
	f.Add("\x05\x01\x00")
	f.Add(strings.Repeat("\x03\x00", 21))
	for _, x := range ones() {
		f.Add(x.bytes)
	}
	f.Fuzz(func(t *testing.T, s string) { isAsEncoded(t, s) })
}

// FuzzOp holds any operation against the rule.
func FuzzOp(f *testing.F) {
	for _, x := range ones() {
		f.Add(x.o.Kind, x.o.Id, x.o.To, x.o.At, x.o.Name, x.o.Text)
	}
	f.Fuzz(func(t *testing.T, kind, id, to, at int, name, text string) {
		isAsRuled(t, Op{Kind: kind, Id: id, To: to, At: at, Name: name, Text: text})
	})
}

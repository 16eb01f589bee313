package word

import (
	"slices"
	"strings"
	"testing"
)

const (
	letters = "ABCDEFGHIJKLMNOPQRSTUVWXYZabcdefghijklmnopqrstuvwxyz"
	others  = "0123456789-_"
)

// blanks are given as numbers, as the document gives them.
func blanks() []byte { return []byte{9, 10, 12, 13, 32} }

// allBytes are all texts of one byte.
func allBytes() []string {
	l := make([]string, 256)
	for i := range l {
		l[i] = string([]byte{byte(i)})
	}
	return l
}

// shortTexts are all texts of at most that many bytes of the given ones.
func shortTexts(of string, most int) []string {
	l := []string{""}
	first := 0
	for range most {
		end := len(l)
		for _, s := range l[first:end] {
			for i := range len(of) {
				l = append(l, s+of[i:i+1])
			}
		}
		first = end
	}
	return l
}

// byRule tells the words of s by splitting and searching, with neither an iterator nor a map.
func byRule(s string) []string {
	b := []byte(s)
	for i := range b {
		if slices.Contains(blanks(), b[i]) {
			b[i] = ' '
		}
	}
	var l []string
	for _, w := range strings.Split(string(b), " ") {
		if w != "" && !slices.Contains(l, w) {
			l = append(l, w)
		}
	}
	return l
}

// P2.1
func TestName(t *testing.T) {
	for s, want := range map[string]bool{
		"": false, "a": true, "Z": true, "A": true, "z": true,
		"div": true, "H1": true, "a-b_c": true, "a-": true, "a_": true, "a9": true, "a--__99": true,
		"9": false, "-": false, "_": false, "9a": false, "0a": false, "-a": false, "_a": false,
		"a b": false, " a": false, "a ": false, "a\n": false, "a\x00": false, "\x00": false, "a.b": false, "a:b": false,
		"\u00e9": false, "a\u00e9": false, "a\xc3": false, "a\x80": false, "\xff": false, "a\xff": false, "\u212a": false,
		"@": false, "[": false, "`": false, "{": false, "a/": false, "a:": false, "a,": false, "a.": false, "a^": false,
		"a" + strings.Repeat("9", 18): true, "a" + strings.Repeat("-", 19): true, "a" + strings.Repeat("_", 20): false,
		strings.Repeat("a", 19): true, strings.Repeat("a", 20): true, strings.Repeat("a", 21): false,
		strings.Repeat("a", 19) + ".": false, strings.Repeat("a", 19) + "\x80": false, strings.Repeat("\u00e9", 10): false,
		strings.Repeat("a", 256): false, strings.Repeat("a", 257): false, strings.Repeat("a", 300): false,
	} {
		if Name(s) != want {
			t.Errorf("Name(%q) = %v", s, !want)
		}
	}
}

// P2.1: each byte, at the first place, at a later one, and at the last that there may be.
func TestNameByItsBytes(t *testing.T) {
	for _, c := range allBytes() {
		letter := strings.Contains(letters, c)
		inside := letter || strings.Contains(others, c)
		if Name(c) != letter || Name(c+"a") != letter {
			t.Errorf("%q as the first byte: %v, %v", c, Name(c), Name(c+"a"))
		}
		if Name("a"+c) != inside || Name("a"+c+"a") != inside || Name(strings.Repeat("a", 19)+c) != inside {
			t.Errorf("%q as a later byte: %v, %v, %v", c, Name("a"+c), Name("a"+c+"a"), Name(strings.Repeat("a", 19)+c))
		}
		if Name(strings.Repeat("a", 20) + c) {
			t.Errorf("21 bytes, the last of them %q", c)
		}
	}
}

// P2.1
func TestText(t *testing.T) {
	for _, c := range allBytes() {
		for many, want := range map[int]bool{0: true, 1: true, 59: true, 60: true, 61: false, 256: false, 300: false, 600: false} {
			if Text(strings.Repeat(c, many)) != want {
				t.Errorf("Text of %d times %q = %v", many, c, !want)
			}
		}
	}
	// Bytes count, not runes.
	if !Text(strings.Repeat("\u00e9", 30)) || Text(strings.Repeat("\u00e9", 31)) || !Text(strings.Repeat("\u20ac", 20)) || Text(strings.Repeat("\u20ac", 21)) {
		t.Error("Text of longer runes")
	}
}

// P2.2
func TestTokens(t *testing.T) {
	for s, want := range map[string][]string{
		"":                nil,
		" ":               nil,
		" \t\n\f\r":       nil,
		"a":               {"a"},
		"b a  b":          {"b", "a"},
		" b a  b ":        {"b", "a"},
		"a a a":           {"a"},
		"a b a b c a":     {"a", "b", "c"},
		"a A":             {"a", "A"},
		"a aa aaa":        {"a", "aa", "aaa"},
		"z y x":           {"z", "y", "x"},
		"x\ry\fx z":       {"x", "y", "z"},
		"\r\nx\r\n\r\ny":  {"x", "y"},
		"\ta\vb\n":        {"a\vb"},
		"a\x00b":          {"a\x00b"},
		"\x00 \x00":       {"\x00"},
		"a\xa0b":          {"a\xa0b"},
		"a\u00a0b":        {"a\u00a0b"},
		"a\u0085b":        {"a\u0085b"},
		"a\u2003b\u3000c": {"a\u2003b\u3000c"},
		"\xff \xfe \xff":  {"\xff", "\xfe"},
		"\xe2 \x82 \xac":  {"\xe2", "\x82", "\xac"},
		"a\u010ab":        {"a\u010ab"}, // a rune whose low byte is a blank's
	} {
		if l := Tokens(s); !slices.Equal(l, want) {
			t.Errorf("Tokens(%q) = %q, want %q", s, l, want)
		}
	}
}

// P2.2: each byte is a blank or a part of a word, alone, at the beginning, at the end, inside, and beside itself.
func TestTokensByTheirBytes(t *testing.T) {
	for i, c := range allBytes() {
		blank := slices.Contains(blanks(), byte(i))
		for s, want := range map[string][2][]string{
			c:                   {{c}, nil},
			c + c:               {{c + c}, nil},
			c + "xx":            {{c + "xx"}, {"xx"}},
			c + c + "xx":        {{c + c + "xx"}, {"xx"}},
			"xx" + c:            {{"xx" + c}, {"xx"}},
			"xx" + c + c:        {{"xx" + c + c}, {"xx"}},
			"xx" + c + "yy":     {{"xx" + c + "yy"}, {"xx", "yy"}},
			"yy" + c + c + "xx": {{"yy" + c + c + "xx"}, {"yy", "xx"}},
			"xx" + c + "xx":     {{"xx" + c + "xx"}, {"xx"}},
			"xx " + c + " yy":   {{"xx", c, "yy"}, {"xx", "yy"}},
			c + "xx" + c + c:    {{c + "xx" + c + c}, {"xx"}},
		} {
			w := want[0]
			if blank {
				w = want[1]
			}
			if l := Tokens(s); !slices.Equal(l, w) {
				t.Errorf("Tokens(%q) = %q, want %q", s, l, w)
			}
		}
	}
}

// P2.2: each blank stands beside each other one.
func TestBlanksSideBySide(t *testing.T) {
	for _, a := range blanks() {
		for _, b := range blanks() {
			between := string([]byte{a, b})
			s := between + "v" + between + "u" + between + "v" + between
			if l := Tokens(s); !slices.Equal(l, []string{"v", "u"}) {
				t.Errorf("Tokens(%q) = %q", s, l)
			}
			if l := Tokens(between); len(l) != 0 {
				t.Errorf("Tokens(%q) = %q", between, l)
			}
			if Has(s, between) || Has(s, "") || Has(between, "") || !Has(s, "u") {
				t.Errorf("Has of %q", s)
			}
		}
	}
}

// P2.2
func TestHas(t *testing.T) {
	for _, x := range []struct {
		s, token string
		want     bool
	}{
		{"a", "a", true}, {"b a  b", "a", true}, {"b a  b", "b", true}, {"a b c", "a", true}, {"a b c", "b", true}, {"a b c", "c", true},
		{" c\n", "c", true}, {"x\ry\fx z", "y", true}, {"a\vb", "a\vb", true}, {"\xff \xfe", "\xfe", true},
		{"b a  b", "c", false}, {"ab c", "a", false}, {"ab c", "b", false}, {"a", "ab", false}, {"a", "A", false}, {"A", "a", false},
		{"", "", false}, {"a", "", false}, {"a  b", "", false}, {" ", "", false}, {" a ", "", false},
		{"", "a", false}, {" ", " ", false}, {"a b", "a b", false}, {"a b", " ", false}, {"a b", "a ", false}, {"a b", " b", false},
		{"a\vb", "a", false}, {"a\x00b", "b", false}, {"a\xa0b", "a", false},
	} {
		if Has(x.s, x.token) != x.want {
			t.Errorf("Has(%q, %q) = %v", x.s, x.token, !x.want)
		}
	}
}

// P2.2, P2.4: every short text of words, blanks and what looks like one.
func TestShortTexts(t *testing.T) {
	texts := shortTexts("ab \n\v", 6)
	asked := shortTexts("ab \v", 2)
	for _, s := range texts {
		want := byRule(s)
		l := Tokens(s)
		if !slices.Equal(l, want) {
			t.Fatalf("Tokens(%q) = %q, want %q", s, l, want)
		}
		for _, w := range l {
			if !Has(s, w) {
				t.Fatalf("Has(%q, %q) = false", s, w)
			}
		}
		for _, w := range asked {
			if Has(s, w) != slices.Contains(want, w) {
				t.Fatalf("Has(%q, %q) = %v", s, w, !slices.Contains(want, w))
			}
		}
	}
}

// P2.2: a long text with many words, each of which comes again.
func TestLongText(t *testing.T) {
	var want []string
	for _, s := range shortTexts("cab", 4) {
		if s != "" {
			want = append(want, s)
		}
	}
	once := strings.Join(want, "\t")
	s := "\f" + once + " \r" + once + "\n" + once
	if l := Tokens(s); !slices.Equal(l, want) {
		t.Errorf("%d tokens, want %d", len(l), len(want))
	}
	if !Has(s, want[0]) || !Has(s, want[len(want)-1]) || Has(s, "cabca") {
		t.Error("Has of a long text")
	}
	if l := Tokens(strings.Repeat(" ", 600)); len(l) != 0 {
		t.Errorf("%q", l)
	}
	if l := Tokens(strings.Repeat("x", 600)); !slices.Equal(l, []string{strings.Repeat("x", 600)}) {
		t.Errorf("%q", l)
	}
}

// P2.3
func TestFold(t *testing.T) {
	for s, want := range map[string]string{
		"":                       "",
		"DIV":                    "div",
		"AbZ@[\xc4z":             "abz@[\xc4z",
		"@AZ[`az{":               "@az[`az{",
		"A-b_C 9":                "a-b_c 9",
		"\u00c4\u00d6":           "\u00c4\u00d6",
		"\u0130\u212a":           "\u0130\u212a", // the library makes i and k of these
		"\x80A\xffB\xc1":         "\x80a\xffb\xc1",
		"\x00\x09\x0a\x7f":       "\x00\x09\x0a\x7f",
		letters:                  letters[26:] + letters[26:],
		strings.Repeat("Aa", 99): strings.Repeat("aa", 99),
	} {
		if got := Fold(s); got != want {
			t.Errorf("Fold(%q) = %q, want %q", s, got, want)
		}
	}
}

// P2.3: each byte, alone and among others.
func TestFoldByItsBytes(t *testing.T) {
	for _, c := range allBytes() {
		want := c
		if at := strings.Index(letters[:26], c); at >= 0 {
			want = letters[26+at : 27+at]
		}
		if got := Fold(c); got != want {
			t.Errorf("Fold(%q) = %q, want %q", c, got, want)
		}
		if got := Fold("Z" + c + "\xc3A"); got != "z"+want+"\xc3a" {
			t.Errorf("%q among others: %q", c, got)
		}
	}
}

// holdsWhatFollows is P2.4, of any text.
func holdsWhatFollows(t *testing.T, s string) {
	for _, w := range Tokens(s) {
		if w == "" || strings.ContainsAny(w, string(blanks())) {
			t.Errorf("Tokens(%q) has %q", s, w)
		}
		if l := Tokens(w); !slices.Equal(l, []string{w}) {
			t.Errorf("Tokens(%q) = %q", w, l)
		}
	}
	folded := Fold(s)
	if Fold(folded) != folded || len(folded) != len(s) || strings.ContainsAny(folded, letters[:26]) {
		t.Errorf("Fold(%q) = %q", s, folded)
	}
}

// P2.4
func TestWhatFollows(t *testing.T) {
	for _, a := range allBytes() {
		for _, b := range allBytes() {
			holdsWhatFollows(t, a+b)
			holdsWhatFollows(t, "A"+a+"b"+b+"A")
		}
	}
}

// R4: writing over what was answered changes nothing.
func TestAnswersAreNew(t *testing.T) {
	s := "b a b"
	l := Tokens(s)
	l[0], l[1] = "x", "y"
	if again := Tokens(s); !slices.Equal(again, []string{"b", "a"}) || !Has(s, "b") || Has(s, "x") {
		t.Errorf("Tokens(%q) = %q", s, again)
	}
}

// FuzzWords holds P2.2 to P2.4 and R1 against any text.
func FuzzWords(f *testing.F) {
	for _, s := range []string{"", "b a  b", " \t\n\f\r", "\ta\vb\n", "a\xa0b \xff", "\u212a"} {
		f.Add(s, "a")
	}
	f.Fuzz(func(t *testing.T, s, token string) {
		holdsWhatFollows(t, s)
		want := byRule(s)
		if l := Tokens(s); !slices.Equal(l, want) {
			t.Errorf("Tokens(%q) = %q, want %q", s, l, want)
		}
		if Has(s, token) != slices.Contains(want, token) {
			t.Errorf("Has(%q, %q) = %v", s, token, !slices.Contains(want, token))
		}
		if Name(token) && !Text(token) {
			t.Errorf("%q is a name, and no text", token)
		}
	})
}

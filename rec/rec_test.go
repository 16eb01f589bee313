package rec

import (
	"encoding/binary"
	"fmt"
	"math"
	"math/big"
	"slices"
	"strconv"
	"strings"
	"testing"

	"treillage/api"
	"treillage/vec"
)

const greatest = math.MaxUint64

// one is a rec with its words, written down by hand.
type one struct {
	r Rec
	l []uint64
}

// ones are recs that may be, of all kinds, with what stands at the edge of it.
func ones() []one {
	sixty := strings.Repeat("\xff", 60)
	full := slices.Repeat([]uint64{greatest}, 7)
	sixtyWords := append(full, 0xffffffff)
	return []one{
		{Rec{Parent: -1}, []uint64{0, 0}},
		{Rec{}, []uint64{1 << 2, 0}},
		{Rec{Kind: 1, Parent: -1, Name: "div"}, []uint64{1 | 3<<10, 0, 0x766964}},
		{Rec{Kind: 2, Parent: 3, Text: "x<"}, []uint64{2 | 4<<2 | 2<<15, 0, 0x3c78}},
		{Rec{Kind: 3, Parent: 59, Text: "alone"}, []uint64{3 | 60<<2 | 5<<15, 0, 0x656e6f6c61}},
		{Rec{Kind: 3}, []uint64{3 | 1<<2, 0}},
		{Rec{Parent: -1, Kids: vec.Vec{Root: 1 << 24, Size: 1}}, []uint64{1 << 25, 1 << 24}},
		{Rec{Parent: -1, Kids: vec.Vec{Root: greatest, Size: 200}}, []uint64{200 << 25, greatest}},
		{Rec{Parent: -1, Kids: vec.Vec{Root: greatest}}, []uint64{0, greatest}},
		{Rec{Kind: 1, Name: "a", Text: "b"}, []uint64{1 | 1<<2 | 1<<10 | 1<<15, 0, 0x61, 0x62}},
		{Rec{Kind: 1, Name: "abcdefg"}, []uint64{1 | 1<<2 | 7<<10, 0, 0x67666564636261}},
		{Rec{Kind: 1, Name: "abcdefgh"}, []uint64{1 | 1<<2 | 8<<10, 0, 0x6867666564636261}},
		{Rec{Kind: 1, Name: "abcdefghi"}, []uint64{1 | 1<<2 | 9<<10, 0, 0x6867666564636261, 0x69}},
		{Rec{Kind: 1, Name: "abcdefghijklmnopqrst"}, []uint64{1 | 1<<2 | 20<<10, 0, 0x6867666564636261, 0x706f6e6d6c6b6a69, 0x74737271}},
		{Rec{Kind: 2, Text: "\x00\x00"}, []uint64{2 | 1<<2 | 2<<15, 0, 0}},
		{Rec{Kind: 2, Text: sixty}, slices.Concat([]uint64{2 | 1<<2 | 60<<15, 0}, sixtyWords)},
		{Rec{Kind: 1, Attrs: []string{"", ""}}, []uint64{1 | 1<<2 | 1<<21, 0, 0, 0}},
		{Rec{Kind: 1, Attrs: []string{"id", "k"}}, []uint64{1 | 1<<2 | 1<<21, 0, 2 | 1<<6, 0, 0x6469, 0x6b}},
		{
			Rec{Kind: 1, Parent: 2, Name: "n", Text: "t", Attrs: []string{"a", "12345678", "", "9"}, Kids: vec.Vec{Root: 5, Size: 6}},
			[]uint64{1 | 3<<2 | 1<<10 | 1<<15 | 2<<21 | 6<<25, 5, 1 | 8<<6 | 1<<18, 0, 0x6e, 0x74, 0x61, 0x3837363534333231, 0x39},
		},
		{
			Rec{Kind: 1, Attrs: slices.Concat(slices.Repeat([]string{""}, 8), []string{"a", "bc"})},
			[]uint64{1 | 1<<2 | 5<<21, 0, 0, 1 | 2<<6, 0x61, 0x6362},
		},
		{
			Rec{Kind: 1, Attrs: slices.Repeat([]string{"y"}, 16)},
			slices.Concat([]uint64{1 | 1<<2 | 8<<21, 0, 0o101010101010101, 0o101010101010101}, slices.Repeat([]uint64{0x79}, 16)),
		},
		{
			Rec{Kind: 3, Parent: 59, Name: sixty[:20], Text: sixty, Attrs: slices.Repeat([]string{sixty}, 16), Kids: vec.Vec{Root: greatest, Size: 200}},
			slices.Concat(
				[]uint64{3 | 60<<2 | 20<<10 | 60<<15 | 8<<21 | 200<<25, greatest, 0o7474747474747474, 0o7474747474747474},
				[]uint64{greatest, greatest, 0xffffffff},
				slices.Repeat(sixtyWords, 17)),
		},
	}
}

// told has all of a thing; lists without elements and nil lists are told alike.
func told(x any) string { return fmt.Sprintf("%#v", x) }

// toldRec is told, of a rec.
func toldRec(r Rec) string {
	r.Attrs = append([]string{}, r.Attrs...)
	return told(r)
}

// noLengths are numbers that no text here has as its length.
func noLengths() []int {
	return []int{math.MinInt, math.MinInt + 1, -1 << 32, -9, -8, -7, -1, math.MaxInt - 7, math.MaxInt - 6, math.MaxInt - 1, math.MaxInt}
}

// mayByRule is what P11.1 says.
func mayByRule(r Rec) bool {
	for _, x := range []struct{ n, least, most int }{{r.Kind, 0, 3}, {r.Parent, -1, 59}, {len(r.Name), 0, 20}, {len(r.Text), 0, 60}, {r.Kids.Size, 0, 200}} {
		if x.n < x.least || x.n > x.most {
			return false
		}
	}
	names, values := 0, 0
	for _, s := range r.Attrs {
		if len(s) > 60 {
			return false
		}
		if names == values {
			names++
		} else {
			values++
		}
	}
	return names == values && names <= 8
}

// wordsByRule is what P11.2 says, by arithmetic on numbers of any size, where the program shifts.
func wordsByRule(s string) []uint64 {
	var l []uint64
	for s != "" {
		b := []byte(s[:min(8, len(s))])
		s = s[len(b):]
		slices.Reverse(b)
		l = append(l, new(big.Int).SetBytes(b).Uint64())
	}
	return l
}

// bits is n as so many digits 0 and 1.
func bits(n, many int) string {
	s := strconv.FormatInt(int64(n), 2)
	return strings.Repeat("0", many-len(s)) + s
}

// ofBits is the word that digits tell.
func ofBits(s string) uint64 {
	w, err := strconv.ParseUint(s, 2, 64)
	if err != nil {
		panic(err)
	}
	return w
}

// packByRule is what P11.3 says of a rec that may be, in digits, where the program shifts.
func packByRule(r Rec) []uint64 {
	l := []uint64{
		ofBits(bits(r.Kids.Size, 8) + bits(len(r.Attrs)/2, 4) + bits(len(r.Text), 6) + bits(len(r.Name), 5) + bits(r.Parent+1, 8) + bits(r.Kind, 2)),
		r.Kids.Root,
	}
	if len(r.Attrs) > 0 {
		digits := ""
		for i := range 16 {
			n := 0
			if i < len(r.Attrs) {
				n = len(r.Attrs[i])
			}
			digits = bits(n, 6) + digits
		}
		l = append(l, ofBits(digits[48:]), ofBits(digits[:48]))
	}
	for _, s := range append([]string{r.Name, r.Text}, r.Attrs...) {
		l = append(l, wordsByRule(s)...)
	}
	return l
}

// unpackByRule is what P11.3 says: it asks each part whether it may be, where the program packs again what it read.
func unpackByRule(l []uint64) (Rec, bool) {
	if len(l) < 2 {
		return Rec{}, false
	}
	digits, root := fmt.Sprintf("%064b", l[0]), l[1]
	l = l[2:]
	part := func(many int) int {
		n := ofBits(digits[len(digits)-many:])
		digits = digits[:len(digits)-many]
		return int(n)
	}
	r := Rec{Kind: part(2), Parent: part(8) - 1, Kids: vec.Vec{Root: root}}
	lengths := []int{part(5), part(6)}
	pairs := part(4)
	r.Kids.Size = part(8)
	if strings.Contains(digits, "1") || r.Parent > 59 || lengths[0] > 20 || lengths[1] > 60 || pairs > 8 || r.Kids.Size > 200 {
		return Rec{}, false
	}
	if pairs > 0 {
		if len(l) < 2 || l[0]>>48 != 0 || l[1]>>48 != 0 {
			return Rec{}, false
		}
		digits = fmt.Sprintf("%048b%048b", l[1], l[0])
		l = l[2:]
		for range pairs * 2 {
			lengths = append(lengths, part(6))
		}
		if strings.Contains(digits, "1") || slices.Max(lengths) > 60 {
			return Rec{}, false
		}
	}
	var texts []string
	for _, n := range lengths {
		var b []byte
		for ; len(b) < n && len(l) > 0; l = l[1:] {
			b = binary.LittleEndian.AppendUint64(b, l[0])
		}
		if len(b) < n || strings.Trim(string(b[n:]), "\x00") != "" {
			return Rec{}, false
		}
		texts = append(texts, string(b[:n]))
	}
	r.Name, r.Text, r.Attrs = texts[0], texts[1], texts[2:]
	return r, len(l) == 0
}

// isPacked asks that r may be, and that l is its Pack; P11.4 is among what it asks.
func isPacked(t *testing.T, r Rec, l []uint64) {
	t.Helper()
	if !May(r) {
		t.Fatalf("May of %#v = false", r)
	}
	if got, e := Pack(r); !slices.Equal(got, l) || e != api.OK {
		t.Fatalf("Pack of %#v = %#x, %d, want %#x", r, got, e, l)
	}
	if back, e := Unpack(l); toldRec(back) != toldRec(r) || e != api.OK {
		t.Fatalf("Unpack of %#x = %#v, %d, want %#v", l, back, e, r)
	}
}

// isNone asks that r may not be, and that Pack says so.
func isNone(t *testing.T, r Rec) {
	t.Helper()
	if May(r) {
		t.Fatalf("May of %#v = true", r)
	}
	if l, e := Pack(r); len(l) != 0 || e != api.ErrArg {
		t.Fatalf("Pack of %#v = %#x, %d, want ErrArg", r, l, e)
	}
}

// isNoForm asks that l is no rec's Pack.
func isNoForm(t *testing.T, l []uint64) {
	t.Helper()
	if r, e := Unpack(l); toldRec(r) != toldRec(Rec{}) || e != api.ErrForm {
		t.Fatalf("Unpack of %#x = %#v, %d, want ErrForm", l, r, e)
	}
}

// isAsRuled holds Pack, and Unpack of what it told, against the rule.
func isAsRuled(t *testing.T, r Rec) {
	t.Helper()
	if !mayByRule(r) {
		isNone(t, r)
		return
	}
	isPacked(t, r, packByRule(r))
}

// unpacksAsRuled holds Unpack of any words against the rule; it says whether they are a rec's.
func unpacksAsRuled(t *testing.T, l []uint64) bool {
	t.Helper()
	r, is := unpackByRule(l)
	if !is {
		isNoForm(t, l)
		return false
	}
	isPacked(t, r, l)
	return true
}

// textAsRuled holds Text of any words against the rule; it says whether they are a text's.
func textAsRuled(t *testing.T, l []uint64, n int) bool {
	t.Helper()
	var b []byte
	for _, w := range l {
		b = binary.LittleEndian.AppendUint64(b, w)
	}
	want, is := "", false
	if n >= 0 && n <= len(b) && n > len(b)-8 && strings.Trim(string(b[n:]), "\x00") == "" {
		want, is = string(b[:n]), true
	}
	if s, got := Text(l, n); s != want || got != is {
		t.Fatalf("Text of %#x, %d = %q, %v, want %q, %v", l, n, s, got, want, is)
	}
	return is
}

// letters are n bytes, none of them 0.
func letters(n int) string {
	b := make([]byte, n)
	for i := range b {
		b[i] = byte(1 + i%255)
	}
	return string(b)
}

// P11.3: the chapter's example, and recs with words that were written down by hand.

func TestExample(t *testing.T) {
	isPacked(t, Rec{Parent: -1}, []uint64{0, 0})
}

func TestOnes(t *testing.T) {
	for _, x := range ones() {
		isPacked(t, x.r, x.l)
		if got := packByRule(x.r); !slices.Equal(got, x.l) {
			t.Errorf("the rule packs %#v to %#x, want %#x", x.r, got, x.l)
		}
	}
}

// P11.1: what may be, each part at its edges, the others being whatever may be.

func TestKind(t *testing.T) {
	for _, x := range ones() {
		for _, n := range []int{0, 1, 2, 3} {
			x.r.Kind = n
			isAsRuled(t, x.r)
		}
		for _, n := range []int{math.MinInt, -1 << 32, -4, -3, -2, -1, 4, 5, 6, 7, 1 << 32, math.MaxInt} {
			x.r.Kind = n
			isNone(t, x.r)
		}
	}
}

func TestParent(t *testing.T) {
	for _, x := range ones() {
		for n := -1; n < 60; n++ {
			x.r.Parent = n
			isAsRuled(t, x.r)
		}
		for _, n := range []int{math.MinInt, -1 << 32, -256, -3, -2, 60, 61, 254, 255, 256, 1 << 32, math.MaxInt} {
			x.r.Parent = n
			isNone(t, x.r)
		}
	}
}

func TestName(t *testing.T) {
	for _, x := range ones() {
		for n := range 21 {
			x.r.Name = letters(n)
			isAsRuled(t, x.r)
		}
		for _, n := range []int{21, 22, 31, 32, 33, 52, 64, 600} {
			x.r.Name = letters(n)
			isNone(t, x.r)
		}
	}
}

func TestText(t *testing.T) {
	for _, x := range ones() {
		for n := range 61 {
			x.r.Text = letters(n)
			isAsRuled(t, x.r)
		}
		for _, n := range []int{61, 62, 63, 64, 65, 124, 128, 600} {
			x.r.Text = letters(n)
			isNone(t, x.r)
		}
	}
}

func TestKids(t *testing.T) {
	for _, x := range ones() {
		for _, root := range []uint64{0, 1, 1 << 24, 1 << 63, greatest} {
			for _, n := range []int{0, 1, 2, 4, 127, 128, 199, 200} {
				x.r.Kids = vec.Vec{Root: root, Size: n}
				isAsRuled(t, x.r)
			}
			for _, n := range []int{math.MinInt, -1 << 32, -256, -200, -1, 201, 202, 255, 256, 1 << 32, math.MaxInt} {
				x.r.Kids = vec.Vec{Root: root, Size: n}
				isNone(t, x.r)
			}
		}
	}
}

func TestManyAttrs(t *testing.T) {
	for n := range 40 {
		for _, s := range []string{"", "a", letters(60)} {
			r := Rec{Kind: 1, Name: "a", Attrs: slices.Repeat([]string{s}, n)}
			if n%2 == 0 && n <= 16 {
				isAsRuled(t, r)
			} else {
				isNone(t, r)
			}
		}
	}
	for _, n := range []int{150, 300} {
		isNone(t, Rec{Kind: 1, Attrs: make([]string, n)})
	}
}

// TestLongAttrs has one part of another length than the others are, at each place.
func TestLongAttrs(t *testing.T) {
	for many := 2; many <= 16; many += 2 {
		for at := range many {
			for _, rest := range []string{"", "ab"} {
				r := Rec{Kind: 1, Attrs: slices.Repeat([]string{rest}, many)}
				for _, n := range []int{0, 1, 7, 8, 9, 20, 21, 59, 60} {
					r.Attrs[at] = letters(n)
					isAsRuled(t, r)
				}
				for _, n := range []int{61, 62, 63, 64, 65, 128, 600} {
					r.Attrs[at] = letters(n)
					isNone(t, r)
				}
			}
		}
	}
}

// TestAnyBytes has names and texts that no node has: of those May asks nothing but how many bytes they are.
func TestAnyBytes(t *testing.T) {
	for c := range 256 {
		s := string([]byte{byte(c)})
		for _, text := range []string{s, "a" + s, s + "a", "1234567" + s, "12345678" + s, strings.Repeat(s, 20)} {
			for kind := range 4 {
				isAsRuled(t, Rec{Kind: kind, Parent: -1, Name: text})
				isAsRuled(t, Rec{Kind: kind, Parent: 7, Text: text})
				isAsRuled(t, Rec{Kind: kind, Name: text, Text: text, Attrs: []string{text, text, text, text}})
			}
		}
	}
}

// P11.2: texts as words.

func TestWords(t *testing.T) {
	for _, x := range []struct {
		s string
		l []uint64
	}{
		{"", nil},
		{"\x00", []uint64{0}},
		{"\x01", []uint64{1}},
		{"\xff", []uint64{0xff}},
		{"a", []uint64{0x61}},
		{"ab", []uint64{0x6261}},
		{"abcdefg", []uint64{0x67666564636261}},
		{"abcdefgh", []uint64{0x6867666564636261}},
		{"abcdefghi", []uint64{0x6867666564636261, 0x69}},
		{"\x00\x00\x00\x00\x00\x00\x00\x00", []uint64{0}},
		{"\x00\x00\x00\x00\x00\x00\x00\x00\x00", []uint64{0, 0}},
		{"\x00\x00\x00\x00\x00\x00\x00\x80", []uint64{1 << 63}},
		{"\x00\x00\x00\x00\x00\x00\x00\x00\x01", []uint64{0, 1}},
		{strings.Repeat("\xff", 16), []uint64{greatest, greatest}},
		{strings.Repeat("\xff", 17), []uint64{greatest, greatest, 0xff}},
		{"\u00e9", []uint64{0xa9c3}},
	} {
		if l := Words(x.s); !slices.Equal(l, x.l) {
			t.Errorf("Words of %q = %#x, want %#x", x.s, l, x.l)
		}
		if s, is := Text(x.l, len(x.s)); s != x.s || !is {
			t.Errorf("Text of %#x, %d = %q, %v, want %q", x.l, len(x.s), s, is, x.s)
		}
		if l := wordsByRule(x.s); !slices.Equal(l, x.l) {
			t.Errorf("by the rule the words of %q are %#x, want %#x", x.s, l, x.l)
		}
	}
}

func TestWordsOfAllLengths(t *testing.T) {
	for n := range 601 {
		for _, s := range []string{letters(n), strings.Repeat("\x00", n), strings.Repeat("\xff", n)} {
			l := Words(s)
			if !slices.Equal(l, wordsByRule(s)) {
				t.Fatalf("Words of %q = %#x", s, l)
			}
			if back, is := Text(l, n); back != s || !is {
				t.Fatalf("Text of %#x, %d = %q, %v, want %q", l, n, back, is, s)
			}
		}
	}
}

// TestOtherLengths asks words for texts of all lengths: those whose last bytes are 0 are several texts'.
func TestOtherLengths(t *testing.T) {
	for many := range 10 {
		for _, w := range []uint64{0, 1, 0xff, 1 << 55, 1 << 56, greatest >> 8, greatest} {
			l := slices.Repeat([]uint64{w}, many)
			texts := 0
			for n := -10; n < 100; n++ {
				if textAsRuled(t, l, n) {
					texts++
				}
			}
			want := 1
			if many > 0 {
				want = map[uint64]int{0: 8, 1: 8, 0xff: 8, 1 << 55: 2, greatest >> 8: 2, 1 << 56: 1, greatest: 1}[w]
			}
			if texts != want {
				t.Errorf("%d words %#x are the Words of %d texts, want %d", many, w, texts, want)
			}
			for _, n := range noLengths() {
				if s, is := Text(l, n); s != "" || is {
					t.Errorf("Text of %#x, %d = %q, %v", l, n, s, is)
				}
			}
		}
	}
}

// TestBytesBehind has bytes behind a text that are not 0.
func TestBytesBehind(t *testing.T) {
	for n := range 62 {
		l := Words(letters(n))
		for bit := n % 8 * 8; n%8 != 0 && bit < 64; bit++ {
			off := slices.Clone(l)
			off[len(off)-1] |= 1 << bit
			if s, is := Text(off, n); s != "" || is {
				t.Fatalf("Text of %#x, %d = %q, %v", off, n, s, is)
			}
		}
		// Words behind all of them are other bytes, too, also where they are 0.
		for _, w := range []uint64{0, 1, 1 << 63, greatest} {
			if s, is := Text(append(slices.Clone(l), w), n); s != "" || is {
				t.Fatalf("Text of %#x with %#x behind it, %d = %q, %v", l, w, n, s, is)
			}
		}
	}
}

// P11.3: words that are no rec's.

func TestTooFewOrTooMany(t *testing.T) {
	isNoForm(t, nil)
	isNoForm(t, []uint64{})
	for _, x := range ones() {
		for many := range x.l {
			isNoForm(t, x.l[:many])
		}
		for _, w := range []uint64{0, 1, greatest} {
			isNoForm(t, append(slices.Clone(x.l), w))
			isNoForm(t, append(slices.Clone(x.l), w, w))
			unpacksAsRuled(t, append([]uint64{w}, x.l...))
		}
		// One less, wherever it stood.
		for at := range x.l {
			unpacksAsRuled(t, slices.Delete(slices.Clone(x.l), at, at+1))
		}
	}
	isNoForm(t, make([]uint64, 300))
	isNoForm(t, slices.Repeat([]uint64{greatest}, 300))
}

// TestOneBitOff turns each bit of each word.
func TestOneBitOff(t *testing.T) {
	for _, x := range ones() {
		for at := range x.l {
			for bit := range 64 {
				off := slices.Clone(x.l)
				off[at] ^= 1 << bit
				is := unpacksAsRuled(t, off)
				if at == 0 && bit > 32 && is {
					t.Fatalf("Unpack of %#x: no head has the bit %d", off, bit)
				}
				if at == 1 && !is {
					t.Fatalf("Unpack of %#x: any number may be a Root", off)
				}
			}
		}
	}
}

// TestHeads has heads of all values of each part, with as many words behind them as they tell of.
func TestHeads(t *testing.T) {
	whole := func(head uint64, words ...uint64) []uint64 { return append([]uint64{head, 0}, words...) }
	is := func(want bool, l []uint64) {
		t.Helper()
		if unpacksAsRuled(t, l) != want {
			t.Fatalf("Unpack of %#x: want %v", l, want)
		}
	}
	for n := range uint64(4) {
		is(true, whole(n))
	}
	for n := range uint64(256) {
		is(n <= 60, whole(n<<2))
		is(n <= 200, whole(n<<25))
	}
	for n := range uint64(32) {
		is(n <= 20, whole(n<<10, make([]uint64, (n+7)/8)...))
	}
	for n := range uint64(64) {
		is(n <= 60, whole(n<<15, make([]uint64, (n+7)/8)...))
	}
	for n := range uint64(16) {
		words := []uint64{0, 0}
		if n == 0 {
			words = nil
		}
		is(n <= 8, whole(n<<21, words...))
	}
	for bit := 33; bit < 64; bit++ {
		is(false, whole(1<<bit))
		is(false, whole(1|1<<bit))
	}
}

// TestAttrsLengths has words of the lengths of Attrs with all values at each place, and as many words behind them as they tell of.
func TestAttrsLengths(t *testing.T) {
	for pairs := range uint64(9) {
		for at := range uint64(16) {
			for n := range uint64(64) {
				l := slices.Concat([]uint64{1 | pairs<<21, 0, 0, 0}, make([]uint64, (n+7)/8))
				l[2+at/8] = n << (at % 8 * 6)
				want := pairs > 0 && n <= 60 && (n == 0 || at < 2*pairs)
				if unpacksAsRuled(t, l) != want {
					t.Fatalf("Unpack of %#x: want %v", l, want)
				}
				if n > 0 && at >= 2*pairs {
					isNoForm(t, l[:4])
				}
			}
		}
		for bit := 48; bit < 64; bit++ {
			isNoForm(t, []uint64{1 | pairs<<21, 0, 1 << bit, 0})
			isNoForm(t, []uint64{1 | pairs<<21, 0, 0, 1 << bit})
		}
	}
}

// TestNinePairs has more pairs than there are, with words of lengths, and of texts, for all that a reader might want.
func TestNinePairs(t *testing.T) {
	for pairs := uint64(9); pairs < 16; pairs++ {
		for many := range 60 {
			for _, w := range []uint64{0, 1, 0o010101010101, greatest} {
				isNoForm(t, append([]uint64{1 | pairs<<21, 0}, slices.Repeat([]uint64{w}, many)...))
			}
		}
	}
}

// TestOrder has parts that can be told from each other, wherever they stand.
func TestOrder(t *testing.T) {
	r := Rec{Kind: 1, Parent: 4, Name: "NAME", Text: "TEXT", Kids: vec.Vec{Root: 99, Size: 3}}
	want := []uint64{1 | 5<<2 | 4<<10 | 4<<15 | 8<<21 | 3<<25, 99, 0, 0, 0x454d414e, 0x54584554}
	for i := range uint64(16) {
		r.Attrs = append(r.Attrs, strings.Repeat(string(rune('a'+i)), int(i%8+1)))
		want[2+i/8] += (i%8 + 1) << (i % 8 * 6)
		w := uint64(0)
		for range i%8 + 1 {
			w = w<<8 + 'a' + i
		}
		want = append(want, w)
	}
	isPacked(t, r, want)
}

// TestAllSmallHeads has all heads of the lowest bits, with few words behind them.
func TestAllSmallHeads(t *testing.T) {
	many := 0
	for head := range uint64(1 << 17) {
		for words := range 3 {
			if unpacksAsRuled(t, append([]uint64{head, 7}, make([]uint64, words)...)) {
				many++
			}
		}
	}
	// Of 61 Parents each has 4 kinds; Names of 0 to 16 bytes, Texts of 0 to 3, in two words at most.
	if want := 4 * 61 * (17*4 - 8*3); many != want {
		t.Errorf("%d heads are those of recs, want %d", many, want)
	}
}

// P11.4, of recs and words by a rule of chance that is the same each time.

// dice tell numbers that look like chance.
type dice struct{ state uint64 }

func (d *dice) next() uint64 {
	d.state = d.state*6364136223846793005 + 1442695040888963407
	return d.state ^ d.state>>29
}

func (d *dice) roll(n int) int { return int(d.next() >> 20 % uint64(n)) }

func (d *dice) text(most int) string {
	b := make([]byte, d.roll(most+1))
	for i := range b {
		b[i] = byte(d.roll(256)) * byte(d.roll(2))
	}
	return string(b)
}

func thrown(d *dice) Rec {
	r := Rec{Kind: d.roll(4), Parent: d.roll(61) - 1, Name: d.text(20), Text: d.text(60), Kids: vec.Vec{Root: d.next(), Size: d.roll(201)}}
	for range 2 * d.roll(9) {
		r.Attrs = append(r.Attrs, d.text(60))
	}
	return r
}

func TestThrown(t *testing.T) {
	d := &dice{1}
	for range 5000 {
		r := thrown(d)
		isAsRuled(t, r)
		l := packByRule(r)
		for range 5 {
			off := slices.Clone(l)
			off[d.roll(len(off))] ^= 1 << d.roll(64)
			unpacksAsRuled(t, off)
		}
		at := d.roll(len(l) + 1)
		unpacksAsRuled(t, slices.Concat(l[:at], []uint64{d.next() >> d.roll(64)}, l[at:]))
	}
}

// TestTwoAreTwo holds recs against each other: those that differ have other words.
func TestTwoAreTwo(t *testing.T) {
	d := &dice{2}
	packed := map[string]string{}
	for _, x := range ones() {
		packed[told(x.l)] = toldRec(x.r)
	}
	for range 2000 {
		r := Rec{Kind: d.roll(2), Parent: d.roll(3) - 1, Name: d.text(2), Text: d.text(2), Kids: vec.Vec{Size: d.roll(2)}}
		for range 2 * d.roll(3) {
			r.Attrs = append(r.Attrs, d.text(1))
		}
		l, e := Pack(r)
		if e != api.OK {
			t.Fatalf("Pack of %#v: %d", r, e)
		}
		if was, is := packed[told(l)]; is && was != toldRec(r) {
			t.Fatalf("%s and %s are both packed to %#x", was, toldRec(r), l)
		}
		packed[told(l)] = toldRec(r)
	}
}

// The rules: what is handed in stays, what was answered is nobody else's, and lists without elements are alike.

// roomy is l with room behind it, that must not be written to either.
func roomy[T any](l []T, fill T) []T {
	big := make([]T, len(l)+8)
	for i := range big[copy(big, l):] {
		big[len(l)+i] = fill
	}
	return big[:len(l)]
}

func TestAllStays(t *testing.T) {
	for _, x := range ones() {
		r := x.r
		r.Attrs = roomy(x.r.Attrs, "behind")
		attrs := told(r.Attrs[:cap(r.Attrs)])
		l := roomy(x.l, 12345)
		words := told(l[:cap(l)])
		May(r)
		Pack(r)
		Unpack(l)
		Unpack(l[:len(l)-1])
		for n := -1; n < 70; n++ {
			Text(l, n)
		}
		if toldRec(r) != toldRec(x.r) || told(r.Attrs[:cap(r.Attrs)]) != attrs {
			t.Errorf("a rec was %#v, and is %#v", x.r, r)
		}
		if told(l[:cap(l)]) != words {
			t.Errorf("words were %#x, and are %#x", x.l, l)
		}
	}
}

func TestAnswersShareNothing(t *testing.T) {
	for _, x := range ones() {
		words, _ := Pack(x.r)
		for i := range words[:cap(words)] {
			words[:cap(words)][i] = 99
		}
		texts := Words(x.r.Text)
		for i := range texts[:cap(texts)] {
			texts[:cap(texts)][i] = 99
		}
		l := slices.Clone(x.l)
		r, _ := Unpack(l)
		for i := range r.Attrs[:cap(r.Attrs)] {
			r.Attrs[:cap(r.Attrs)][i] = "scribbled"
		}
		isPacked(t, x.r, x.l)
		r, _ = Unpack(l)
		for i := range l {
			l[i] = 99
		}
		if toldRec(r) != toldRec(x.r) {
			t.Errorf("a rec was %#v, and is %#v", x.r, r)
		}
	}
}

func TestEmptyListsAreAlike(t *testing.T) {
	for _, attrs := range [][]string{nil, {}, make([]string, 0, 4)} {
		isPacked(t, Rec{Parent: -1, Attrs: attrs}, []uint64{0, 0})
	}
	for _, l := range [][]uint64{nil, {}, make([]uint64, 0, 4)} {
		if s, is := Text(l, 0); s != "" || !is {
			t.Errorf("Text of %#v, 0 = %q, %v", l, s, is)
		}
		if s, is := Text(l, 1); s != "" || is {
			t.Errorf("Text of %#v, 1 = %q, %v", l, s, is)
		}
		isNoForm(t, l)
	}
}

// wordsOf are bytes, eight a word; the last ones may be fewer.
func wordsOf(b []byte) []uint64 {
	var l []uint64
	for piece := range slices.Chunk(b, 8) {
		var eight [8]byte
		copy(eight[:], piece)
		l = append(l, binary.LittleEndian.Uint64(eight[:]))
	}
	return l
}

func FuzzUnpack(f *testing.F) {
	for _, x := range ones() {
		var b []byte
		for _, w := range x.l {
			b = binary.LittleEndian.AppendUint64(b, w)
		}
		f.Add(b, len(x.l)*8)
	}
	f.Fuzz(func(t *testing.T, b []byte, n int) {
		l := wordsOf(b)
		unpacksAsRuled(t, l)
		textAsRuled(t, l, n)
	})
}

func FuzzPack(f *testing.F) {
	f.Add(1, 4, "name", "text", "id,k,class,", 1, uint64(7))
	f.Add(0, -1, "", "", "", 0, uint64(0))
	f.Add(3, 59, "", letters(60), ",,,", 200, uint64(greatest))
	f.Fuzz(func(t *testing.T, kind, parent int, name, text, attrs string, size int, root uint64) {
		r := Rec{Kind: kind, Parent: parent, Name: name, Text: text, Kids: vec.Vec{Root: root, Size: size}}
		if attrs != "" {
			r.Attrs = strings.Split(attrs, ",")
		}
		isAsRuled(t, r)
		if l := Words(text); !slices.Equal(l, wordsByRule(text)) || !textAsRuled(t, l, len(text)) {
			t.Fatalf("Words of %q = %#x", text, l)
		}
	})
}

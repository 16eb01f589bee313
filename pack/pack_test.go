package pack

import (
	"math"
	"math/big"
	"strings"
	"testing"
)

const (
	lastIndex = 1<<24 - 1
	lastGen   = 1<<40 - 1
)

// someNumbers are those at which carries, signs and lengths change: each power of 2, what is beside it, and its opposite.
func someNumbers() []uint64 {
	l := []uint64{0, 0x0102030405060708, 0xfedcba9876543210, 0xaaaaaaaaaaaaaaaa, 0x5555555555555555}
	for i := range 64 {
		p := uint64(1) << i
		l = append(l, p-1, p, p+1, -p-1, -p, -p+1)
	}
	return l
}

// mustPanicNot is for R1: a call that panics fails the test with its argument.
func mustPanicNot(t *testing.T, what any) {
	if r := recover(); r != nil {
		t.Fatalf("%v: %v", what, r)
	}
}

// P1.1
func TestOf(t *testing.T) {
	for _, x := range []struct {
		index int
		gen   uint64
		h     uint64
		is    bool
	}{
		{0, 0, 0, true},
		{1, 0, 1, true},
		{0, 1, 1 << 24, true},
		{5, 3, 3<<24 | 5, true},
		{0x123456, 0x789abcdef0, 0x789abcdef0123456, true},
		{lastIndex, 0, lastIndex, true},
		{0, lastGen, lastGen << 24, true},
		{lastIndex, lastGen, math.MaxUint64, true},
		{-1, 0, 0, false},
		{-1, 7, 0, false},
		{math.MinInt, 0, 0, false},
		{lastIndex + 1, 0, 0, false},
		{lastIndex + 1, 7, 0, false},
		{math.MaxInt, 7, 0, false},
		{1 << 32, 7, 0, false},
		{0, lastGen + 1, 0, false},
		{7, lastGen + 1, 0, false},
		{7, 1<<41 + 5, 0, false},
		{7, math.MaxUint64, 0, false},
		{-1, math.MaxUint64, 0, false},
		{math.MinInt, lastGen + 1, 0, false},
	} {
		if h, is := Of(x.index, x.gen); h != x.h || is != x.is {
			t.Errorf("Of(%d, %d) = %#x, %v, want %#x, %v", x.index, x.gen, h, is, x.h, x.is)
		}
	}
}

// P1.1
func TestParts(t *testing.T) {
	for _, x := range []struct {
		h     uint64
		index int
		gen   uint64
	}{
		{0, 0, 0},
		{3<<24 | 5, 5, 3},
		{0x789abcdef0123456, 0x123456, 0x789abcdef0},
		{lastIndex, lastIndex, 0},
		{lastGen << 24, 0, lastGen},
		{1 << 63, 0, 1 << 39},
		{math.MaxUint64, lastIndex, lastGen},
	} {
		if Index(x.h) != x.index || Gen(x.h) != x.gen {
			t.Errorf("%#x: index %#x, gen %#x, want %#x, %#x", x.h, Index(x.h), Gen(x.h), x.index, x.gen)
		}
	}
}

// P1.1
func TestNext(t *testing.T) {
	for _, x := range []struct{ h, want uint64 }{
		{0, 1 << 24},
		{3<<24 | 5, 4<<24 | 5},
		{lastIndex, 1<<24 | lastIndex},
		{(lastGen-1)<<24 | 9, lastGen<<24 | 9},
		{lastGen << 24, 0},
		{lastGen<<24 | 9, 9},
		{math.MaxUint64, lastIndex},
	} {
		if h := Next(x.h); h != x.want {
			t.Errorf("Next(%#x) = %#x, want %#x", x.h, h, x.want)
		}
	}
}

// P1.2
func TestZig(t *testing.T) {
	for n, u := range map[int64]uint64{
		0: 0, -1: 1, 1: 2, -2: 3, 2: 4, -3: 5, 3: 6,
		math.MaxInt32:     1<<32 - 2,
		math.MinInt32:     1<<32 - 1,
		1 << 62:           1 << 63,
		-1 << 62:          1<<63 - 1,
		math.MaxInt64:     math.MaxUint64 - 1,
		math.MinInt64 + 1: math.MaxUint64 - 2,
		math.MinInt64:     math.MaxUint64,
	} {
		if got := Zig(n); got != u {
			t.Errorf("Zig(%d) = %d, want %d", n, got, u)
		}
		if got := Zag(u); got != n {
			t.Errorf("Zag(%d) = %d, want %d", u, got, n)
		}
	}
}

// P1.2
func TestZigByItsRule(t *testing.T) {
	for _, u := range someNumbers() {
		n := int64(u)
		want := new(big.Int).Mul(big.NewInt(2), big.NewInt(n))
		if n < 0 {
			want.Neg(want).Sub(want, big.NewInt(1))
		}
		if !want.IsUint64() || Zig(n) != want.Uint64() {
			t.Errorf("Zig(%d) = %d, want %s", n, Zig(n), want)
		}
	}
}

// P1.3
func TestNarrow(t *testing.T) {
	for _, x := range []struct {
		n    int64
		bits int
		want int64
	}{
		{0, 8, 0}, {-1, 8, -1}, {127, 8, 127}, {128, 8, -128}, {-128, 8, -128}, {-129, 8, 127}, {255, 8, -1}, {256, 8, 0},
		{math.MaxInt64, 8, -1}, {math.MinInt64, 8, 0},
		{0, 16, 0}, {-1, 16, -1}, {32767, 16, 32767}, {32768, 16, -32768}, {-32768, 16, -32768}, {-32769, 16, 32767}, {40000, 16, -25536}, {65536, 16, 0},
		{math.MaxInt64, 16, -1}, {math.MinInt64, 16, 0},
		{0, 32, 0}, {-1, 32, -1}, {1<<31 - 1, 32, 1<<31 - 1}, {1 << 31, 32, -1 << 31}, {-1 << 31, 32, -1 << 31}, {-1<<31 - 1, 32, 1<<31 - 1}, {1<<32 + 7, 32, 7},
		{math.MaxInt64, 32, -1}, {math.MinInt64, 32, 0},
	} {
		if n := Narrow(x.n, x.bits); n != x.want {
			t.Errorf("Narrow(%d, %d) = %d, want %d", x.n, x.bits, n, x.want)
		}
	}
}

// P1.3
func TestNarrowByItsRule(t *testing.T) {
	for _, bits := range []int{8, 16, 32} {
		for _, u := range someNumbers() {
			n := int64(u)
			got := Narrow(n, bits)
			end := int64(1) << (bits - 1)
			if got < -end || got >= end || uint64(n-got)%(1<<bits) != 0 {
				t.Errorf("Narrow(%d, %d) = %d", n, bits, got)
			}
		}
	}
}

// P1.3
func TestNarrowToOtherBits(t *testing.T) {
	for _, bits := range []int{math.MinInt, -32, -8, -1, 0, 1, 7, 9, 15, 17, 24, 31, 33, 63, 64, 128, 1<<32 + 8, math.MaxInt} {
		for _, n := range []int64{0, 300, -300, 70000, 1 << 40, math.MaxInt64, math.MinInt64} {
			if got := Narrow(n, bits); got != n {
				t.Errorf("Narrow(%d, %d) = %d", n, bits, got)
			}
		}
	}
}

// P1.4
func TestDigit(t *testing.T) {
	for _, x := range []struct {
		i           uint32
		level, want int
	}{
		{27, 0, 3}, {27, 1, 2}, {27, 2, 1}, {27, 3, 0}, {27, 15, 0},
		{0, 0, 0}, {0, 15, 0},
		{1 << 30, 15, 1}, {1 << 31, 15, 2}, {1 << 30, 14, 0},
		{math.MaxUint32, 0, 3}, {math.MaxUint32, 15, 3},
		{math.MaxUint32, -1, 0}, {math.MaxUint32, 16, 0}, {math.MaxUint32, 32, 0}, {math.MaxUint32, -16, 0},
		{math.MaxUint32, math.MaxInt, 0}, {math.MaxUint32, math.MinInt, 0}, {math.MaxUint32, 1 << 32, 0}, {math.MaxUint32, 1 << 62, 0}, {math.MaxUint32, -1 << 63, 0},
	} {
		if d := Digit(x.i, x.level); d != x.want {
			t.Errorf("Digit(%d, %d) = %d, want %d", x.i, x.level, d, x.want)
		}
	}
}

// P1.4
func TestDigitsMakeTheNumber(t *testing.T) {
	for _, u := range someNumbers() {
		i := uint32(u)
		sum := uint64(0)
		for level := 15; level >= 0; level-- {
			d := Digit(i, level)
			if d < 0 || d > 3 {
				t.Fatalf("Digit(%d, %d) = %d", i, level, d)
			}
			sum = 4*sum + uint64(d)
		}
		if sum != uint64(i) {
			t.Errorf("the digits of %d make %d", i, sum)
		}
	}
}

// P1.4
func TestLevels(t *testing.T) {
	for n, want := range map[int]int{
		math.MinInt: 0, -5: 0, -1: 0, 0: 0, 1: 0, 2: 1, 3: 1, 4: 1, 5: 2, 16: 2, 17: 3, 64: 3, 65: 4, 200: 4, 256: 4, 257: 5,
		1<<62 - 1: 31, 1 << 62: 31, 1<<62 + 1: 32, math.MaxInt: 32,
	} {
		if k := Levels(n); k != want {
			t.Errorf("Levels(%d) = %d, want %d", n, k, want)
		}
	}
}

// P1.4
func TestLevelsIsLeast(t *testing.T) {
	for _, u := range someNumbers() {
		n := int(u)
		k := Levels(n)
		if n < 2 {
			if k != 0 {
				t.Errorf("Levels(%d) = %d", n, k)
			}
			continue
		}
		if k < 1 || k > 32 || k < 32 && uint64(1)<<(2*k) < uint64(n) || uint64(1)<<(2*(k-1)) >= uint64(n) {
			t.Errorf("Levels(%d) = %d", n, k)
		}
	}
}

// P1.5
func TestBytes(t *testing.T) {
	for u, want := range map[uint64]string{
		0:                  "\x00",
		1:                  "\x01\x01",
		5:                  "\x01\x05",
		255:                "\x01\xff",
		256:                "\x02\x00\x01",
		258:                "\x02\x02\x01",
		65535:              "\x02\xff\xff",
		65536:              "\x03\x00\x00\x01",
		0x010203:           "\x03\x03\x02\x01",
		0x01020304:         "\x04\x04\x03\x02\x01",
		0x0102030405:       "\x05\x05\x04\x03\x02\x01",
		0x010203040506:     "\x06\x06\x05\x04\x03\x02\x01",
		0x01020304050607:   "\x07\x07\x06\x05\x04\x03\x02\x01",
		0x0102030405060708: "\x08\x08\x07\x06\x05\x04\x03\x02\x01",
		1<<56 - 1:          "\x07\xff\xff\xff\xff\xff\xff\xff",
		1 << 56:            "\x08\x00\x00\x00\x00\x00\x00\x00\x01",
		math.MaxUint64:     "\x08\xff\xff\xff\xff\xff\xff\xff\xff",
	} {
		if s := Bytes(u); s != want {
			t.Errorf("Bytes(%#x) = %q, want %q", u, s, want)
		}
		if v, is := Back(want); v != u || !is {
			t.Errorf("Back(%q) = %#x, %v, want %#x", want, v, is, u)
		}
	}
}

// P1.5
func TestBackOfNoNumber(t *testing.T) {
	wrong := []string{
		"",
		"\x01", "\x02\x05", "\x08\x01\x01\x01\x01\x01\x01\x01", // too few
		"\x00\x00", "\x00\x01", "\x01\x01\x01", "\x08\x01\x01\x01\x01\x01\x01\x01\x01\x01", // too many
		"\x01\x00", "\x02\x01\x00", "\x08\x01\x01\x01\x01\x01\x01\x01\x00", "\x08\x00\x00\x00\x00\x00\x00\x00\x00", // more than are needed
		"\x09\x01\x01\x01\x01\x01\x01\x01\x01\x01", "\x09\x01\x01\x01\x01\x01\x01\x01\x01\x00", "\x09", // more than a number has
		"\xff" + strings.Repeat("\x01", 255), "\x80" + strings.Repeat("\x01", 128), "\xff", "\xffabc",
		"5", "abc", "\u00e9", strings.Repeat("\x01", 600),
	}
	for _, s := range wrong {
		if u, is := Back(s); u != 0 || is {
			t.Errorf("Back(%q) = %d, %v", s, u, is)
		}
	}
}

// P1.5: whatever the first byte says, it has to be how many follow, at most 8, and the last of them is needed.
func TestBackTakesOnlyBytes(t *testing.T) {
	for first := range 256 {
		for many := range 12 {
			for _, last := range []string{"\x00", "\x01", "\x7f", "\x80", "\xff"} {
				s := string([]byte{byte(first)})
				if many > 0 {
					s += strings.Repeat("\x02", many-1) + last
				}
				want := first == many && many <= 8 && (many == 0 || last != "\x00")
				u, is := Back(s)
				if is != want || is && Bytes(u) != s || !is && u != 0 {
					t.Fatalf("Back(%q) = %d, %v", s, u, is)
				}
			}
		}
	}
}

// P1.6: handles come back, from their parts and to them.
func TestHandlesComeBack(t *testing.T) {
	for _, u := range someNumbers() {
		if h, is := Of(Index(u), Gen(u)); h != u || !is {
			t.Errorf("%#x came back as %#x, %v", u, h, is)
		}
		index, gen := int(u%(1<<24)), u>>7%(1<<40)
		h, is := Of(index, gen)
		if !is || Index(h) != index || Gen(h) != gen {
			t.Errorf("index %#x, gen %#x came back as %#x, %#x, %v", index, gen, Index(h), Gen(h), is)
		}
		if n := Next(u); Index(n) != Index(u) || Gen(n) != (Gen(u)+1)%(1<<40) {
			t.Errorf("Next(%#x) = %#x", u, n)
		}
	}
}

// P1.6: numbers come back, through Zig and through Zag.
func TestNumbersComeBack(t *testing.T) {
	for _, u := range someNumbers() {
		if n := Zag(Zig(int64(u))); n != int64(u) {
			t.Errorf("%d came back as %d", int64(u), n)
		}
		if v := Zig(Zag(u)); v != u {
			t.Errorf("%d came back as %d", u, v)
		}
	}
}

// P1.6: bytes come back, and are as few as can be.
func TestBytesComeBack(t *testing.T) {
	for _, u := range someNumbers() {
		s := Bytes(u)
		if v, is := Back(s); v != u || !is {
			t.Errorf("%d came back as %d, %v", u, v, is)
		}
		if many := len(new(big.Int).SetUint64(u).Bytes()); len(s) != 1+many || int(s[0]) != many {
			t.Errorf("Bytes(%d) = %q", u, s)
		}
	}
}

// FuzzBack holds P1.5, P1.6 and R1 against any text.
func FuzzBack(f *testing.F) {
	for _, s := range []string{"", "\x00", "\x01\x05", "\x02\x02\x01", "\x01\x00", "\xff"} {
		f.Add(s)
	}
	f.Fuzz(func(t *testing.T, s string) {
		defer mustPanicNot(t, s)
		u, is := Back(s)
		if is && Bytes(u) != s || !is && u != 0 {
			t.Errorf("Back(%q) = %d, %v", s, u, is)
		}
	})
}

package crc

import (
	"hash/crc32"
	"math/rand"
	"strings"
	"testing"
	"unsafe"
)

// someTexts has texts of all lengths up to 70, and some that are longer.
func someTexts() []string {
	r := rand.New(rand.NewSource(1))
	l := []string{"a", "123456789", "\x00", "\x00\x00\x00\x00", "\xff", "\xff\xff\xff\xff", "\xc3\x28\x80", strings.Repeat("\x00", 1000), strings.Repeat("\xff", 1000)}
	for n := range 71 {
		l = append(l, randomText(r, n))
	}
	for _, n := range []int{255, 256, 257, 4096, 100000} {
		l = append(l, randomText(r, n))
	}
	return l
}

func randomText(r *rand.Rand, n int) string {
	b := make([]byte, n)
	r.Read(b)
	return string(b)
}

// noTexts has texts without a byte, each made in another way.
func noTexts() []string {
	var none []byte
	return []string{"", string(none), string([]byte{}), "ab"[1:1]}
}

// turned tells s with the bit turned that stands at at.
func turned(s string, at int) string {
	b := []byte(s)
	b[at/8] ^= 1 << (at % 8)
	return string(b)
}

// together tells the bytes of texts of one length, turned together.
func together(l ...string) string {
	b := make([]byte, len(l[0]))
	for _, s := range l {
		for i := range b {
			b[i] ^= s[i]
		}
	}
	return string(b)
}

// stepByStep does what P2.1 says of Add, in its words.
func stepByStep(c uint32, b byte) uint32 {
	for bit := range 8 {
		if b>>bit&1 == 1 {
			c ^= 1 << bit
		}
	}
	for range 8 {
		lowest := c % 2
		c /= 2
		if lowest == 1 {
			c ^= 0xedb88320
		}
	}
	return c
}

// P2.1
func TestAdd(t *testing.T) {
	for _, c := range []struct {
		c    uint32
		b    byte
		want uint32
	}{
		{0, 0, 0},
		{0, 1, 0x77073096},
		{0, 0x80, 0xedb88320},
		{0, 0xff, 0x2d02ef8d},
		{1, 0, 0x77073096},
		{1, 1, 0},
		{0xff, 0xff, 0},
		{0x80, 0x81, 0x77073096},
		{0x100, 0, 1},
		{0x100, 1, 0x77073097},
		{0xffffff00, 0, 0x00ffffff},
		{0xffffffff, 0xff, 0x00ffffff},
		{0xffffffff, 0, 0x2dfd1072},
		{0x80000000, 0, 0x00800000},
	} {
		if got := Add(c.c, c.b); got != c.want {
			t.Errorf("Add(%#x, %#x): %#x, not %#x", c.c, c.b, got, c.want)
		}
	}
}

// P2.1: of each byte, and of sums of all kinds.
func TestAddStepByStep(t *testing.T) {
	r := rand.New(rand.NewSource(2))
	sums := []uint32{0, 1, 0x7f, 0x80, 0xff, 0x100, 0xedb88320, 0x7fffffff, 0x80000000, 0xffffffff}
	for range 200 {
		sums = append(sums, r.Uint32())
	}
	for _, c := range sums {
		for b := range 256 {
			got, want := Add(c, byte(b)), stepByStep(c, byte(b))
			if got != want {
				t.Fatalf("Add(%#x, %#x): %#x, not %#x", c, b, got, want)
			}
			if other := crc32.IEEETable[byte(c)^byte(b)] ^ c>>8; got != other {
				t.Fatalf("Add(%#x, %#x): %#x, not %#x", c, b, got, other)
			}
		}
	}
}

// P2.1: also of texts that are empty, or hold bytes that are no letters.
func TestSum(t *testing.T) {
	for _, c := range []struct {
		s    string
		want uint32
	}{
		{"", 0},
		{"123456789", 0xcbf43926},
		{"a", 0xe8b7be43},
		{"abc", 0x352441c2},
		{"\x00", 0xd202ef8d},
		{"\x00\x00\x00\x00", 0x2144df1c},
		{"\xff", 0xff000000},
		{"\xff\xff\xff\xff", 0xffffffff},
		{"\x80", 0x3fba6cad},
		{"The quick brown fox jumps over the lazy dog", 0x414fa339},
	} {
		if got := Sum(c.s); got != c.want {
			t.Errorf("Sum(%q): %#x, not %#x", c.s, got, c.want)
		}
	}
	for _, s := range noTexts() {
		if got := Sum(s); got != 0 {
			t.Errorf("Sum of no byte: %#x", got)
		}
	}
}

// P2.1: byte by byte, not rune by rune, on Add.
func TestSumIsOnAdd(t *testing.T) {
	for _, s := range someTexts() {
		c := uint32(0xffffffff)
		for _, b := range []byte(s) {
			c = stepByStep(c, b)
		}
		if got := Sum(s); got != ^c || got != crc32.ChecksumIEEE([]byte(s)) {
			t.Errorf("Sum of %d bytes: %#x, not %#x", len(s), got, ^c)
		}
	}
}

// P2.2: the lowest byte of the sum is the first one.
func TestSeal(t *testing.T) {
	for _, c := range []struct{ s, want string }{
		{"", "\x00\x00\x00\x00"},
		{"123456789", "123456789\x26\x39\xf4\xcb"},
		{"a", "a\x43\xbe\xb7\xe8"},
		{"\xff", "\xff\x00\x00\x00\xff"},
		{"\x00\x00\x00\x00", "\x00\x00\x00\x00\x1c\xdf\x44\x21"},
		{"\xff\xff\xff\xff", "\xff\xff\xff\xff\xff\xff\xff\xff"},
	} {
		if got := Seal(c.s); got != c.want {
			t.Errorf("Seal(%q): %q, not %q", c.s, got, c.want)
		}
	}
	for _, s := range noTexts() {
		if got := Seal(s); got != "\x00\x00\x00\x00" {
			t.Errorf("Seal of no byte: %q", got)
		}
	}
}

// P2.2
func TestWhatIsSealedIsOpened(t *testing.T) {
	for _, s := range append(someTexts(), noTexts()...) {
		if got, ok := Open(Seal(s)); got != s || !ok {
			t.Errorf("of %d bytes sealed: %d bytes, %v", len(s), len(got), ok)
		}
		if got, ok := Open(Seal(Seal(s))); got != Seal(s) || !ok {
			t.Errorf("of %d bytes sealed twice: %d bytes, %v", len(s), len(got), ok)
		}
	}
}

func staysShut(t *testing.T, s string) {
	t.Helper()
	if got, ok := Open(s); got != "" || ok {
		t.Errorf("Open(%q): %q, %v", s, got, ok)
	}
}

// P2.2: what is too short for a sum, has another one, or has it the other way round.
func TestOpenOfWhatWasNotSealed(t *testing.T) {
	for _, s := range noTexts() {
		staysShut(t, s)
	}
	for _, s := range []string{
		"\x00", "\x00\x00", "\x00\x00\x00", "abc", "\xff\xff\xff",
		"\x00\x00\x00\x01", "\x01\x00\x00\x00", "\xff\xff\xff\xff", "abcd",
		"\x00\x00\x00\x00\x00",
		"123456789\xcb\xf4\x39\x26", "\x26\x39\xf4\xcb123456789",
		"123456789\xd9\xc6\x0b\x34",
		"123456789\x26\x39\xf4", "23456789\x26\x39\xf4\xcb",
		"123456789\x26\x39\xf4\xcb\x00", "\x00123456789\x26\x39\xf4\xcb",
		"123456789cbf43926", "123456789",
	} {
		staysShut(t, s)
	}
}

// P2.2, P2.3: a seal with any bit turned, in the text or in the sum, is none.
func TestOpenOfTurnedBits(t *testing.T) {
	for _, s := range []string{"", "a", "\x00\x00\x00", "123456789", strings.Repeat("\x00", 40), strings.Repeat("ab", 128)} {
		sealed := Seal(s)
		for at := range 8 * len(sealed) {
			staysShut(t, turned(sealed, at))
		}
		staysShut(t, sealed[:len(sealed)-1])
		staysShut(t, sealed+"\x01")
	}
}

// P2.3: of one bit.
func TestATurnedBitTurnsTheSum(t *testing.T) {
	for _, s := range someTexts() {
		if len(s) > 300 {
			continue
		}
		for at := range 8 * len(s) {
			if Sum(turned(s, at)) == Sum(s) {
				t.Fatalf("of %d bytes: with bit %d turned the sum is the same", len(s), at)
			}
		}
	}
}

// P2.3: of four bytes that stand together, wherever they stand.
func TestFourTurnedBytesTurnTheSum(t *testing.T) {
	r := rand.New(rand.NewSource(3))
	turns := []string{"\x01\x00\x00\x00", "\x00\x00\x00\x80", "\xff\xff\xff\xff", "\x01\x00\x00\x80", "\x00\xff\xff\x00", "\x20\x83\xb8\xed", "\xed\xb8\x83\x20"}
	for range 60 {
		turns = append(turns, randomText(r, 4))
	}
	for _, n := range []int{4, 5, 7, 32, 61, 256} {
		s := randomText(r, n)
		for at := range n - 3 {
			for _, x := range turns {
				other := s[:at] + together(s[at:at+4], x) + s[at+4:]
				if other != s && Sum(other) == Sum(s) {
					t.Fatalf("of %d bytes: with %q turned at %d the sum is the same", n, x, at)
				}
			}
		}
	}
}

// P2.3: sums of three texts of one length, turned together.
func TestThreeSumsTogether(t *testing.T) {
	r := rand.New(rand.NewSource(4))
	for n := range 300 {
		a, b, c := randomText(r, n), randomText(r, n), randomText(r, n)
		if Sum(a)^Sum(b)^Sum(c) != Sum(together(a, b, c)) {
			t.Errorf("of three texts of %d bytes the sums don't fit", n)
		}
		if Sum(a)^Sum(a)^Sum(b) != Sum(together(a, a, b)) {
			t.Errorf("of two texts of %d bytes, one of them twice, the sums don't fit", n)
		}
	}
}

func within(part, whole string) bool {
	p, w := uintptr(unsafe.Pointer(unsafe.StringData(part))), uintptr(unsafe.Pointer(unsafe.StringData(whole)))
	return w <= p && p < w+uintptr(len(whole))
}

// R4: an answer has its own memory.
func TestAnswersShareNoMemory(t *testing.T) {
	for _, n := range []int{1, 4, 31, 256, 5000} {
		s := strings.Repeat("x", n)
		sealed := Seal(s)
		opened, _ := Open(sealed)
		if within(sealed, s) || within(s, sealed) {
			t.Errorf("what seals %d bytes has their memory", n)
		}
		if within(opened, sealed) {
			t.Errorf("%d opened bytes lie in what was opened", n)
		}
	}
}

package bits

import (
	"math"
	"math/rand"
	"slices"
	"strings"
	"testing"
	"unsafe"

	"ossuary/bittext"
)

// noBits has lists without a bit, each made in another way.
func noBits() [][]bool {
	return [][]bool{nil, {}, bittext.Bits("1")[:0], make([]bool, 0, 40)}
}

func randomBits(r *rand.Rand, n int) []bool {
	b := make([]bool, n)
	for i := range b {
		b[i] = r.Intn(2) == 1
	}
	return b
}

func checkPut(t *testing.T, b []bool, n, width int, want string) {
	t.Helper()
	got, ok := Put(b, n, width)
	if bittext.Text(got) != want || !ok {
		t.Errorf("Put(%s, %d, %d): %s, %v, not %s", bittext.Text(b), n, width, bittext.Text(got), ok, want)
	}
}

// P3.1
func TestPut(t *testing.T) {
	for _, c := range []struct {
		b        string
		n, width int
		want     string
	}{
		{"", 5, 4, "0101"},
		{"1", 5, 4, "10101"},
		{"0", 5, 3, "0101"},
		{"110", 0, 1, "1100"},
		{"110", 1, 1, "1101"},
		{"", 0, 0, ""},
		{"101", 0, 0, "101"},
		{"", 2, 2, "10"},
		{"", 1, 2, "01"},
		{"", 0, 30, strings.Repeat("0", 30)},
		{"", 1<<30 - 1, 30, strings.Repeat("1", 30)},
		{"1", 1 << 29, 30, "11" + strings.Repeat("0", 29)},
		{"1", 1, 30, "1" + strings.Repeat("0", 29) + "1"},
		{"11111111", 0xa5, 8, "1111111110100101"},
	} {
		checkPut(t, bittext.Bits(c.b), c.n, c.width, c.want)
	}
	for _, none := range noBits() {
		checkPut(t, none, 6, 3, "110")
		checkPut(t, none, 0, 0, "")
	}
}

// P3.1: the least and the greatest number of each width, and those beside them.
func TestPutOfEachWidth(t *testing.T) {
	for width := range 31 {
		checkPut(t, bittext.Bits("10"), 0, width, "10"+strings.Repeat("0", width))
		checkPut(t, bittext.Bits("10"), 1<<width-1, width, "10"+strings.Repeat("1", width))
		putsNothing(t, bittext.Bits("10"), 1<<width, width)
		putsNothing(t, bittext.Bits("10"), -1, width)
		putsNothing(t, nil, -1<<width, width)
		putsNothing(t, nil, math.MinInt, width)
		putsNothing(t, nil, math.MaxInt, width)
		putsNothing(t, nil, 1<<32, width)
	}
}

func putsNothing(t *testing.T, b []bool, n, width int) {
	t.Helper()
	if got, ok := Put(b, n, width); len(got) != 0 || ok {
		t.Errorf("Put(%s, %d, %d): %s, %v", bittext.Text(b), n, width, bittext.Text(got), ok)
	}
}

// P3.1
func TestPutOfWrongWidths(t *testing.T) {
	for _, width := range []int{-1, 31, 32, 62, 63, 64, 65, -64, math.MinInt, math.MaxInt} {
		for _, n := range []int{0, 1, -1, 1 << 30, math.MaxInt, math.MinInt} {
			putsNothing(t, bittext.Bits("1"), n, width)
			putsNothing(t, nil, n, width)
		}
	}
}

// P3.1
func TestTake(t *testing.T) {
	for _, c := range []struct {
		b                  string
		at, width, n, next int
	}{
		{"0101", 0, 4, 5, 4},
		{"0101", 1, 3, 5, 4},
		{"0101", 0, 2, 1, 2},
		{"0101", 1, 2, 2, 3},
		{"0101", 3, 1, 1, 4},
		{"0101", 0, 0, 0, 0},
		{"0101", 2, 0, 0, 2},
		{"0101", 4, 0, 0, 4},
		{"", 0, 0, 0, 0},
		{strings.Repeat("1", 30), 0, 30, 1<<30 - 1, 30},
		{strings.Repeat("1", 31), 1, 30, 1<<30 - 1, 31},
		{"1" + strings.Repeat("0", 29), 0, 30, 1 << 29, 30},
		{"1" + strings.Repeat("0", 29) + "1", 1, 30, 1, 31},
		{"1" + strings.Repeat("0", 40), 0, 29, 1 << 28, 29},
	} {
		n, next, ok := Take(bittext.Bits(c.b), c.at, c.width)
		if n != c.n || next != c.next || !ok {
			t.Errorf("Take(%s, %d, %d): %d, %d, %v", c.b, c.at, c.width, n, next, ok)
		}
	}
	for _, none := range noBits() {
		if n, next, ok := Take(none, 0, 0); n != 0 || next != 0 || !ok {
			t.Errorf("Take of no bit: %d, %d, %v", n, next, ok)
		}
	}
}

func takesNothing(t *testing.T, b []bool, at, width int) {
	t.Helper()
	if n, next, ok := Take(b, at, width); n != 0 || next != 0 || ok {
		t.Errorf("Take(%s, %d, %d): %d, %d, %v", bittext.Text(b), at, width, n, next, ok)
	}
}

// P3.1: widths that are none, places outside, and bits that are not all there.
func TestTakeOfWhatIsNotThere(t *testing.T) {
	for _, b := range [][]bool{nil, {}, bittext.Bits("1"), bittext.Bits("10110111"), bittext.Bits(strings.Repeat("1", 100))} {
		for _, width := range []int{-1, 31, 32, 63, 64, math.MinInt, math.MaxInt} {
			for _, at := range []int{0, len(b), -1, math.MaxInt} {
				takesNothing(t, b, at, width)
			}
		}
		for width := range 31 {
			for _, at := range []int{-1, -30, math.MinInt, len(b) + 1, len(b) + 30, math.MaxInt, math.MaxInt - width} {
				takesNothing(t, b, at, width)
			}
			if width > 0 {
				takesNothing(t, b, len(b), width)
				takesNothing(t, b, len(b)+1-width, width)
			}
		}
	}
}

// P3.1: bits that lie behind a list are none of its own.
func TestTakeOfBitsBehindTheList(t *testing.T) {
	whole := bittext.Bits("11111111")
	takesNothing(t, whole[:4], 2, 3)
	takesNothing(t, whole[:4], 5, 0)
	takesNothing(t, whole[:0], 0, 1)
}

// P3.2
func TestPack(t *testing.T) {
	for _, c := range []struct{ b, want string }{
		{"0101", "\x50"},
		{"", ""},
		{"0", "\x00"},
		{"1", "\x80"},
		{"0000000", "\x00"},
		{"1111111", "\xfe"},
		{"11111111", "\xff"},
		{"00000001", "\x01"},
		{"10000000", "\x80"},
		{"11111111 1", "\xff\x80"},
		{"00000000 0", "\x00\x00"},
		{"00000001 10000000 010", "\x01\x80\x40"},
		{"01100001 01100010", "ab"},
	} {
		if got := Pack(bittext.Bits(c.b)); got != c.want {
			t.Errorf("Pack(%s): %q, not %q", c.b, got, c.want)
		}
	}
	for _, none := range noBits() {
		if got := Pack(none); got != "" {
			t.Errorf("Pack of no bit: %q", got)
		}
	}
}

// P3.2
func TestUnpack(t *testing.T) {
	for _, c := range []struct{ s, want string }{
		{"", ""},
		{"\x50", "01010000"},
		{"\x00", "00000000"},
		{"\x80", "10000000"},
		{"\x01", "00000001"},
		{"\xff\x00\xfe", "111111110000000011111110"},
		{"ab", "0110000101100010"},
		{"\xc3\xa4", "1100001110100100"},
	} {
		if got := bittext.Text(Unpack(c.s)); got != c.want {
			t.Errorf("Unpack(%q): %s, not %s", c.s, got, c.want)
		}
	}
	for b := range 256 {
		got := Unpack(string([]byte{byte(b)}))
		if n, _, ok := Take(got, 0, 8); n != b || len(got) != 8 || !ok {
			t.Errorf("of the byte %d: %s", b, bittext.Text(got))
		}
	}
}

// P3.3: numbers of all widths, one behind another, at all places.
func TestWhatIsPutIsTaken(t *testing.T) {
	r := rand.New(rand.NewSource(1))
	for range 50 {
		var b []bool
		var numbers, widths, ends []int
		for range 60 {
			width := r.Intn(31)
			n := r.Intn(1 << width)
			b, _ = Put(b, n, width)
			numbers, widths, ends = append(numbers, n), append(widths, width), append(ends, len(b))
		}
		at := 0
		for i, width := range widths {
			n, next, ok := Take(b, at, width)
			if n != numbers[i] || next != ends[i] || !ok {
				t.Fatalf("the number %d of %d bits at %d: %d, %d, %v", numbers[i], width, at, n, next, ok)
			}
			at = next
		}
	}
}

// P3.3: lists of any length, also of no multiple of eight.
func TestWhatIsPackedIsUnpacked(t *testing.T) {
	r := rand.New(rand.NewSource(2))
	for n := range 300 {
		b := randomBits(r, n)
		got := Unpack(Pack(b))
		more := len(got) - n
		if more < 0 || more > 7 || len(got)%8 != 0 || !slices.Equal(got[:n], b) || slices.Contains(got[n:], true) {
			t.Errorf("%s is unpacked as %s", bittext.Text(b), bittext.Text(got))
		}
		s := Pack(got)
		if Pack(Unpack(s)) != s || len(s) != (n+7)/8 {
			t.Errorf("of %d bits: %q", n, s)
		}
	}
}

// R4: neither the bits that are given are changed, nor what lies behind them.
func TestArgumentsStay(t *testing.T) {
	whole := bittext.Bits("1111111111111111111111111111111111111111")
	part := whole[:4]
	Put(part, 0, 30)
	Take(part, 0, 4)
	Pack(part)
	if bittext.Text(whole) != strings.Repeat("1", 40) {
		t.Errorf("after calls: %s", bittext.Text(whole))
	}
	for _, width := range []int{0, 3} {
		got, _ := Put(part, 0, width)
		if unsafe.SliceData(got) == unsafe.SliceData(part) {
			t.Errorf("what was put to with width %d shares memory", width)
		}
		for i := range got {
			got[i] = false
		}
	}
	if bittext.Text(part) != "1111" {
		t.Errorf("after an answer was changed: %s", bittext.Text(part))
	}
}

// R4: two answers on one list do not write over each other.
func TestAnswersStay(t *testing.T) {
	b, _ := Put(nil, 1, 1)
	one, _ := Put(b, 0, 2)
	other, _ := Put(b, 3, 2)
	if bittext.Text(one) != "100" || bittext.Text(other) != "111" {
		t.Errorf("on one list: %s and %s", bittext.Text(one), bittext.Text(other))
	}
}

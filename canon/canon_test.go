package canon

import (
	"math"
	"math/rand"
	"slices"
	"strings"
	"testing"

	"ossuary/api"
	"ossuary/bittext"
	"ossuary/huff"
)

// same tells n times x.
func same(x, n int) []int {
	return slices.Repeat([]int{x}, n)
}

func join(parts ...[]int) []int {
	return slices.Concat(parts...)
}

// up tells from and each number above it, to the last one.
func up(from, to int) []int {
	var l []int
	for ; from <= to; from++ {
		l = append(l, from)
	}
	return l
}

// plainMay goes by the words of P6.1.
func plainMay(l []int) bool {
	kraft := 0
	for _, n := range l {
		if n < 0 || n > 15 {
			return false
		}
		if n > 0 {
			kraft += int(math.Pow(2, float64(15-n)))
		}
	}
	return len(l) <= 300 && kraft <= 32768
}

// plainCodes goes by the words of P6.1, symbol by symbol in the order in which they get their codes.
func plainCodes(l []int) []api.Code {
	var order []int
	for symbol, n := range l {
		if n > 0 {
			order = append(order, symbol)
		}
	}
	slices.SortStableFunc(order, func(a, b int) int { return l[a] - l[b] })
	codes := make([]api.Code, len(l))
	var ahead api.Code
	for i, symbol := range order {
		code := api.Code{Len: l[symbol]}
		if i > 0 {
			code.Bits = ahead.Bits + 1
			for range code.Len - ahead.Len {
				code.Bits *= 2
			}
		}
		codes[symbol], ahead = code, code
	}
	return codes
}

// plainRead tries each symbol's bits.
func plainRead(l []int, s string, at int) (int, int, bool) {
	if !plainMay(l) || at < 0 || at > len(s) {
		return 0, 0, false
	}
	for symbol, c := range plainCodes(l) {
		if code := bittext.Number(c.Bits, c.Len); c.Len > 0 && strings.HasPrefix(s[at:], code) {
			return symbol, at + len(code), true
		}
	}
	return 0, 0, false
}

// checkCodes takes the codes as texts of 0s and 1s, split by a space; - is the zero code.
func checkCodes(t *testing.T, l []int, want string) {
	t.Helper()
	got, ok := Codes(l)
	var all []string
	for _, c := range got {
		if c == (api.Code{}) {
			all = append(all, "-")
		} else {
			all = append(all, bittext.Number(c.Bits, c.Len))
		}
		if c.Bits < 0 || c.Bits >= 1<<c.Len {
			t.Errorf("Codes(%v): %v", l, c)
		}
	}
	if told := strings.Join(all, " "); told != want || !ok {
		t.Errorf("Codes(%v): %s, %v, not %s", l, told, ok, want)
	}
}

// checkMay holds Codes, and whether there is something to write and to read, against the words of P6.1.
func checkMay(t *testing.T, l []int, want bool) {
	t.Helper()
	got, ok := Codes(l)
	if ok != want || plainMay(l) != want {
		t.Fatalf("Codes(%v): %v, not %v", l, ok, want)
	}
	if want {
		if !slices.Equal(got, plainCodes(l)) {
			t.Errorf("Codes(%v): %v, not %v", l, got, plainCodes(l))
		}
		return
	}
	if len(got) > 0 {
		t.Errorf("Codes(%v): %v beside false", l, got)
	}
	for _, symbol := range []int{-1, 0, 1, len(l) - 1, len(l)} {
		checkWrite(t, l, symbol, "", false)
	}
	for _, s := range []string{"", "0", "1", strings.Repeat("0", 40), strings.Repeat("1", 40)} {
		checkRead(t, l, s, 0, 0, 0, false)
		checkRead(t, l, s, len(s), 0, 0, false)
	}
}

func checkWrite(t *testing.T, l []int, symbol int, want string, ok bool) {
	t.Helper()
	if got, told := Write(l, symbol); bittext.Text(got) != want || told != ok {
		t.Errorf("Write(%v, %d): %s, %v, not %s, %v", l, symbol, bittext.Text(got), told, want, ok)
	}
}

func checkRead(t *testing.T, l []int, s string, at, symbol, end int, ok bool) {
	t.Helper()
	if a, b, c := Read(l, bittext.Bits(s), at); a != symbol || b != end || c != ok {
		t.Errorf("Read(%v, %s, %d): %d, %d, %v, not %d, %d, %v", l, s, at, a, b, c, symbol, end, ok)
	}
}

// checkPlainRead holds Read against the words of P6.2.
func checkPlainRead(t *testing.T, l []int, s string, at int) {
	t.Helper()
	symbol, end, ok := plainRead(l, s, at)
	checkRead(t, l, s, at, symbol, end, ok)
}

// P6.1
func TestCodes(t *testing.T) {
	checkCodes(t, []int{1, 2, 2}, "0 10 11")
	checkCodes(t, []int{2, 1, 2}, "10 0 11")
	checkCodes(t, []int{2, 2, 1}, "10 11 0")
	checkCodes(t, []int{3, 3, 3, 3, 3, 2, 4, 4}, "010 011 100 101 110 00 1110 1111")
	checkCodes(t, []int{2, 3, 3}, "00 010 011")
	// Longer by more than a bit.
	checkCodes(t, []int{1, 4}, "0 1000")
	checkCodes(t, []int{5, 1, 3, 5}, "10100 0 100 10101")
	checkCodes(t, []int{2, 6, 2, 2, 6}, "00 110000 01 10 110001")
}

// P6.1: no length at all, no symbol with a code, and just one.
func TestCodesOfFew(t *testing.T) {
	for _, none := range [][]int{nil, {}, same(7, 2)[:0], make([]int, 0, 9)} {
		checkCodes(t, none, "")
	}
	checkCodes(t, []int{0}, "-")
	checkCodes(t, []int{0, 0, 0}, "- - -")
	for n := 1; n <= 15; n++ {
		checkCodes(t, []int{n}, strings.Repeat("0", n))
		checkCodes(t, []int{0, n, 0}, "- "+strings.Repeat("0", n)+" -")
	}
	checkMay(t, join(same(0, 299), []int{4}), true)
	checkMay(t, join([]int{4}, same(0, 299)), true)
}

// P6.1: symbols of length 0 between others.
func TestCodesBetweenNone(t *testing.T) {
	checkCodes(t, []int{0, 1, 0, 2, 0, 0, 2, 0}, "- 0 - 10 - - 11 -")
	checkCodes(t, []int{2, 0, 2, 0, 1}, "10 - 11 - 0")
	checkCodes(t, []int{0, 0, 3, 0, 3}, "- - 000 - 001")
}

// P6.1: all of one length.
func TestCodesOfOneLength(t *testing.T) {
	checkCodes(t, []int{1, 1}, "0 1")
	checkCodes(t, []int{2, 2, 2, 2}, "00 01 10 11")
	checkCodes(t, []int{2, 2, 2}, "00 01 10")
	for n := 1; n <= 15; n++ {
		all := 1 << n
		for _, many := range []int{1, 2, all - 1, all, all + 1, 256, 299, 300} {
			checkMay(t, same(n, many), many <= all && many <= 300)
		}
		codes, _ := Codes(same(n, min(all, 300)))
		for i, c := range codes {
			if c != (api.Code{Len: n, Bits: i}) {
				t.Errorf("of length %d the code %d is %v", n, i, c)
			}
		}
	}
}

// P6.1: codes of 15 bits.
func TestCodesOfFifteenBits(t *testing.T) {
	l := join(up(1, 15), []int{15})
	var want []string
	for n := range 15 {
		want = append(want, strings.Repeat("1", n)+"0")
	}
	want = append(want, strings.Repeat("1", 15))
	checkCodes(t, l, strings.Join(want, " "))
	slices.Reverse(l)
	slices.Reverse(want)
	// The two of 15 bits are in the symbols' order still.
	want[0], want[1] = want[1], want[0]
	checkCodes(t, l, strings.Join(want, " "))
	checkCodes(t, []int{1, 15, 15}, "0 100000000000000 100000000000001")
	checkCodes(t, []int{15, 15, 1}, "100000000000000 100000000000001 0")
}

// P6.1: 299, 300 and 301 symbols.
func TestCodesOfManySymbols(t *testing.T) {
	for _, n := range []int{298, 299, 300, 301, 302, 512, 5000} {
		for _, length := range []int{0, 9, 15} {
			checkMay(t, same(length, n), n <= 300)
		}
		checkMay(t, join([]int{1, 1}, same(0, n-2)), n <= 300)
		checkMay(t, join(same(0, n-1), []int{1}), n <= 300)
	}
	if c, ok := Codes(join(same(9, 299), []int{15})); !ok || c[298] != (api.Code{Len: 9, Bits: 298}) || c[299] != (api.Code{Len: 15, Bits: 299 << 6}) {
		t.Errorf("%v, %v", c, ok)
	}
}

// P6.1: lengths of -1, 0, 1, 15 and 16, wherever they stand.
func TestCodesOfLengths(t *testing.T) {
	for _, n := range []int{-1, 0, 1, 15, 16, -15, -16, 17, 63, 64, 65, 1 << 32, 1<<32 + 1, math.MinInt, math.MaxInt} {
		fits := n >= 0 && n <= 15
		checkMay(t, []int{n}, fits)
		checkMay(t, []int{n, 2, 2}, fits)
		checkMay(t, []int{2, n, 2}, fits)
		checkMay(t, []int{2, 2, n}, fits)
		checkMay(t, []int{0, 0, n}, fits)
		checkMay(t, join(same(0, 299), []int{n}), fits)
		checkMay(t, join([]int{n}, same(0, 299)), fits)
		checkMay(t, join(same(n, 2), same(0, 299)), false)
	}
}

// P6.1: of lengths Kraft is 32767, 32768 and 32769.
func TestCodesOfKraft(t *testing.T) {
	for _, k := range []struct {
		l     []int
		kraft int
	}{
		{up(1, 15), 32767},
		{join([]int{15}, up(1, 15)), 32768},
		{join([]int{15, 15}, up(1, 15)), 32769},
		{join(up(1, 15), []int{15, 15}), 32769},
		{[]int{1, 1}, 32768},
		{[]int{1, 1, 15}, 32769},
		{[]int{15, 1, 1}, 32769},
		{join(same(8, 255), up(9, 15)), 32767},
		{join(same(8, 255), up(9, 15), []int{15}), 32768},
		{join(same(8, 255), up(9, 15), []int{15, 15}), 32769},
		{join([]int{1, 1}, same(15, 298)), 32768 + 298},
		{[]int{1, 1, 1}, 49152},
		{[]int{1, 2, 2, 2}, 40960},
		{same(1, 300), 300 * 16384},
	} {
		if got := huff.Kraft(k.l); got != k.kraft {
			t.Errorf("Kraft(%v): %d, not %d", k.l, got, k.kraft)
		}
		checkMay(t, k.l, k.kraft <= 32768)
		apart := join([]int{0}, k.l, []int{0})
		checkMay(t, apart, k.kraft <= 32768 && len(apart) <= 300)
	}
}

// P6.1: by its words, on lists of all sizes, of which some leave codes over, and some are too many.
func TestCodesByTheirWords(t *testing.T) {
	fit, over := 0, 0
	for _, l := range someLists() {
		may := plainMay(l)
		checkMay(t, l, may)
		if may {
			fit++
		} else {
			over++
		}
	}
	if fit < 500 || over < 100 {
		t.Errorf("%d lists fit, and %d do not", fit, over)
	}
}

// someLists tells lengths as of chapter 5, and such in which some are longer or shorter, and such of any numbers.
func someLists() [][]int {
	r := rand.New(rand.NewSource(6))
	var all [][]int
	for i := range 400 {
		l := huff.Lens(someTimes(r, i%301))
		all = append(all, l, someOther(r, l, 1), someOther(r, l, -1))
		var any []int
		for range r.Intn(12) {
			any = append(any, r.Intn(17))
		}
		all = append(all, any)
	}
	return all
}

// someTimes tells how often n symbols are there, few of them often.
func someTimes(r *rand.Rand, n int) []int {
	f := make([]int, n)
	for i := range f {
		f[i] = r.Intn(100000>>r.Intn(18) + 1)
	}
	return f
}

// someOther tells l, some of its lengths longer by so much, if they are then from 1 to 15.
func someOther(r *rand.Rand, l []int, by int) []int {
	other := slices.Clone(l)
	for i, n := range other {
		if n > 0 && n+by >= 1 && n+by <= 15 && r.Intn(20) == 0 {
			other[i] = n + by
		}
	}
	return other
}

// P6.2
func TestWrite(t *testing.T) {
	l := []int{1, 0, 3, 15, 3, 0}
	checkWrite(t, l, 0, "0", true)
	checkWrite(t, l, 2, "100", true)
	checkWrite(t, l, 3, "110000000000000", true)
	checkWrite(t, l, 4, "101", true)
	checkWrite(t, []int{2, 3, 3}, 0, "00", true)
	checkWrite(t, []int{2, 3, 3}, 1, "010", true)
	checkWrite(t, []int{7}, 0, "0000000", true)
	for symbol, c := range plainCodes(up(1, 15)) {
		checkWrite(t, up(1, 15), symbol, bittext.Number(c.Bits, c.Len), true)
	}
}

// P6.2: a symbol of -1, the last one, and one more.
func TestWriteOfSymbols(t *testing.T) {
	l := []int{2, 1, 2}
	checkWrite(t, l, 2, "11", true)
	for _, symbol := range []int{-1, 3, 4, -3, 300, 1 << 32, math.MinInt, math.MaxInt} {
		checkWrite(t, l, symbol, "", false)
	}
	// What lies behind a list is none of its own.
	checkWrite(t, l[:2], 1, "0", true)
	checkWrite(t, l[:2], 2, "", false)
	checkWrite(t, same(9, 300), 299, bittext.Number(299, 9), true)
	checkWrite(t, same(9, 300), 300, "", false)
	checkWrite(t, same(9, 301), 0, "", false)
	checkWrite(t, same(9, 301), 300, "", false)
}

// P6.2: symbols that have no code, also where no symbol has one, or there is none.
func TestWriteOfNone(t *testing.T) {
	l := []int{0, 2, 0, 2, 0}
	for symbol := 0; symbol < 5; symbol += 2 {
		checkWrite(t, l, symbol, "", false)
	}
	checkWrite(t, same(0, 3), 1, "", false)
	for _, none := range [][]int{nil, {}, same(7, 2)[:0]} {
		checkWrite(t, none, 0, "", false)
		checkWrite(t, none, -1, "", false)
	}
	// Where Codes is false no symbol is written.
	for _, wrong := range [][]int{{1, 1, 15}, {1, -1}, {1, 16}, {1, 1, 1}} {
		checkWrite(t, wrong, 0, "", false)
	}
}

// P6.2
func TestRead(t *testing.T) {
	l := []int{1, 0, 3, 15, 3, 0}
	checkRead(t, l, "0", 0, 0, 1, true)
	checkRead(t, l, "100", 0, 2, 3, true)
	checkRead(t, l, "101", 0, 4, 3, true)
	checkRead(t, l, "110000000000000", 0, 3, 15, true)
	checkRead(t, []int{2, 3, 3}, "011", 0, 2, 3, true)
	// All that a symbol has is the code of only 0.
	checkRead(t, []int{0, 0, 4}, "0000", 0, 2, 4, true)
	// Bits behind a code.
	checkRead(t, l, "01", 0, 0, 1, true)
	checkRead(t, l, "1000", 0, 2, 3, true)
	checkRead(t, l, "1011", 0, 4, 3, true)
	checkRead(t, l, "110000000000000111", 0, 3, 15, true)
}

// P6.2: a place of -1, 0, the last one, the end, and behind it.
func TestReadAt(t *testing.T) {
	l := []int{2, 1, 2}
	const s = "10011110"
	for at, want := range []struct{ symbol, end int }{{0, 2}, {1, 2}, {1, 3}, {2, 5}, {2, 6}, {2, 7}, {0, 8}, {1, 8}} {
		checkRead(t, l, s, at, want.symbol, want.end, true)
	}
	for _, at := range []int{-1, 8, 9, -8, 1 << 32, math.MinInt, math.MaxInt, math.MaxInt - 14} {
		checkRead(t, l, s, at, 0, 0, false)
	}
	// The symbol is 1 wherever there is a bit 0: so also at no place that is none.
	checkRead(t, l, "0", 0, 1, 1, true)
	for _, at := range []int{-1, 1, 2} {
		checkRead(t, l, "0", at, 0, 0, false)
	}
	// What lies behind the bits is none of theirs.
	if symbol, end, ok := Read(l, bittext.Bits(s)[:1], 0); symbol != 0 || end != 0 || ok {
		t.Errorf("%d, %d, %v", symbol, end, ok)
	}
}

// P6.2: bits that end within a code.
func TestReadOfTooFew(t *testing.T) {
	l := join(up(1, 15), []int{15})
	for symbol, c := range plainCodes(l) {
		s := bittext.Number(c.Bits, c.Len)
		checkRead(t, l, s, 0, symbol, len(s), true)
		checkRead(t, l, "0"+s, 1, symbol, len(s)+1, true)
		for n := range len(s) {
			checkRead(t, l, s[:n], 0, 0, 0, false)
			checkRead(t, l, "0"+s[:n], 1, 0, 0, false)
		}
	}
}

// P6.2: bits with which no code begins.
func TestReadOfNoCode(t *testing.T) {
	ones := strings.Repeat("1", 40)
	for _, l := range [][]int{{1}, {15}, {2, 2, 2}, {1, 2, 3}, {0, 5, 0}, up(1, 15), same(9, 300)} {
		checkRead(t, l, ones, 0, 0, 0, false)
		checkRead(t, l, ones, 30, 0, 0, false)
		checkRead(t, l, ones, 39, 0, 0, false)
	}
	checkRead(t, []int{2, 2}, "10", 0, 0, 0, false)
	checkRead(t, []int{2, 2}, "0111", 1, 0, 0, false)
	checkRead(t, []int{3, 3, 3}, "011", 0, 0, 0, false)
	checkRead(t, []int{1, 15}, "100000000000001", 0, 0, 0, false)
	// A symbol of length 0 is not read of no bits.
	for _, l := range [][]int{nil, {}, {0}, {0, 0}, same(0, 300)} {
		for _, s := range []string{"", "0", "1", ones} {
			for _, at := range []int{-1, 0, 1, len(s)} {
				checkRead(t, l, s, at, 0, 0, false)
			}
		}
	}
}

// P6.2: no bits at all, as an empty list and a nil one.
func TestReadOfNoBits(t *testing.T) {
	for _, none := range [][]bool{nil, {}, bittext.Bits("01")[:0]} {
		for _, l := range [][]int{nil, {1}, {1, 1}, {15}, {0, 1}, {1, 1, 1}} {
			for _, at := range []int{-1, 0, 1} {
				if symbol, end, ok := Read(l, none, at); symbol != 0 || end != 0 || ok {
					t.Errorf("Read(%v, %v, %d): %d, %d, %v", l, none, at, symbol, end, ok)
				}
			}
		}
	}
}

// P6.2: by its words, on all bits there are of up to seven, with lengths of up to four symbols.
func TestReadByItsWords(t *testing.T) {
	for _, l := range allLists(4) {
		for width := range 8 {
			for n := range 1 << width {
				checkPlainRead(t, l, bittext.Number(n, width), n%(width+1))
			}
		}
	}
}

// allLists tells all lists of up to n lengths from 0 to 5.
func allLists(n int) [][]int {
	if n == 0 {
		return [][]int{nil}
	}
	fewer := allLists(n - 1)
	all := slices.Clone(fewer)
	for _, l := range fewer {
		if len(l) == n-1 {
			for length := range 6 {
				all = append(all, join(l, []int{length}))
			}
		}
	}
	return all
}

// P6.2, P6.3: by their words, on long lists.
func TestReadOfManyByItsWords(t *testing.T) {
	r := rand.New(rand.NewSource(7))
	for _, l := range someLists() {
		var s strings.Builder
		for range 60 {
			s.WriteByte("01"[r.Intn(2)])
		}
		for range 5 {
			checkPlainRead(t, l, s.String(), r.Intn(64)-2)
		}
	}
}

// P6.3: no code begins with another one.
func TestNoCodeBeginsWithAnother(t *testing.T) {
	for _, l := range append(someLists(), allLists(4)...) {
		codes, _ := Codes(l)
		var all []string
		for _, c := range codes {
			if c.Len > 0 {
				all = append(all, bittext.Number(c.Bits, c.Len))
			}
		}
		// In their order as texts those that begin with one stand just behind it.
		slices.Sort(all)
		for i := 1; i < len(all); i++ {
			if strings.HasPrefix(all[i], all[i-1]) {
				t.Fatalf("%v: %s begins with %s", l, all[i], all[i-1])
			}
		}
	}
}

// P6.3: what is written is read, whatever stands ahead and behind.
func TestWrittenIsRead(t *testing.T) {
	r := rand.New(rand.NewSource(8))
	for _, l := range someLists() {
		if !plainMay(l) {
			continue
		}
		var b []bool
		var symbols, ends []int
		for symbol, n := range l {
			if code, ok := Write(l, symbol); ok && n > 0 {
				b = append(b, code...)
				symbols, ends = append(symbols, symbol), append(ends, len(b))
			} else if ok || n > 0 || len(code) > 0 {
				t.Fatalf("Write(%v, %d): %v, %v", l, symbol, code, ok)
			}
		}
		for range r.Intn(3) {
			b = append(b, r.Intn(2) == 1)
		}
		at := 0
		for i, want := range symbols {
			symbol, end, ok := Read(l, b, at)
			if symbol != want || end != ends[i] || !ok {
				t.Fatalf("Read(%v, %s, %d): %d, %d, %v, not %d, %d", l, bittext.Text(b), at, symbol, end, ok, want, ends[i])
			}
			at = end
		}
	}
}

// R1: any lengths, symbols, bits and places.
func TestAnyArguments(t *testing.T) {
	r := rand.New(rand.NewSource(9))
	odd := []int{math.MinInt, -1 << 32, -16, -1, 0, 1, 15, 16, 63, 64, 1 << 32, math.MaxInt}
	for range 2000 {
		var l []int
		for range r.Intn(6) {
			l = append(l, odd[r.Intn(len(odd))])
		}
		at := odd[r.Intn(len(odd))]
		checkMay(t, l, plainMay(l))
		checkPlainRead(t, l, bittext.Number(r.Intn(1<<20), r.Intn(20)), at)
		if _, ok := Write(l, at); ok != (plainMay(l) && at >= 0 && at < len(l) && l[at] > 0) {
			t.Errorf("Write(%v, %d): %v", l, at, ok)
		}
	}
	for _, many := range []int{301, 1 << 20} {
		checkMay(t, same(15, many), false)
	}
	long := make([]bool, 1<<20)
	if symbol, end, ok := Read([]int{0, 15}, long, 1<<20-15); symbol != 1 || end != 1<<20 || !ok {
		t.Errorf("%d, %d, %v", symbol, end, ok)
	}
}

// R3, R4: arguments stay as they are, and answers are new.
func TestArgumentsStay(t *testing.T) {
	l, b := []int{2, 1, 2, 0}, bittext.Bits("1101")
	room := append(make([]int, 0, 20), l...)
	for range 2 {
		codes, _ := Codes(room)
		again, _ := Codes(room)
		codes[0] = api.Code{Len: 9, Bits: 9}
		if again[0] != (api.Code{Len: 2, Bits: 2}) {
			t.Error("two answers share their codes")
		}
		code, _ := Write(room, 0)
		other, _ := Write(room, 0)
		code[0] = !code[0]
		if bittext.Text(other) != "10" {
			t.Error("two answers share their bits")
		}
		checkRead(t, room, bittext.Text(b), 0, 2, 2, true)
		Read(room, b, 0)
		if !slices.Equal(room, l) || bittext.Text(b) != "1101" || !slices.Equal(room[:20][4:], same(0, 16)) {
			t.Errorf("the arguments are %v and %v", room[:20], b)
		}
	}
}

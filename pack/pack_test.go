package pack

import (
	"math"
	"math/rand"
	"slices"
	"strings"
	"testing"

	"ossuary/api"
	"ossuary/bittext"
	"ossuary/canon"
	"ossuary/huff"
	"ossuary/match"
)

func tok(b int) api.Tok {
	return api.Tok{Byte: b}
}

func copied(dist, size int) api.Tok {
	return api.Tok{Dist: dist, Len: size}
}

// toks tells a byte for each of s.
func toks(s string) []api.Tok {
	var l []api.Tok
	for i := range len(s) {
		l = append(l, tok(int(s[i])))
	}
	return l
}

// head tells the bits of so many symbols, and of the pairs: a symbol, and its length.
func head(many int, pairs ...int) string {
	s := bittext.Number(many, 9)
	for i := 0; i < len(pairs); i += 2 {
		s += bittext.Number(pairs[i], 9) + bittext.Number(pairs[i+1], 4)
	}
	return s
}

// symbols tells the bits of just these pairs.
func symbols(pairs ...int) string {
	return head(len(pairs)/2, pairs...)
}

// plainSymbol goes by the words: a byte, or a copy, if it may be.
func plainSymbol(t api.Tok) int {
	switch {
	case t.Len == 0 && t.Dist == 0 && 0 <= t.Byte && t.Byte <= 255:
		return t.Byte
	case t.Byte == 0 && 1 <= t.Dist && t.Dist <= 255 && 3 <= t.Len && t.Len <= 18:
		return 253 + t.Len
	}
	return -1
}

// plainWrite goes by the words, with canon.Write of each token.
func plainWrite(l []api.Tok) (string, bool) {
	f := make([]int, 272)
	for _, t := range l {
		if plainSymbol(t) < 0 || len(l) > 1000 {
			return "", false
		}
		f[plainSymbol(t)]++
	}
	lens := huff.Lens(f)
	var pairs []int
	for symbol, n := range f {
		if n > 0 {
			pairs = append(pairs, symbol, lens[symbol])
		}
	}
	s := symbols(pairs...)
	for _, t := range l {
		code, _ := canon.Write(lens, plainSymbol(t))
		s += bittext.Text(code)
		if t.Len > 0 {
			s += bittext.Number(t.Dist, 8)
		}
	}
	return s, true
}

// plainNumber tells the number of the digits, and whether there are so many.
func plainNumber(s string, at, width int) (int, bool) {
	n := 0
	for i := range width {
		if at+i >= len(s) {
			return 0, false
		}
		n = 2*n + int(s[at+i]-'0')
	}
	return n, true
}

// plainLens takes what stands ahead of the tokens: the lengths by symbols, and the place behind.
func plainLens(s string) ([]int, int, bool) {
	many, ok := plainNumber(s, 0, 9)
	lens, at, ahead := make([]int, 272), 9, -1
	for i := 0; ok && i < many; i++ {
		symbol, there := plainNumber(s, at, 9)
		length, all := plainNumber(s, at+9, 4)
		if ok = there && all && ahead < symbol && symbol < 272 && 1 <= length; ok {
			lens[symbol], ahead = length, symbol
		}
		at += 13
	}
	_, may := canon.Codes(lens)
	return lens, at, ok && may
}

// plainRead goes by the words, with canon.Read of each token.
func plainRead(s string, many int) ([]api.Tok, int, bool) {
	lens, at, ok := plainLens(s)
	var l []api.Tok
	told := 0
	for ok && told < many {
		var symbol int
		if symbol, at, ok = canon.Read(lens, bittext.Bits(s), at); !ok {
			break
		}
		t := tok(symbol)
		if symbol > 255 {
			t = copied(0, symbol-253)
			t.Dist, ok = plainNumber(s, at, 8)
			at += 8
		}
		l = append(l, t)
		told += max(1, t.Len)
		ok = ok && match.May(t) && t.Dist <= told-t.Len
	}
	if !ok || told != many || many > 1000 {
		return nil, 0, false
	}
	return l, at, true
}

func checkWrite(t *testing.T, l []api.Tok, want string, ok bool) {
	t.Helper()
	want = strings.ReplaceAll(want, " ", "")
	if b, told := Write(l); bittext.Text(b) != want || told != ok {
		t.Errorf("Write(%v): %s, %v, not %s, %v", l, bittext.Text(b), told, want, ok)
	}
}

// checkPlainWrite holds Write against its words.
func checkPlainWrite(t *testing.T, l []api.Tok) {
	t.Helper()
	want, ok := plainWrite(l)
	checkWrite(t, l, want, ok)
}

// checkRead takes s as digits, split by blanks for the eye.
func checkRead(t *testing.T, s string, many int, want []api.Tok, end int) {
	t.Helper()
	l, at, ok := Read(bittext.Bits(s), many)
	if !slices.Equal(l, want) || at != end || !ok {
		t.Errorf("Read(%s, %d): %v, %d, %v, not %v, %d", s, many, l, at, ok, want, end)
	}
}

func checkNone(t *testing.T, s string, many int) {
	t.Helper()
	if l, at, ok := Read(bittext.Bits(s), many); len(l) != 0 || at != 0 || ok {
		t.Errorf("Read(%s, %d): %v, %d, %v, not none", s, many, l, at, ok)
	}
}

// checkPlainRead holds Read against its words, and tells whether there is something to read.
func checkPlainRead(t *testing.T, s string, many int) bool {
	t.Helper()
	want, end, ok := plainRead(s, many)
	if ok {
		checkRead(t, s, many, want, end)
	} else {
		checkNone(t, s, many)
	}
	return ok
}

// tells is how many bytes l's tokens tell.
func tells(l []api.Tok) int {
	n := 0
	for _, t := range l {
		n += max(1, t.Len)
	}
	return n
}

// checkBack holds P7.3: what is written of l is read, whatever stands behind, and is not if a bit is missing.
func checkBack(t *testing.T, l []api.Tok) {
	t.Helper()
	b, ok := Write(l)
	if !ok {
		t.Fatalf("Write(%v): false", l)
	}
	s := bittext.Text(b)
	for _, behind := range []string{"", "0", "1", strings.Repeat("01", 20), strings.Repeat("1", 40), s} {
		checkRead(t, s+behind, tells(l), l, len(s))
	}
	if len(s) > 0 {
		checkNone(t, s[:len(s)-1], tells(l))
	}
}

// wrongToks tells tokens that may not be.
func wrongToks() []api.Tok {
	return []api.Tok{
		tok(-1), tok(256), tok(257), tok(math.MinInt), tok(math.MaxInt), tok(1 << 32),
		copied(1, 2), copied(1, 19), copied(1, 1), copied(1, -3), copied(1, math.MinInt), copied(1, math.MaxInt), copied(1, 1<<32+3),
		copied(0, 3), copied(256, 3), copied(-1, 3), copied(math.MinInt, 18), copied(math.MaxInt, 18), copied(1<<32+1, 3),
		copied(1, 0), copied(255, 0), copied(-1, 0),
		{Byte: 1, Dist: 1, Len: 3}, {Byte: 97, Dist: 255, Len: 18}, {Byte: -1, Dist: 1, Len: 3},
		{Byte: 97, Dist: 1}, {Byte: 97, Len: 3}, {Byte: 97, Len: 1},
	}
}

// allToks tells a token of each symbol, rising.
func allToks() []api.Tok {
	var l []api.Tok
	for b := range 256 {
		l = append(l, tok(b))
	}
	for size := 3; size <= 18; size++ {
		l = append(l, copied(13*size, size))
	}
	return l
}

// P7.1
func TestSymbol(t *testing.T) {
	for b := range 256 {
		if got := Symbol(tok(b)); got != b {
			t.Errorf("Symbol of the byte %d: %d", b, got)
		}
	}
	for size := 3; size <= 18; size++ {
		for _, dist := range []int{1, 2, 254, 255} {
			if got := Symbol(copied(dist, size)); got != 253+size {
				t.Errorf("Symbol of a copy of %d from %d: %d", size, dist, got)
			}
		}
	}
	if a, b, c, d := Symbol(tok(0)), Symbol(tok(255)), Symbol(copied(255, 3)), Symbol(copied(1, 18)); a != 0 || b != 255 || c != 256 || d != 271 {
		t.Error(a, b, c, d)
	}
}

// P7.1
func TestSymbolOfNone(t *testing.T) {
	for _, wrong := range wrongToks() {
		if got := Symbol(wrong); got != -1 {
			t.Errorf("Symbol(%v): %d", wrong, got)
		}
	}
}

// P7.1
func TestWrite(t *testing.T) {
	// One symbol has one bit.
	checkWrite(t, toks("a"), "000000001 001100001 0001 0", true)
	checkWrite(t, toks("aaa"), "000000001 001100001 0001 000", true)
	checkWrite(t, []api.Tok{tok(0)}, "000000001 000000000 0001 0", true)
	checkWrite(t, []api.Tok{tok(255)}, "000000001 011111111 0001 0", true)
	// Symbols rise, in whichever order the tokens are.
	checkWrite(t, toks("ba"), "000000010 001100001 0001 001100010 0001 1 0", true)
	checkWrite(t, toks("cabc"), "000000011 001100001 0010 001100010 0010 001100011 0001 0 10 11 0", true)
	// A byte, and a copy of 4 from 1 ahead.
	checkWrite(t, match.Split("aaaaa"), "000000010 001100001 0001 100000001 0001 0 1 00000001", true)
	checkWrite(t, []api.Tok{tok(7), copied(1, 3), copied(1, 18)},
		"000000011 000000111 0010 100000000 0010 100001111 0001 10 11 00000001 0 00000001", true)
}

// P7.1: no token at all.
func TestWriteOfNoTokens(t *testing.T) {
	for _, none := range [][]api.Tok{nil, {}, toks("ab")[:0], make([]api.Tok, 0, 9)} {
		checkWrite(t, none, "000000000", true)
	}
}

// P7.1: copies with Len 3 and 18, and with Dist 1 and 255. That there is as much ahead of them is not asked.
func TestWriteOfCopies(t *testing.T) {
	checkWrite(t, []api.Tok{copied(1, 3)}, "000000001 100000000 0001 0 00000001", true)
	checkWrite(t, []api.Tok{copied(255, 3)}, "000000001 100000000 0001 0 11111111", true)
	checkWrite(t, []api.Tok{copied(1, 18)}, "000000001 100001111 0001 0 00000001", true)
	checkWrite(t, []api.Tok{copied(255, 18)}, "000000001 100001111 0001 0 11111111", true)
	// Copies of one Len have one symbol, whatever their Dist.
	checkWrite(t, []api.Tok{copied(255, 5), copied(1, 5)}, "000000001 100000010 0001 0 11111111 0 00000001", true)
}

// P7.1: 999, 1000 and 1001 tokens.
func TestWriteOfManyTokens(t *testing.T) {
	for _, n := range []int{998, 999, 1000, 1001, 1002, 5000} {
		checkPlainWrite(t, slices.Repeat(toks("a"), n))
		checkPlainWrite(t, slices.Repeat([]api.Tok{copied(1, 18)}, n))
		some := slices.Repeat(allToks(), n/272+1)[:n]
		checkPlainWrite(t, some)
		if b, ok := Write(some); ok != (n <= 1000) || ok != (len(b) > 0) {
			t.Errorf("%d tokens: %d bits, %v", n, len(b), ok)
		}
	}
}

// P7.1: tokens that may not be, at each place of the list.
func TestWriteOfNone(t *testing.T) {
	for _, wrong := range wrongToks() {
		checkWrite(t, []api.Tok{wrong}, "", false)
		for at := range 4 {
			checkWrite(t, slices.Insert(append(toks("ab"), copied(1, 3)), at, wrong), "", false)
		}
	}
	long := slices.Repeat(toks("abc"), 333)
	for at := 0; at <= len(long); at += 37 {
		checkWrite(t, slices.Insert(slices.Clone(long), at, copied(1, 2)), "", false)
	}
	checkWrite(t, slices.Repeat([]api.Tok{tok(-1)}, 1001), "", false)
}

// P7.1: just one symbol that is there, and all of them.
func TestWriteOfSymbols(t *testing.T) {
	for _, one := range allToks() {
		checkPlainWrite(t, []api.Tok{one})
		checkPlainWrite(t, []api.Tok{one, one, one})
	}
	all := allToks()
	checkPlainWrite(t, all)
	// 272 symbols are too many for codes of 8 bits, and the lowest ones are put together once more.
	b, ok := Write(all)
	if s := bittext.Text(b[:35]); !ok || s != "100010000"+"000000000"+"1001"+"000000001"+"1001" {
		t.Errorf("%v, %s", ok, s)
	}
	slices.Reverse(all)
	checkPlainWrite(t, all)
	// Lengths of up to 15 bits: each byte is there as often as both ahead of it.
	var grown []api.Tok
	for i, n := range []int{1, 1, 1, 2, 3, 5, 8, 13, 21, 34, 55, 89, 144, 233} {
		grown = append(grown, slices.Repeat([]api.Tok{tok(i)}, n)...)
	}
	checkPlainWrite(t, grown)
	checkBack(t, grown)
}

// P7.2
func TestRead(t *testing.T) {
	checkRead(t, "000000001 001100001 0001 0", 1, toks("a"), 23)
	checkRead(t, "000000001 001100001 0001 000", 3, toks("aaa"), 25)
	checkRead(t, "000000010 001100001 0001 001100010 0001 1 0", 2, toks("ba"), 37)
	checkRead(t, "000000010 001100001 0001 100000001 0001 0 1 00000001", 5, match.Split("aaaaa"), 45)
	checkRead(t, "000000001 000000000 0001 0", 1, []api.Tok{tok(0)}, 23)
	checkRead(t, "000000001 011111111 0001 0", 1, []api.Tok{tok(255)}, 23)
	checkRead(t, "000000010 000000111 0001 100001111 0001 0 1 00000001", 19, []api.Tok{tok(7), copied(1, 18)}, 45)
}

// P7.2: lengths that are not those of chapter 5 are taken, also of symbols that no token has.
func TestReadOfOtherLengths(t *testing.T) {
	checkRead(t, symbols(97, 15)+bittext.Number(0, 30), 2, toks("aa"), 22+30)
	checkRead(t, symbols(97, 3, 98, 1)+"1000", 2, toks("ab"), 35+4)
	checkRead(t, symbols(97, 1, 98, 2, 99, 2)+"11 11", 2, toks("cc"), 48+4)
	checkRead(t, symbols(97, 15, 98, 15)+bittext.Number(1, 15), 1, toks("b"), 35+15)
	// The longest code there is, of only bits 1.
	var pairs []int
	for n := 1; n <= 15; n++ {
		pairs = append(pairs, 2*n, n)
	}
	pairs = append(pairs, 270, 15)
	s := symbols(pairs...)
	checkRead(t, s+strings.Repeat("1", 14)+"0", 1, []api.Tok{tok(30)}, len(s)+15)
	checkRead(t, s+"0"+strings.Repeat("1", 15)+"00000001", 18, []api.Tok{tok(2), copied(1, 17)}, len(s)+1+15+8)
}

// P7.2: of 0 bytes the symbols are read, and no token.
func TestReadOfNoBytes(t *testing.T) {
	checkRead(t, "000000000", 0, nil, 9)
	checkRead(t, "000000000 1111", 0, nil, 9)
	checkRead(t, symbols(97, 1), 0, nil, 22)
	checkRead(t, symbols(0, 15, 271, 15)+"1", 0, nil, 35)
	checkNone(t, symbols(97, 0), 0)
	checkNone(t, symbols(97, 1, 97, 1), 0)
	checkNone(t, symbols(97, 1, 98, 1, 99, 15), 0)
	checkNone(t, symbols(97, 1)[:21], 0)
	checkNone(t, "00000000", 0)
}

// P7.2: many of -1, 0, 1, of just what is told, of one less and one more.
func TestReadOfMany(t *testing.T) {
	s := symbols(97, 1, 257, 1)
	all := []api.Tok{tok('a'), copied(1, 4), tok('a')}
	bits := "0 1 00000001 0"
	for many, want := range map[int]int{0: 0, 1: 1, 5: 2, 6: 3} {
		end := []int{0, 1, 10, 11}[want]
		checkRead(t, s+bits, many, all[:want], len(s)+end)
	}
	// More bytes than many, or too few bits.
	for _, many := range []int{2, 3, 4, 7, 8, 999, 1000, 1001} {
		checkNone(t, s+bits, many)
	}
	for _, many := range []int{-1, -2, math.MinInt, math.MaxInt, 1 << 32, 1<<32 + 1} {
		checkNone(t, s+bits, many)
		checkNone(t, "000000000", many)
		checkNone(t, "", many)
	}
}

// P7.2: many of 999, 1000 and 1001, of bytes, and of copies.
func TestReadOfMost(t *testing.T) {
	a := symbols(97, 1)
	for _, many := range []int{999, 1000} {
		checkRead(t, a+bittext.Number(0, 1100), many, slices.Repeat(toks("a"), many), 22+many)
		checkNone(t, a+bittext.Number(0, many-1), many)
	}
	for _, many := range []int{1001, 1002, 1100, 5000} {
		checkNone(t, a+bittext.Number(0, 9000), many)
	}
	copies := symbols(97, 1, 268, 1)
	l := append(slices.Repeat(toks("a"), 10), slices.Repeat([]api.Tok{copied(9, 15)}, 66)...)
	s := copies + bittext.Number(0, 10) + strings.Repeat("1"+bittext.Number(9, 8), 70)
	checkRead(t, s, 1000, l, 35+10+66*9)
	for _, many := range []int{999, 1001, 1015} {
		checkNone(t, s, many)
	}
}

// P7.2: symbols that do not rise, or are 272 and above.
func TestReadOfWrongSymbols(t *testing.T) {
	for _, pairs := range [][]int{
		{97, 2, 97, 2},
		{98, 2, 97, 2},
		{0, 2, 0, 2},
		{271, 2, 271, 2},
		{97, 2, 99, 2, 98, 2},
		{97, 2, 99, 2, 99, 2},
		{97, 2, 99, 2, 97, 2},
		{272, 1},
		{511, 1},
		{97, 2, 272, 2},
		{97, 2, 300, 2},
		{97, 2, 271, 2, 272, 2},
		{272, 2, 97, 2},
	} {
		for _, many := range []int{0, 1, 2} {
			checkNone(t, symbols(pairs...)+bittext.Number(0, 40), many)
		}
	}
	for _, symbol := range []int{0, 1, 254, 255} {
		checkRead(t, symbols(symbol, 1)+"0", 1, []api.Tok{tok(symbol)}, 23)
	}
	checkRead(t, symbols(0, 2, 1, 2, 255, 2, 256, 2)+"00 11 00000001", 4, []api.Tok{tok(0), copied(1, 3)}, 61+12)
	checkRead(t, symbols(97, 2, 271, 2)+"00 01 00000001", 19, []api.Tok{tok('a'), copied(1, 18)}, 35+12)
}

// P7.2: more symbols than there are, and all of them.
func TestReadOfManySymbols(t *testing.T) {
	var pairs []int
	for symbol := range 272 {
		pairs = append(pairs, symbol, 9)
	}
	s := head(272, pairs...)
	checkRead(t, s+bittext.Number(97, 9)+bittext.Number(271, 9)+bittext.Number(1, 8), 19, []api.Tok{tok('a'), copied(1, 18)}, len(s)+26)
	for _, n := range []int{273, 274, 300, 511} {
		checkNone(t, head(n, pairs...)+strings.Repeat(bittext.Number(271, 9)+"1001", 300), 0)
		checkNone(t, head(n, pairs...)+strings.Repeat(bittext.Number(272, 9)+"1001", 300), 0)
	}
}

// P7.2: a length of 0, and lengths that canon.Codes does not take.
func TestReadOfWrongLengths(t *testing.T) {
	for _, pairs := range [][]int{
		{97, 0},
		{97, 0, 98, 1},
		{97, 1, 98, 0},
		{97, 1, 98, 0, 99, 1},
		{97, 1, 98, 1, 99, 1},
		{97, 1, 98, 1, 99, 15},
		{97, 15, 98, 1, 99, 1},
		{97, 1, 98, 2, 99, 2, 271, 15},
	} {
		for _, many := range []int{0, 1, 2} {
			checkNone(t, symbols(pairs...)+bittext.Number(0, 40), many)
			checkNone(t, symbols(pairs...)+strings.Repeat("1", 40), many)
		}
	}
	checkRead(t, symbols(97, 1, 98, 2, 99, 3, 271, 3)+"110", 1, toks("c"), 61+3)
}

// P7.2: no symbol where there are bytes to tell.
func TestReadOfNoSymbol(t *testing.T) {
	for _, behind := range []string{"", "0", "1", bittext.Number(0, 40), strings.Repeat("1", 40)} {
		checkRead(t, "000000000"+behind, 0, nil, 9)
		for _, many := range []int{1, 2, 1000} {
			checkNone(t, "000000000"+behind, many)
		}
	}
}

// P7.2: bits with which no code begins.
func TestReadOfNoCode(t *testing.T) {
	checkNone(t, symbols(97, 1)+"1", 1)
	checkNone(t, symbols(97, 1)+strings.Repeat("1", 100), 1)
	checkNone(t, symbols(97, 1)+"01"+bittext.Number(0, 100), 2)
	checkNone(t, symbols(97, 15)+"000000000000001"+bittext.Number(0, 100), 1)
	checkNone(t, symbols(97, 2, 98, 2, 99, 2)+"11"+bittext.Number(0, 100), 1)
	checkNone(t, symbols(97, 1, 98, 15)+"100000000000001"+bittext.Number(0, 100), 1)
}

// P7.2: bits that end within each part.
func TestReadOfTooFew(t *testing.T) {
	s := symbols(97, 1, 98, 3, 271, 3)
	l := []api.Tok{tok('a'), copied(1, 18), tok('b'), tok('a')}
	all := s + "0" + "101" + "00000001" + "100" + "0"
	for n := range len(all) {
		checkNone(t, all[:n], 21)
	}
	checkRead(t, all, 21, l, len(all))
	// Within the number of symbols, a symbol, a length.
	for _, n := range []int{0, 1, 8, 9, 17, 18, 21} {
		checkNone(t, symbols(97, 1)[:n], 0)
	}
}

// P7.2: a Dist of 0, and copies from as many bytes ahead as were told, and from one more.
func TestReadOfCopies(t *testing.T) {
	s := symbols(97, 1, 258, 1)
	for ahead := range 12 {
		l := slices.Repeat(toks("a"), ahead)
		b := s + bittext.Number(0, ahead) + "1"
		for _, dist := range []int{0, 1, ahead - 1, ahead, ahead + 1, 255} {
			if dist >= 1 && dist <= ahead {
				checkRead(t, b+bittext.Number(dist, 8), ahead+5, append(slices.Clone(l), copied(dist, 5)), 35+ahead+9)
			} else if dist >= 0 {
				checkNone(t, b+bittext.Number(dist, 8), ahead+5)
			}
		}
	}
	// What a copy told counts, and what it tells itself does not.
	checkRead(t, s+"0 1 00000001 1 00000110", 11, []api.Tok{tok('a'), copied(1, 5), copied(6, 5)}, 35+19)
	checkNone(t, s+"0 1 00000001 1 00000111", 11)
	for _, ahead := range []int{254, 255, 256, 300} {
		b := s + bittext.Number(0, ahead) + "1" + bittext.Number(255, 8)
		if ahead < 255 {
			checkNone(t, b, ahead+5)
		} else {
			checkRead(t, b, ahead+5, append(slices.Repeat(toks("a"), ahead), copied(255, 5)), 35+ahead+9)
		}
	}
}

// P7.2: a copy with which the bytes would be more than many.
func TestReadOfMoreBytes(t *testing.T) {
	for size := 3; size <= 18; size++ {
		s := symbols(97, 1, 253+size, 1)
		b := s + "0 1 00000001" + bittext.Number(0, 40)
		checkRead(t, b, 1, toks("a"), 36)
		for many := 2; many < 1+size; many++ {
			checkNone(t, b, many)
		}
		checkRead(t, b, 1+size, []api.Tok{tok('a'), copied(1, size)}, 45)
		checkRead(t, b, 2+size, []api.Tok{tok('a'), copied(1, size), tok('a')}, 46)
	}
}

// P7.2: no bits at all, as an empty list and a nil one, and what lies behind a list.
func TestReadOfNoBits(t *testing.T) {
	for _, none := range [][]bool{nil, {}, bittext.Bits("000000000")[:0]} {
		for _, many := range []int{-1, 0, 1, 1000, 1001} {
			if l, end, ok := Read(none, many); len(l) != 0 || end != 0 || ok {
				t.Errorf("Read(%v, %d): %v, %d, %v", none, many, l, end, ok)
			}
		}
	}
	if l, end, ok := Read(bittext.Bits(symbols(97, 1) + "0")[:22], 1); len(l) != 0 || end != 0 || ok {
		t.Error(l, end, ok)
	}
}

// P7.1, P7.3: by the words, on tokens as of chapter 4, and on any.
func TestBackByTheWords(t *testing.T) {
	r := rand.New(rand.NewSource(7))
	for i := range 150 {
		l := match.Split(someText(r, i*6+r.Intn(100)))
		checkPlainWrite(t, l)
		checkBack(t, l)
		any := someToks(r, i*2+r.Intn(100))
		checkPlainWrite(t, any)
		for tells(any) > 1000 {
			any = any[:len(any)-1]
		}
		checkBack(t, any)
	}
	checkBack(t, nil)
	checkBack(t, allToks()[:256])
}

// someText tells n bytes, of few kinds or of many.
func someText(r *rand.Rand, n int) string {
	kinds := 1 << r.Intn(9)
	s := make([]byte, min(n, 1000))
	for i := range s {
		s[i] = byte(r.Intn(kinds) * 37)
	}
	return string(s)
}

// someToks tells n tokens, whose copies are not from more bytes ahead than were told.
func someToks(r *rand.Rand, n int) []api.Tok {
	var l []api.Tok
	told := 0
	for range n {
		next := tok(r.Intn(256) >> r.Intn(9))
		if told > 0 && r.Intn(3) == 0 {
			next = copied(1+r.Intn(min(told, 255)), 3+r.Intn(16)>>r.Intn(4))
		}
		l = append(l, next)
		told += max(1, next.Len)
	}
	return l
}

// P7.2, P7.3: by the words, on all bits there are of a few behind some symbols.
func TestReadByItsWords(t *testing.T) {
	for _, s := range []string{symbols(97, 1, 98, 2, 256, 3, 257, 3), symbols(97, 1), symbols(0, 2, 255, 2, 271, 3)} {
		for width := range 11 {
			for n := range 1 << width {
				checkPlainRead(t, s+"0"+bittext.Number(n, width), n%7)
				checkPlainRead(t, s+"000000"+bittext.Number(n, width), 7+n%8)
			}
		}
	}
}

// P7.2, P7.3: by the words, on what was written with a bit or some of them turned, or cut off, and on any bits.
func TestReadOfSpoiled(t *testing.T) {
	r := rand.New(rand.NewSource(8))
	read := 0
	for i := range 2000 {
		l := someToks(r, r.Intn(40))
		b, _ := Write(l)
		for range r.Intn(4) {
			at := r.Intn(len(b))
			b[at] = !b[at]
		}
		if i%5 == 0 {
			b = b[:r.Intn(len(b)+1)]
		}
		if checkPlainRead(t, bittext.Text(b), tells(l)+r.Intn(5)/4) {
			read++
		}
		any := make([]bool, r.Intn(200))
		for j := range any {
			any[j] = j > 7 && r.Intn(2) == 0
		}
		checkPlainRead(t, bittext.Text(any), r.Intn(4))
	}
	if read < 300 || read > 1700 {
		t.Errorf("%d of 2000 are read", read)
	}
}

// A panic of another kind is none of the bits' doing, and goes on.
func TestKnown(t *testing.T) {
	known(none{})
	defer func() {
		if wrong := recover(); wrong != "other" {
			t.Error(wrong)
		}
	}()
	known("other")
	t.Error("another panic did not go on")
}

// R4: no argument is changed, and an answer is new memory.
func TestArgumentsStay(t *testing.T) {
	l := match.Split("abcabcabcabcabd")
	first, _ := Write(l)
	again, _ := Write(l)
	kept := bittext.Text(first)
	if !slices.Equal(l, match.Split("abcabcabcabcabd")) {
		t.Error(l)
	}
	first[0] = !first[0]
	if bittext.Text(again) != kept {
		t.Error("two answers of Write share memory")
	}
	a, _, _ := Read(again, 15)
	b, _, _ := Read(again, 15)
	if bittext.Text(again) != kept {
		t.Error("Read changes its argument")
	}
	a[0] = tok(0)
	if !slices.Equal(b, l) {
		t.Error("two answers of Read share memory")
	}
	behind := bittext.Bits(kept + "111")
	Read(behind[:len(kept)], 15)
	if bittext.Text(behind) != kept+"111" {
		t.Error("Read changes what lies behind its argument")
	}
}

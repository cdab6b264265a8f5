package codec

import (
	"math"
	"math/rand"
	"strings"
	"testing"
	"unsafe"

	"ossuary/bittext"
	"ossuary/match"
	"ossuary/pack"
)

// digits tells the bits of s.
func digits(s string) string {
	var d strings.Builder
	for i := range len(s) {
		d.WriteString(bittext.Number(int(s[i]), 8))
	}
	return d.String()
}

// filled tells the bytes of d's digits, split by blanks for the eye; the last byte is filled up with 0.
func filled(d string) string {
	var s []byte
	for i, bit := range bittext.Bits(d) {
		if i%8 == 0 {
			s = append(s, 0)
		}
		if bit {
			s[i/8] |= 128 >> (i % 8)
		}
	}
	return string(s)
}

// symbols tells the digits of just these pairs: a symbol, and its length.
func symbols(pairs ...int) string {
	d := bittext.Number(len(pairs)/2, 9)
	for i := 0; i < len(pairs); i += 2 {
		d += bittext.Number(pairs[i], 9) + bittext.Number(pairs[i+1], 4)
	}
	return d
}

// zeros and ones tell n digits.
func zeros(n int) string {
	return strings.Repeat("0", n)
}

func ones(n int) string {
	return strings.Repeat("1", n)
}

// tokenDigits tells the digits of s as tokens, whatever length they have.
func tokenDigits(s string) string {
	b, _ := pack.Write(match.Split(s))
	return bittext.Text(b)
}

// plainEncode goes by the words.
func plainEncode(s string) (string, bool, bool) {
	if len(s) != 256 {
		return "", false, false
	}
	if d := tokenDigits(s); (len(d)+7)/8 < 256 {
		return filled(d), true, true
	}
	return s, false, true
}

// plainDecode goes by the words, for what is packed.
func plainDecode(s string) (string, bool) {
	d := digits(s)
	l, end, ok := pack.Read(bittext.Bits(d), 256)
	behind := d[end:]
	if !ok || len(behind) > 7 || strings.Contains(behind, "1") {
		return "", false
	}
	var told []byte
	for _, t := range l {
		if t.Len == 0 {
			told = append(told, byte(t.Byte))
		}
		for range t.Len {
			told = append(told, told[len(told)-t.Dist])
		}
	}
	return string(told), true
}

func checkEncode(t *testing.T, s, want string, packed, ok bool) {
	t.Helper()
	if e, p, o := Encode(s); e != want || p != packed || o != ok {
		t.Errorf("Encode(%q): %q, %v, %v, not %q, %v, %v", s, e, p, o, want, packed, ok)
	}
}

func checkDecode(t *testing.T, s string, packed bool, want string) {
	t.Helper()
	if b, ok := Decode(s, packed); b != want || !ok {
		t.Errorf("Decode(%q, %v): %q, %v, not %q", s, packed, b, ok, want)
	}
}

func checkNone(t *testing.T, s string, packed bool) {
	t.Helper()
	if b, ok := Decode(s, packed); b != "" || ok {
		t.Errorf("Decode(%q, %v): %q, %v, not none", s, packed, b, ok)
	}
}

// checkPlainDecode holds Decode of what is packed against its words, and tells whether there is a block.
func checkPlainDecode(t *testing.T, s string) bool {
	t.Helper()
	want, ok := plainDecode(s)
	if ok && len(want) == 256 {
		checkDecode(t, s, true, want)
	} else {
		checkNone(t, s, true)
	}
	return ok
}

// checkBlock holds P8.1, P8.2 and P8.4 for a block.
func checkBlock(t *testing.T, s string) {
	t.Helper()
	want, packed, ok := plainEncode(s)
	checkEncode(t, s, want, packed, ok)
	if len(want) > 256 || !packed && want != s {
		t.Errorf("Encode(%q): %d bytes, %v", s, len(want), packed)
	}
	checkDecode(t, want, packed, s)
	checkDecode(t, s, false, s)
	checkDecode(t, filled(tokenDigits(s)), true, s)
}

// anyBlock tells a block of at most so many kinds of bytes, some of whose parts may stand there again.
func anyBlock(r *rand.Rand, kinds, again int) string {
	b := make([]byte, 256)
	for i := range b {
		b[i] = byte(r.Intn(kinds) * 37)
	}
	for range again {
		from, to := r.Intn(256), r.Intn(256)
		copy(b[to:], string(b[from:min(256, from+r.Intn(30))]))
	}
	return string(b)
}

// allKinds tells a block in which each byte stands once.
func allKinds() string {
	b := make([]byte, 256)
	for i := range b {
		b[i] = byte(i * 77)
	}
	return string(b)
}

// someBlocks has blocks of one kind of bytes, of few kinds, and of all, without copies and with many.
func someBlocks() []string {
	l := []string{allKinds(), strings.Repeat("ab", 128), allKinds()[:128] + allKinds()[:128], strings.Repeat("a", 255) + "b", "b" + strings.Repeat("a", 255)}
	r := rand.New(rand.NewSource(9))
	for _, kinds := range []int{1, 2, 3, 4, 8, 16, 30, 40, 44, 48, 50, 60, 100, 200, 256} {
		for again := range 12 {
			l = append(l, anyBlock(r, kinds, again*again))
		}
	}
	return l
}

// P8.1, by hand: the byte 0, 14 copies of 18, and one of 3.
func TestEncode(t *testing.T) {
	packed := filled("000000011 000000000 0010 100000000 0010 100001111 0001" +
		"10" + strings.Repeat("0 00000001", 14) + "11 00000001")
	if len(packed) != 24 {
		t.Errorf("%d bytes", len(packed))
	}
	checkEncode(t, strings.Repeat("\x00", 256), packed, true, true)
	checkDecode(t, packed, true, strings.Repeat("\x00", 256))
}

// P8.1: texts of other lengths are no blocks.
func TestEncodeOfNoBlock(t *testing.T) {
	for _, n := range []int{0, 1, 2, 31, 32, 128, 254, 255, 257, 258, 511, 512, 65792, 1 << 20} {
		checkEncode(t, strings.Repeat("a", n), "", false, false)
		checkEncode(t, strings.Repeat(allKinds(), n/256+1)[:n], "", false, false)
	}
	// So many letters, but other bytes.
	checkEncode(t, strings.Repeat("é", 256), "", false, false)
	checkBlock(t, strings.Repeat("é", 128))
}

// P8.1, P8.4: blocks of each byte's repeats.
func TestOneKind(t *testing.T) {
	for b := range 256 {
		s := strings.Repeat(string([]byte{byte(b)}), 256)
		checkBlock(t, s)
		if e, packed, ok := Encode(s); len(e) != 24 || !packed || !ok {
			t.Errorf("256 bytes %d: %d bytes, %v, %v", b, len(e), packed, ok)
		}
	}
}

// P8.1: a block of all kinds is longer as tokens, and kept as it is.
func TestAllKinds(t *testing.T) {
	s := allKinds()
	checkEncode(t, s, s, false, true)
	checkBlock(t, s)
}

// P8.1, P8.2, P8.4
func TestManyBlocks(t *testing.T) {
	packed, not := 0, 0
	for _, s := range someBlocks() {
		checkBlock(t, s)
		if _, p, _ := Encode(s); p {
			packed++
		} else {
			not++
		}
	}
	if packed < 20 || not < 20 {
		t.Errorf("%d are packed, %d are not", packed, not)
	}
}

// blockOf tells a block whose tokens have so many bits.
func blockOf(t *testing.T, n int) string {
	t.Helper()
	r := rand.New(rand.NewSource(int64(n)))
	for range 20000 {
		if s := anyBlock(r, 40+r.Intn(20), r.Intn(3)); len(tokenDigits(s)) == n {
			return s
		}
	}
	t.Fatalf("no block has %d bits", n)
	return ""
}

// P8.1, P8.2: 253 to 261 packed bytes, that 0, 1, 6 and 7 bits fill up.
func TestPackedLength(t *testing.T) {
	for bytes := 253; bytes < 262; bytes++ {
		for _, fill := range []int{0, 1, 6, 7} {
			s := blockOf(t, bytes*8-fill)
			packed := filled(tokenDigits(s))
			if len(packed) != bytes {
				t.Errorf("%d bytes, not %d", len(packed), bytes)
			}
			if bytes < 256 {
				checkEncode(t, s, packed, true, true)
			} else {
				checkEncode(t, s, s, false, true)
			}
			checkDecode(t, packed, true, s)
			checkBlock(t, s)
		}
	}
}

// P8.2: what is not packed is a block just if it has 256 bytes, whatever these are.
func TestDecodeNotPacked(t *testing.T) {
	for _, n := range []int{0, 1, 2, 31, 32, 128, 254, 255, 257, 258, 511, 512, 65792, 1 << 20} {
		checkNone(t, strings.Repeat("\x00", n), false)
		checkNone(t, strings.Repeat(allKinds(), n/256+1)[:n], false)
	}
	for _, s := range someBlocks() {
		checkDecode(t, s, false, s)
		packed := filled(tokenDigits(s))
		if len(packed) != 256 {
			checkNone(t, packed, false)
		}
	}
	// 256 bytes that are a block's tokens are a block of their own, if they are not packed.
	s := filled(tokenDigits(blockOf(t, 2048)))
	checkDecode(t, s, false, s)
}

// P8.2, by hand.
func TestDecodePacked(t *testing.T) {
	a := symbols(97, 1)
	checkDecode(t, filled(a+zeros(256)), true, strings.Repeat("a", 256))
	ab := symbols(97, 1, 98, 1)
	checkDecode(t, filled(ab+strings.Repeat("01", 128)), true, strings.Repeat("ab", 128))
	checkDecode(t, filled(ab+ones(256)), true, strings.Repeat("b", 256))
	far := symbols(0, 1, 255, 2, 271, 2)
	checkDecode(t, filled(far+"10"+zeros(237)+"11 11101110"), true, "\xff"+zeroBytes(237)+"\xff"+zeroBytes(17))
	// Lengths, and copies, that Encode does not choose are taken.
	checkDecode(t, filled(symbols(97, 15)+zeros(15*256)), true, strings.Repeat("a", 256))
	checkDecode(t, filled(symbols(97, 2, 98, 7, 99, 9)+zeros(512)), true, strings.Repeat("a", 256))
}

func zeroBytes(n int) string {
	return strings.Repeat("\x00", n)
}

// fill tells how many bits fill up the last byte of d's digits.
func fill(d string) int {
	return (8 - len(d)%8) % 8
}

// bees tells the digits of n bytes b, of two bits, among 256, and the block.
func bees(n int) (string, string) {
	return symbols(97, 1, 98, 2) + strings.Repeat("10", n) + zeros(256-n), strings.Repeat("b", n) + strings.Repeat("a", 256-n)
}

// P8.2: 0 to 7 bits 0 behind the tokens' bits; a bit 1 among these; a byte more, and one less.
func TestDecodeFill(t *testing.T) {
	seen := map[int]bool{}
	for n := range 20 {
		d, s := bees(n)
		packed := filled(d)
		seen[fill(d)] = true
		checkDecode(t, packed, true, s)
		for at := range fill(d) {
			checkNone(t, filled(d+zeros(at)+"1"), true)
			checkNone(t, filled(d+zeros(at)+ones(fill(d)-at)), true)
		}
		for _, more := range []string{"\x00", "\x01", "\x80", "\xff", "\x00\x00", zeroBytes(32), packed} {
			checkNone(t, packed+more, true)
		}
		checkNone(t, packed[:len(packed)-1], true)
		checkNone(t, packed[1:], true)
		checkNone(t, "\x00"+packed, true)
	}
	if len(seen) != 8 {
		t.Errorf("fill of %v", seen)
	}
}

// P8.2: each prefix of packed bytes is none.
func TestDecodeTooFew(t *testing.T) {
	for _, s := range []string{strings.Repeat("a", 256), strings.Repeat("ab", 128), blockOf(t, 2040), allKinds()} {
		packed := filled(tokenDigits(s))
		for n := range packed {
			checkNone(t, packed[:n], true)
		}
		checkNone(t, packed+"\x00", true)
	}
}

// checkTells holds that packed bytes of d's digits, whose tokens tell s, are a block just if s has 256 bytes.
func checkTells(t *testing.T, d, s string) {
	t.Helper()
	if len(s) == 256 {
		checkDecode(t, filled(d), true, s)
	} else {
		checkNone(t, filled(d), true)
	}
}

// P8.2: packed bytes whose tokens tell 255, 256 and 257 bytes, at last a byte, or a copy.
func TestDecodeOfOtherLengths(t *testing.T) {
	// Each code has nine bits, so that the bits that fill up are no token.
	head := symbols(97, 9, 98, 9, 256, 9)
	a, b, copied := zeros(9), zeros(8)+"1", zeros(7)+"10"+"00000001"
	for n := 240; n < 270; n++ {
		checkTells(t, head+strings.Repeat(a, n), strings.Repeat("a", n))
		checkTells(t, head+strings.Repeat(a, n-1)+b, strings.Repeat("a", n-1)+"b")
		checkTells(t, head+strings.Repeat(b, n-3)+copied, strings.Repeat("b", n))
		checkTells(t, head+b+copied+strings.Repeat(a, n-4), "bbbb"+strings.Repeat("a", n-4))
	}
	checkTells(t, head, "")
	checkTells(t, head+strings.Repeat(b, 512), strings.Repeat("b", 512))
}

// P8.2: by the words, bits 0 that fill up are a token, if one is missing, and a token that is only bits 0 fills up, if it is one too many.
func TestDecodeFillIsToken(t *testing.T) {
	a := symbols(97, 1)
	for n := 240; n < 270; n++ {
		// Of so many tokens the bytes are the same ones.
		if d := filled(a + zeros(n)); n >= 251 && n <= 258 {
			checkDecode(t, d, true, strings.Repeat("a", 256))
		} else {
			checkNone(t, d, true)
		}
	}
	b := symbols(97, 1, 98, 1)
	checkDecode(t, filled(b+ones(255)), true, strings.Repeat("b", 255)+"a")
	checkNone(t, filled(b+ones(257)), true)
}

// P8.2: bytes that are none of tokens, and no bytes at all.
func TestDecodeOfNoTokens(t *testing.T) {
	for _, d := range []string{
		"",
		"0",
		zeros(9),
		zeros(16),
		zeros(9) + zeros(256),
		ones(2048),
		symbols(97, 0) + zeros(256),
		symbols(97, 1),
		symbols(272, 1) + zeros(256),
		symbols(97, 1, 97, 1) + zeros(256),
		symbols(98, 1, 97, 1) + zeros(256),
		symbols(97, 1, 98, 1, 99, 15) + zeros(256),
		// A bit with which no code begins.
		symbols(97, 1) + zeros(255) + "1",
		// Copies from more bytes ahead than there are, and from none.
		symbols(97, 1, 271, 1) + strings.Repeat("1 00000001", 15),
		symbols(97, 1, 271, 1) + "0 1 00000010" + strings.Repeat("1 00000001", 15),
		symbols(97, 1, 271, 1) + zeros(238) + "1 00000000",
		symbols(97, 1, 271, 1) + zeros(238) + "1 11101111",
	} {
		checkNone(t, filled(d), true)
	}
	checkDecode(t, filled(symbols(97, 1, 271, 1)+zeros(238)+"1 11101110"), true, strings.Repeat("a", 256))
	for _, s := range []string{allKinds(), strings.Repeat("a", 256), strings.Repeat("\xff", 256), "what", zeroBytes(24), zeroBytes(1 << 20)} {
		checkNone(t, s, true)
	}
}

// P8.2, R1: as many packed bytes as a block can have, and more, also very many.
func TestDecodeLong(t *testing.T) {
	var pairs []int
	for symbol := range 272 {
		pairs = append(pairs, symbol, 15)
	}
	packed := filled(symbols(pairs...) + strings.Repeat(bittext.Number(97, 15), 256))
	if len(packed) != 924 {
		t.Errorf("%d bytes", len(packed))
	}
	checkDecode(t, packed, true, strings.Repeat("a", 256))
	for _, more := range []int{1, 2, 100, 1 << 10, 1 << 24} {
		checkNone(t, packed+zeroBytes(more), true)
		checkNone(t, packed[:500]+zeroBytes(more), true)
	}
}

// P8.2, P8.4: all texts of up to two bytes.
func TestDecodeOfShort(t *testing.T) {
	checkNone(t, "", true)
	checkNone(t, "", false)
	for a := range 256 {
		checkNone(t, string([]byte{byte(a)}), true)
		for b := range 256 {
			checkNone(t, string([]byte{byte(a), byte(b)}), true)
		}
	}
}

// P8.2, P8.4: packed bytes with some bits turned, or cut, or with more behind, and any bytes.
func TestDecodeOfSpoiled(t *testing.T) {
	r := rand.New(rand.NewSource(10))
	decoded := 0
	for i := range 3000 {
		d := tokenDigits(anyBlock(r, 1+r.Intn(60), r.Intn(20)))
		packed := []byte(filled(d))
		for range r.Intn(4) {
			// Rather behind the symbols than among them: there it is more often a block still.
			behind := min(r.Intn(len(packed)), r.Intn(len(packed)))
			packed[len(packed)-1-behind] ^= 1 << r.Intn(8)
		}
		if i%5 == 0 {
			packed = append(packed[:r.Intn(len(packed))], byte(r.Intn(256)))
		}
		if checkPlainDecode(t, string(packed)) {
			decoded++
		}
		// Bytes that tell few symbols, and bytes that tell however many.
		loose := make([]byte, r.Intn(400))
		r.Read(loose)
		checkPlainDecode(t, string(loose))
		checkPlainDecode(t, "\x00"+string(loose))
	}
	if decoded < 300 || decoded > 2700 {
		t.Errorf("%d of 3000 are decoded", decoded)
	}
}

// P8.3
func TestSectors(t *testing.T) {
	for n, want := range map[int]int{
		math.MinInt: 0, math.MinInt + 1: 0, -32: 0, -31: 0, -1: 0,
		0: 0, 1: 1, 2: 1, 31: 1, 32: 1, 33: 2, 63: 2, 64: 2, 65: 3,
		255: 8, 256: 8, 257: 9,
		math.MaxInt: math.MaxInt/32 + 1, math.MaxInt - 31: math.MaxInt / 32, math.MaxInt - 30: math.MaxInt/32 + 1,
	} {
		if got := Sectors(n); got != want {
			t.Errorf("Sectors(%d): %d, not %d", n, got, want)
		}
	}
	// One more for each 32 bytes that were begun.
	want := 0
	for n := range 5000 {
		if n%32 == 1 {
			want++
		}
		if got := Sectors(n); got != want {
			t.Errorf("Sectors(%d): %d, not %d", n, got, want)
		}
	}
}

// R4: an answer is new memory.
func TestAnswersAreNew(t *testing.T) {
	s := allKinds()
	kept, _, _ := Encode(s)
	again, _, _ := Encode(s)
	back, _ := Decode(s, false)
	twice, _ := Decode(s, false)
	packed, _, _ := Encode(strings.Repeat("a", 256))
	other, _, _ := Encode(strings.Repeat("a", 256))
	one, _ := Decode(packed, true)
	two, _ := Decode(packed, true)
	for i, l := range [][]string{{s, kept, again, back, twice}, {packed, other}, {one, two}} {
		for j, a := range l {
			for k, b := range l[:j] {
				if a != b || unsafe.StringData(a) == unsafe.StringData(b) {
					t.Errorf("%d: %d and %d differ, or share their bytes", i, j, k)
				}
			}
		}
	}
}

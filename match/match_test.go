package match

import (
	"math"
	"math/rand"
	"slices"
	"strings"
	"testing"
	"unsafe"

	"ossuary/api"
)

func lit(b byte) api.Tok {
	return api.Tok{Byte: int(b)}
}

func lits(s string) []api.Tok {
	var l []api.Tok
	for i := range len(s) {
		l = append(l, lit(s[i]))
	}
	return l
}

func cp(dist, size int) api.Tok {
	return api.Tok{Dist: dist, Len: size}
}

func join(parts ...[]api.Tok) []api.Tok {
	return slices.Concat(parts...)
}

func one(t ...api.Tok) []api.Tok {
	return t
}

// apart tells n bytes of which no three beside each other stand there twice, and none is above 0xdf.
func apart(n int) string {
	var b strings.Builder
	for i := 0; b.Len() < n; i++ {
		b.WriteByte(byte(i % 0xe0))
		b.WriteByte(byte(i / 0xe0))
	}
	return b.String()[:n]
}

// plainLongest tries all copies that there are, by the words of P4.1.
func plainLongest(s string, at int) (int, int) {
	dist, size := 0, 0
	if at < 0 || at >= len(s) {
		return 0, 0
	}
	for d := 1; d <= at && d <= 255; d++ {
		n := 0
		for n < 18 && at+n < len(s) && s[at+n] == s[at+n-d] {
			n++
		}
		if n >= 3 && n > size {
			dist, size = d, n
		}
	}
	return dist, size
}

func plainSplit(s string) []api.Tok {
	var l []api.Tok
	for at := 0; at < len(s); {
		dist, size := plainLongest(s, at)
		if size == 0 {
			l = append(l, lit(s[at]))
			at++
		} else {
			l = append(l, cp(dist, size))
			at += size
		}
	}
	return l
}

// someTexts has texts of few and of many kinds of bytes, so that there are copies of all lengths, near and far.
func someTexts() []string {
	r := rand.New(rand.NewSource(4))
	l := []string{"", "a", "aa", "aaa", "aaaa", "abcabc", strings.Repeat("ab", 300), strings.Repeat("\x00", 256), apart(600)}
	for _, kinds := range []int{1, 2, 3, 5, 20, 256} {
		for _, n := range []int{3, 17, 18, 19, 40, 255, 256, 257, 258, 259, 700} {
			b := make([]byte, n)
			for i := range b {
				b[i] = byte(r.Intn(kinds))
			}
			l = append(l, string(b))
			// Longer copies, from all ways ahead.
			for i := range 12 {
				from, to := r.Intn(n), r.Intn(n)
				copy(b[to:], string(b[from:min(n, from+3+2*i)]))
			}
			l = append(l, string(b))
		}
	}
	return l
}

func checkLongest(t *testing.T, s string, at, dist, size int) {
	t.Helper()
	if d, n := Longest(s, at); d != dist || n != size {
		t.Errorf("Longest(%q, %d): %d, %d, not %d, %d", s, at, d, n, dist, size)
	}
}

// P4.1
func TestLongest(t *testing.T) {
	checkLongest(t, "aaaaa", 1, 1, 4)
	checkLongest(t, "abcabc", 3, 3, 3)
	checkLongest(t, "abcabcab", 3, 3, 5)
	checkLongest(t, "abcdeabcdx", 5, 5, 4)
	checkLongest(t, "\x00\xff\x80\x00\xff\x80", 3, 3, 3)
	// From between, where a copy goes on with other bytes.
	checkLongest(t, "abcabc", 2, 0, 0)
	checkLongest(t, "abcdabcd", 5, 4, 3)
}

// P4.1: places that are none, and the first one and the last ones.
func TestLongestPlaces(t *testing.T) {
	for _, s := range []string{"", "a", "abc", "aaaaaaaa", "abcabcabc"} {
		for _, at := range []int{math.MinInt, -256, -3, -1, 0, len(s), len(s) + 1, len(s) + 300, math.MaxInt} {
			checkLongest(t, s, at, 0, 0)
		}
	}
	checkLongest(t, "aaaaaaaa", 5, 1, 3)
	checkLongest(t, "aaaaaaaa", 6, 0, 0)
	checkLongest(t, "aaaaaaaa", 7, 0, 0)
}

// P4.1: a Len of 2, 3, 18 and more, also of what is up to the text's end.
func TestLongestLen(t *testing.T) {
	checkLongest(t, "abxaby", 3, 0, 0)
	checkLongest(t, "abcxabcy", 4, 4, 3)
	checkLongest(t, "abxab", 3, 0, 0)
	checkLongest(t, "abcxabc", 4, 4, 3)
	for n := 3; n <= 30; n++ {
		s := apart(n) + "\xfe" + apart(n)
		checkLongest(t, s, n+1, n+1, min(n, 18))
		checkLongest(t, s+"\xff", n+1, n+1, min(n, 18))
		// What a copy tells reaches into itself.
		checkLongest(t, strings.Repeat("z", n+1), 1, 1, min(n, 18))
		checkLongest(t, "xyxy"+strings.Repeat("xy", n), 2, 2, 18-max(0, 16-2*n))
	}
}

// P4.1: a Dist of 1, of as many bytes as stand ahead, of 255 and of 256.
func TestLongestDist(t *testing.T) {
	for _, far := range []int{3, 4, 100, 253, 254, 255} {
		s := "\xf0\xf1\xf2" + apart(far-3)
		checkLongest(t, s+"\xf0\xf1\xf2", far, far, 3)
		checkLongest(t, "\xf9"+s+"\xf0\xf1\xf2", far+1, far, 3)
	}
	for _, far := range []int{256, 257, 300, 512} {
		s := "\xf0\xf1\xf2" + apart(far-3)
		checkLongest(t, s+"\xf0\xf1\xf2", far, 0, 0)
		checkLongest(t, "\xf9"+s+"\xf0\xf1\xf2", far+1, 0, 0)
	}
	// A longer copy that is too far does not stand in a shorter one's way.
	far := "\xf0\xf1\xf2\xf3\xf4" + apart(200) + "\xf0\xf1\xf2" + apart(48)
	checkLongest(t, far+"\xf0\xf1\xf2\xf3\xf4", 256, 51, 3)
}

// P4.1: of several copies the longest, and of one Len the least Dist.
func TestLongestOfSeveral(t *testing.T) {
	checkLongest(t, "abc1abc2abc3", 8, 4, 3)
	checkLongest(t, "abcd1abc2abcd3", 9, 9, 4)
	checkLongest(t, "abc1abcd2abcd3", 9, 5, 4)
	checkLongest(t, "abcd1abcd2abc3abcd4", 14, 9, 4)
	long := apart(18)
	checkLongest(t, long+"\xf0"+long+"\xf1"+long+"\xf2", 38, 19, 18)
	// Copies that would be longer than 18 bytes are of one Len.
	longer := apart(25)
	checkLongest(t, longer+"\xf0"+longer[:18]+"\xf1"+longer, 45, 19, 18)
	checkLongest(t, strings.Repeat("a", 300), 280, 1, 18)
}

func TestLongestByTrying(t *testing.T) {
	for _, s := range someTexts() {
		for at := -2; at < len(s)+3; at++ {
			dist, size := plainLongest(s, at)
			checkLongest(t, s, at, dist, size)
		}
	}
}

func checkSplit(t *testing.T, s string, want []api.Tok) {
	t.Helper()
	if got := Split(s); !slices.Equal(got, want) {
		t.Errorf("Split(%q): %v, not %v", s, got, want)
	}
}

// P4.2
func TestSplit(t *testing.T) {
	checkSplit(t, "", nil)
	checkSplit(t, "a", lits("a"))
	checkSplit(t, "aaa", lits("aaa"))
	checkSplit(t, "aaaa", one(lit('a'), cp(1, 3)))
	checkSplit(t, "aaaaa", one(lit('a'), cp(1, 4)))
	checkSplit(t, "\x00\xff\x00", lits("\x00\xff\x00"))
	checkSplit(t, "abcabc", join(lits("abc"), one(cp(3, 3))))
	checkSplit(t, "abxaby", lits("abxaby"))
	checkSplit(t, "abcabcxabcx", join(lits("abc"), one(cp(3, 3), lit('x'), cp(4, 4))))
	checkSplit(t, "abc1abc2abc3", join(lits("abc1"), one(cp(4, 3)), lits("2"), one(cp(4, 3)), lits("3")))
	// A copy from within what a copy told, where none begins.
	checkSplit(t, "abcdefabcdefYdefX", join(lits("abcdef"), one(cp(6, 6)), lits("Y"), one(cp(4, 3)), lits("X")))
	checkSplit(t, "aaaaaaYaaaaaX", join(lits("a"), one(cp(1, 5)), lits("Y"), one(cp(6, 5)), lits("X")))
	// The first copy is taken, also where a longer one begins behind it.
	checkSplit(t, "abcXbcdefYabcdef", join(lits("abcXbcdefY"), one(cp(10, 3), cp(7, 3))))
	// 1 byte, and 18 with each copy.
	checkSplit(t, strings.Repeat("z", 19), one(lit('z'), cp(1, 18)))
	checkSplit(t, strings.Repeat("z", 20), one(lit('z'), cp(1, 18), lit('z')))
	checkSplit(t, strings.Repeat("z", 22), one(lit('z'), cp(1, 18), cp(1, 3)))
}

// P4.2: what Longest tells at each place.
func TestSplitByTrying(t *testing.T) {
	for _, s := range someTexts() {
		checkSplit(t, s, plainSplit(s))
	}
	far := "\xf0\xf1\xf2"
	checkSplit(t, far+apart(252)+far, join(lits(far+apart(252)), one(cp(255, 3))))
	checkSplit(t, far+apart(253)+far, lits(far+apart(253)+far))
}

func checkExpand(t *testing.T, l []api.Tok, most int, want string, may bool) {
	t.Helper()
	if got, ok := Expand(l, most); got != want || ok != may {
		t.Errorf("Expand(%v, %d): %q, %v, not %q, %v", l, most, got, ok, want, may)
	}
}

// P4.2
func TestExpand(t *testing.T) {
	checkExpand(t, lits("abc\x00\xff"), 5, "abc\x00\xff", true)
	checkExpand(t, one(lit('a'), cp(1, 4)), 100, "aaaaa", true)
	checkExpand(t, join(lits("ab"), one(cp(2, 5), lit('c'), cp(3, 3))), 100, "abababacbac", true)
	checkExpand(t, join(lits("abc"), one(cp(3, 3))), 100, "abcabc", true)
	checkExpand(t, join(lits("abcd"), one(cp(4, 3), cp(7, 7))), 100, "abcdabcabcdabc", true)
	checkExpand(t, one(lit('z'), cp(1, 18), cp(19, 18)), math.MaxInt, strings.Repeat("z", 37), true)
}

// P4.2: a Dist of as many bytes as stand ahead, and of one more; of 255 and of 256.
func TestExpandDist(t *testing.T) {
	checkExpand(t, one(cp(1, 3)), 100, "", false)
	for _, ahead := range []int{1, 2, 3, 4, 254} {
		s := apart(ahead)
		want := s
		for range 5 {
			want += want[len(want)-ahead : len(want)-ahead+1]
		}
		checkExpand(t, append(lits(s), cp(ahead, 5)), 1000, want, true)
		checkExpand(t, append(lits(s), cp(ahead+1, 5)), 1000, "", false)
	}
	s := apart(300)
	checkExpand(t, append(lits(s), cp(255, 18)), 1000, s+s[45:63], true)
	checkExpand(t, append(lits(s), cp(256, 18)), 1000, "", false)
	checkExpand(t, append(lits(s), cp(0, 18)), 1000, "", false)
	// What copies told counts as ahead.
	checkExpand(t, one(lit('a'), cp(1, 3), cp(4, 3)), 100, "aaaaaaa", true)
	checkExpand(t, one(lit('a'), cp(1, 3), cp(5, 3)), 100, "", false)
}

// P4.2: as many bytes as most, one fewer, and one more; most of 0 and below 0.
func TestExpandMost(t *testing.T) {
	for _, c := range []struct {
		l    []api.Tok
		want string
	}{
		{lits("a"), "a"},
		{lits("abc"), "abc"},
		{one(lit('a'), cp(1, 3)), "aaaa"},
		{one(lit('a'), cp(1, 18)), strings.Repeat("a", 19)},
		{one(lit('a'), cp(1, 3), lit('b')), "aaaab"},
	} {
		n := len(c.want)
		checkExpand(t, c.l, n, c.want, true)
		checkExpand(t, c.l, n+1, c.want, true)
		checkExpand(t, c.l, math.MaxInt, c.want, true)
		for _, fewer := range []int{n - 1, 0, -1, -18, math.MinInt, math.MinInt + 1} {
			checkExpand(t, c.l, fewer, "", false)
		}
	}
	// As many as there may be, less some of a copy's.
	checkExpand(t, one(lit('a'), cp(1, 18)), 2, "", false)
	for _, most := range []int{0, 1, 256, math.MaxInt, -1, math.MinInt} {
		checkExpand(t, nil, most, "", true)
		checkExpand(t, []api.Tok{}, most, "", true)
		checkExpand(t, lits("a")[:0], most, "", true)
	}
}

// P4.2: tokens that may not be, wherever they stand.
func TestExpandWrongTokens(t *testing.T) {
	for _, wrong := range wrongTokens() {
		checkExpand(t, one(wrong), 1000, "", false)
		checkExpand(t, append(lits("abcdef"), wrong), 1000, "", false)
		checkExpand(t, append(lits(apart(300)), wrong, lit('a')), 1000, "", false)
		checkExpand(t, append(one(wrong), lits("abc")...), 1000, "", false)
		checkExpand(t, one(wrong), math.MaxInt, "", false)
	}
}

func wrongTokens() []api.Tok {
	l := []api.Tok{
		{Byte: -1}, {Byte: 256}, {Byte: math.MinInt}, {Byte: math.MaxInt},
		// Bytes with something of a copy.
		{Dist: 1}, {Dist: -1}, {Dist: 255}, {Byte: 97, Dist: 1}, {Byte: 255, Dist: 3},
		{Len: 1}, {Len: 3}, {Len: 18}, {Len: -1}, {Len: -3}, {Byte: 97, Len: 3},
		// Copies with a byte.
		{Byte: 1, Dist: 1, Len: 3}, {Byte: 97, Dist: 5, Len: 5}, {Byte: -1, Dist: 1, Len: 3}, {Byte: 255, Dist: 255, Len: 18},
		{Byte: 256, Dist: 1, Len: 3},
	}
	for _, dist := range []int{0, -1, 256, 257, math.MinInt, math.MaxInt} {
		l = append(l, cp(dist, 3), cp(dist, 18))
	}
	for _, size := range []int{1, 2, 19, 20, -1, -3, -18, math.MinInt, math.MaxInt} {
		l = append(l, cp(1, size), cp(255, size))
	}
	return l
}

// P4, words: a token may be.
func TestMay(t *testing.T) {
	for b := range 256 {
		if !May(lit(byte(b))) {
			t.Errorf("the byte %d may not be", b)
		}
	}
	for dist := 1; dist <= 255; dist++ {
		for size := 3; size <= 18; size++ {
			if !May(cp(dist, size)) {
				t.Errorf("the copy %d, %d may not be", dist, size)
			}
		}
	}
	for _, wrong := range wrongTokens() {
		if May(wrong) {
			t.Errorf("%v may be", wrong)
		}
	}
}

// P4.3
func TestSplitIsExpanded(t *testing.T) {
	for _, s := range someTexts() {
		l := Split(s)
		if len(l) > len(s) {
			t.Errorf("Split(%q): %d tokens of %d bytes", s, len(l), len(s))
		}
		for _, tok := range l {
			if !May(tok) {
				t.Errorf("Split(%q): %v may not be", s, tok)
			}
		}
		checkExpand(t, l, len(s), s, true)
		if s != "" {
			checkExpand(t, l, len(s)-1, "", false)
		}
	}
}

// R1: long texts and lists.
func TestLong(t *testing.T) {
	for _, s := range []string{strings.Repeat("a", 1<<20), strings.Repeat(apart(500), 1000), strings.Repeat("abcx", 1<<17)} {
		l := Split(s)
		if got, ok := Expand(l, len(s)); got != s || !ok {
			t.Errorf("%d bytes are not expanded to what they were", len(s))
		}
		Longest(s, len(s)/2)
	}
}

// R4
func TestArgumentsStay(t *testing.T) {
	l := join(lits("abc"), one(cp(3, 5), lit('x')))
	was := slices.Clone(l)
	Expand(l, 100)
	Expand(l, 4)
	if !slices.Equal(l, was) {
		t.Errorf("Expand made %v of %v", l, was)
	}
}

// R4
func TestAnswersAreNew(t *testing.T) {
	s := "abcabcabcx"
	a, b := Split(s), Split(s)
	a[0] = cp(9, 9)
	checkSplit(t, s, b)
	l := lits("abcdef")
	x, _ := Expand(l, 10)
	y, _ := Expand(l, 10)
	if unsafe.StringData(x) == unsafe.StringData(y) {
		t.Error("two answers of Expand share their bytes")
	}
}

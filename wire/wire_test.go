package wire

import (
	"encoding/binary"
	"math"
	"math/rand"
	"slices"
	"strings"
	"testing"
	"unsafe"
)

// plainNum goes by the words: the fewest bytes of which each has seven bits of n.
func plainNum(n int) string {
	if n < 0 || n >= 1<<40 {
		return ""
	}
	bytes := 1
	for n>>(7*bytes) > 0 {
		bytes++
	}
	b := make([]byte, bytes)
	for i := range b {
		b[i] = byte(n >> (7 * i) & 127)
		if i < bytes-1 {
			b[i] += 128
		}
	}
	return string(b)
}

// plainTake goes by the words: it looks for a number whose bytes stand at at.
func plainTake(s string, at int) (int, int, bool) {
	if at < 0 || at > len(s) {
		return 0, 0, false
	}
	n := 0
	for i, b := range []byte(s[at:min(len(s), at+6)]) {
		n += int(b&127) << (7 * i)
		if told := plainNum(n); told != "" && strings.HasPrefix(s[at:], told) {
			return n, at + len(told), true
		}
	}
	return 0, 0, false
}

func plainText(s string) string {
	return plainNum(len(s)) + s
}

func plainInts(l []int) string {
	b := []byte(plainNum(len(l)))
	for _, n := range l {
		if plainNum(n) == "" {
			return ""
		}
		b = append(b, plainNum(n)...)
	}
	return string(b)
}

func plainTakeText(s string, at int) (string, int, bool) {
	n, at, ok := plainTake(s, at)
	if !ok || len(s[at:]) < n {
		return "", 0, false
	}
	return s[at : at+n], at + n, true
}

func plainTakeInts(s string, at int) ([]int, int, bool) {
	many, at, ok := plainTake(s, at)
	var l []int
	for ok && len(l) < many {
		var n int
		n, at, ok = plainTake(s, at)
		l = append(l, n)
	}
	if !ok {
		return nil, 0, false
	}
	return l, at, true
}

// brief tells s, or how it begins.
func brief(s string) string {
	return s[:min(len(s), 40)]
}

func checkNum(t *testing.T, n int, want string) {
	t.Helper()
	if got := Num(n); got != want {
		t.Errorf("Num(%d): %q, not %q", n, got, want)
	}
}

func checkTake(t *testing.T, s string, at, want, end int) {
	t.Helper()
	if n, e, ok := Take(s, at); n != want || e != end || !ok {
		t.Errorf("Take(%q.., %d): %d, %d, %v, not %d, %d", brief(s), at, n, e, ok, want, end)
	}
}

func checkNoTake(t *testing.T, s string, at int) {
	t.Helper()
	if n, end, ok := Take(s, at); n != 0 || end != 0 || ok {
		t.Errorf("Take(%q.., %d): %d, %d, %v, not none", brief(s), at, n, end, ok)
	}
}

func checkText(t *testing.T, s, want string) {
	t.Helper()
	if got := Text(s); got != want {
		t.Errorf("Text(%q..): %q.., not %q..", brief(s), brief(got), brief(want))
	}
}

func checkTakeText(t *testing.T, s string, at int, want string, end int) {
	t.Helper()
	if got, e, ok := TakeText(s, at); got != want || e != end || !ok {
		t.Errorf("TakeText(%q.., %d): %q.., %d, %v, not %q.., %d", brief(s), at, brief(got), e, ok, brief(want), end)
	}
}

func checkNoTakeText(t *testing.T, s string, at int) {
	t.Helper()
	if got, end, ok := TakeText(s, at); got != "" || end != 0 || ok {
		t.Errorf("TakeText(%q.., %d): %q.., %d, %v, not none", brief(s), at, brief(got), end, ok)
	}
}

func checkInts(t *testing.T, l []int, want string) {
	t.Helper()
	if got := Ints(l); got != want {
		t.Errorf("Ints of %d numbers: %q.., not %q..", len(l), brief(got), brief(want))
	}
}

func checkTakeInts(t *testing.T, s string, at int, want []int, end int) {
	t.Helper()
	if l, e, ok := TakeInts(s, at); !slices.Equal(l, want) || e != end || !ok {
		t.Errorf("TakeInts(%q.., %d): %d numbers, %d, %v, not %d, %d", brief(s), at, len(l), e, ok, len(want), end)
	}
}

func checkNoTakeInts(t *testing.T, s string, at int) {
	t.Helper()
	if l, end, ok := TakeInts(s, at); len(l) != 0 || end != 0 || ok {
		t.Errorf("TakeInts(%q.., %d): %d numbers, %d, %v, not none", brief(s), at, len(l), end, ok)
	}
}

// checkNone holds that neither a number stands at at, nor what begins with one.
func checkNone(t *testing.T, s string, at int) {
	t.Helper()
	checkNoTake(t, s, at)
	checkNoTakeText(t, s, at)
	checkNoTakeInts(t, s, at)
}

// checkTakes holds what is taken from at on against the words; and that it, told again, is the bytes that it was taken from.
func checkTakes(t *testing.T, s string, at int) {
	t.Helper()
	if want, end, ok := plainTake(s, at); ok {
		checkTake(t, s, at, want, end)
		checkNum(t, want, s[at:end])
	} else {
		checkNoTake(t, s, at)
	}
	if want, end, ok := plainTakeText(s, at); ok {
		checkTakeText(t, s, at, want, end)
		checkText(t, want, s[at:end])
	} else {
		checkNoTakeText(t, s, at)
	}
	if want, end, ok := plainTakeInts(s, at); ok {
		checkTakeInts(t, s, at, want, end)
		checkInts(t, want, s[at:end])
	} else {
		checkNoTakeInts(t, s, at)
	}
}

// wrongPlaces tells places that s does not have.
func wrongPlaces(s string) []int {
	return []int{math.MinInt, math.MinInt + 1, -1 << 40, -256, -2, -1, len(s) + 1, len(s) + 2, len(s) + 256, 1 << 40, math.MaxInt - 1, math.MaxInt}
}

// someNumbers has those at which the bytes become more, those beside them, and any.
func someNumbers() []int {
	l := []int{0, 1, 2, 300}
	for bit := range 40 {
		l = append(l, 1<<bit-1, 1<<bit, 1<<bit+1)
	}
	l = append(l, 1<<40-2, 1<<40-1)
	return append(l, anyNumbers(rand.New(rand.NewSource(10)), 1000)...)
}

// anyNumbers tells n numbers, of each number of bits some.
func anyNumbers(r *rand.Rand, n int) []int {
	l := make([]int, n)
	for i := range l {
		l[i] = r.Intn(1 << r.Intn(41))
	}
	return l
}

// noNumbers has those of which nothing is told.
func noNumbers() []int {
	return []int{math.MinInt, math.MinInt + 1, -1 << 40, -1 << 32, -300, -128, -127, -2, -1, 1 << 40, 1<<40 + 1, 1<<40 + 300, 1<<41 - 1, 1 << 41, 1 << 42, 1 << 47, 1 << 56, 1 << 62, math.MaxInt - 1, math.MaxInt}
}

// numbers tells the n numbers from 0 on.
func numbers(n int) []int {
	l := make([]int, n)
	for i := range l {
		l[i] = i
	}
	return l
}

// someLists has short and long ones, of small and of great numbers.
func someLists() [][]int {
	l := [][]int{nil, {}, {0}, {1<<40 - 1}, {300, 0}, {1, 2, 3}, someNumbers(), slices.Repeat([]int{0}, 16384)}
	for _, n := range []int{126, 127, 128, 129, 16383, 16384} {
		l = append(l, numbers(n))
	}
	r := rand.New(rand.NewSource(11))
	for n := range 40 {
		l = append(l, anyNumbers(r, n))
	}
	return l
}

// someTexts has short and long ones, of bytes of all kinds.
func someTexts() []string {
	l := []string{"", "a", "\x00", "\x80", "\xff", "\x01\x02", "äö€", "\xc3\x28\x80", Text("inside"), Ints(numbers(200))}
	r := rand.New(rand.NewSource(12))
	for _, n := range []int{2, 3, 5, 31, 32, 126, 127, 128, 129, 255, 256, 16383, 16384, 16385, 70000} {
		l = append(l, strings.Repeat("x", n), strings.Repeat("\xff", n), randomText(r, n))
	}
	return l
}

func randomText(r *rand.Rand, n int) string {
	b := make([]byte, n)
	r.Read(b)
	return string(b)
}

// around has what stands ahead of and behind something: bytes that are numbers, and bytes that are none.
func around() []string {
	return []string{"", "\x00", "\x01", "\x7f", "\x80", "\xff", "\x80\x00", "\xff\xff\xff\xff\xff\xff\xff\xff", "\x00\x00", "abc"}
}

// P10.1, by hand.
func TestNum(t *testing.T) {
	for n, want := range map[int]string{
		0:         "\x00",
		1:         "\x01",
		2:         "\x02",
		126:       "\x7e",
		127:       "\x7f",
		128:       "\x80\x01",
		129:       "\x81\x01",
		255:       "\xff\x01",
		256:       "\x80\x02",
		300:       "\xac\x02",
		16383:     "\xff\x7f",
		16384:     "\x80\x80\x01",
		1 << 21:   "\x80\x80\x80\x01",
		1 << 28:   "\x80\x80\x80\x80\x01",
		1 << 32:   "\x80\x80\x80\x80\x10",
		1<<35 - 1: "\xff\xff\xff\xff\x7f",
		1 << 35:   "\x80\x80\x80\x80\x80\x01",
		1<<40 - 1: "\xff\xff\xff\xff\xff\x1f",
	} {
		checkNum(t, n, want)
		checkTake(t, want, 0, n, len(want))
	}
	for _, n := range noNumbers() {
		checkNum(t, n, "")
	}
}

// P10.1, P10.3: each number up to some, and many others.
func TestManyNumbers(t *testing.T) {
	for _, n := range append(someNumbers(), numbers(70000)...) {
		want := plainNum(n)
		if other := string(binary.AppendUvarint(nil, uint64(n))); want != other {
			t.Fatalf("the words tell %q of %d, not %q", want, n, other)
		}
		checkNum(t, n, want)
		checkTake(t, want, 0, n, len(want))
	}
}

// P10.1: each byte but the last one is 128 more, and there are as few as can be.
func TestHowManyBytes(t *testing.T) {
	for _, n := range someNumbers() {
		s := Num(n)
		last := len(s) - 1
		for i := range s {
			if s[i] >= 128 != (i < last) {
				t.Errorf("Num(%d): %q", n, s)
			}
		}
		if last > 0 && n < 1<<(7*last) || last > 5 {
			t.Errorf("Num(%d): %d bytes", n, len(s))
		}
	}
}

// P10.1: at each place, and at places that are none.
func TestTakeAt(t *testing.T) {
	s := "\x05\xac\x02\xff\x7f\x00"
	for at, want := range [][2]int{{5, 1}, {300, 3}, {2, 3}, {16383, 5}, {127, 5}, {0, 6}} {
		checkTake(t, s, at, want[0], want[1])
	}
	checkNone(t, s, len(s))
	for _, s := range append(someTexts(), s) {
		for _, at := range append(wrongPlaces(s), len(s)) {
			checkNone(t, s, at)
		}
	}
}

// P10.1: bytes of 128 and more up to the end.
func TestTakeCutOff(t *testing.T) {
	for n := range 20 {
		for _, b := range []string{"\x80", "\x81", "\xac", "\xff"} {
			for at := range n + 1 {
				checkNone(t, strings.Repeat(b, n), at)
				checkNone(t, "\x05"+strings.Repeat(b, n), 1+at)
			}
		}
	}
	for _, n := range someNumbers() {
		told := plainNum(n)
		for size := range told {
			checkNone(t, told[:size], 0)
			checkNone(t, told+told[:size], len(told))
		}
	}
}

// P10.1: a number that is told in more bytes than must be.
func TestTakeOfTooManyBytes(t *testing.T) {
	for _, s := range []string{
		"\x80\x00", "\x81\x00", "\xff\x00", "\xac\x00",
		"\x80\x80\x00", "\xff\xff\x00", "\xac\x82\x00", "\x80\x81\x00",
		"\x80\x80\x80\x00", "\x80\x80\x80\x80\x00", "\x80\x80\x80\x80\x80\x00", "\xff\xff\xff\xff\xff\x00",
		"\x80\x80\x80\x80\x80\x80\x00", "\xff\xff\xff\xff\xff\x9f\x00",
	} {
		for _, behind := range around() {
			checkNone(t, s+behind, 0)
			checkNone(t, "\x05"+s+behind, 1)
		}
		// At the last byte there is the number 0.
		checkTake(t, s, len(s)-1, 0, len(s))
	}
}

// P10.1: six bytes, and more, of which each but the last is 128 or more.
func TestTakeOfManyBytes(t *testing.T) {
	for last := range 128 {
		b := string([]byte{byte(last)})
		for _, behind := range around() {
			low, high := strings.Repeat("\x80", 5)+b+behind, strings.Repeat("\xff", 5)+b+behind
			if last >= 1 && last <= 31 {
				checkTake(t, low, 0, last<<35, 6)
				checkTake(t, high, 0, (last+1)<<35-1, 6)
			} else {
				checkNone(t, low, 0)
				checkNone(t, high, 0)
			}
			for more := 1; more < 15; more++ {
				checkNone(t, strings.Repeat("\x80", more)+low, 0)
				checkNone(t, strings.Repeat("\xff", more)+high, 0)
			}
		}
	}
}

// P10.1 to P10.3: all texts of up to two bytes, at all places.
func TestAllShortTexts(t *testing.T) {
	for a := range 256 {
		checkTakes(t, string([]byte{byte(a)}), 0)
		for b := range 256 {
			s := string([]byte{byte(a), byte(b)})
			for at := range 3 {
				checkTakes(t, s, at)
			}
		}
	}
}

// P10.1 to P10.3: all texts of up to seven bytes of few kinds.
func TestTextsOfFewKinds(t *testing.T) {
	kinds := "\x00\x01\x1f\x20\x80\xff"
	var all func(s string, left int)
	all = func(s string, left int) {
		checkTakes(t, s, 0)
		checkTakes(t, s, 1)
		for i := 0; i < len(kinds) && left > 0; i++ {
			all(s+kinds[i:i+1], left-1)
		}
	}
	all("", 7)
}

// P10.2, by hand: of no byte, of 127, 128 and 16384.
func TestText(t *testing.T) {
	for n, told := range map[int]string{
		0:     "\x00",
		1:     "\x01",
		127:   "\x7f",
		128:   "\x80\x01",
		129:   "\x81\x01",
		300:   "\xac\x02",
		16383: "\xff\x7f",
		16384: "\x80\x80\x01",
	} {
		for _, b := range []string{"a", "\x00", "\xff"} {
			s := strings.Repeat(b, n)
			checkText(t, s, told+s)
			checkTakeText(t, told+s, 0, s, len(told)+n)
		}
	}
	// Bytes count, not letters.
	checkText(t, "ä€", "\x05ä€")
	for _, s := range someTexts() {
		checkText(t, s, plainText(s))
		checkText(t, Text(s), plainText(plainText(s)))
	}
}

// P10.2: just as many bytes behind, one fewer, and many fewer.
func TestTakeTextCutOff(t *testing.T) {
	for _, s := range someTexts() {
		told := plainText(s)
		checkTakeText(t, told, 0, s, len(told))
		for _, missing := range []int{1, 2, 100, len(s)} {
			if missing > 0 && missing <= len(s) {
				checkNoTakeText(t, told[:len(told)-missing], 0)
				checkNoTakeText(t, "abc"+told[:len(told)-missing], 3)
			}
		}
	}
	for _, many := range []int{1, 2, 127, 128, 1 << 20, 1 << 31, 1<<32 + 1, 1 << 35, 1<<40 - 1} {
		checkNoTakeText(t, plainNum(many), 0)
		checkNoTakeText(t, plainNum(many)+strings.Repeat("a", min(many-1, 1000)), 0)
	}
}

// P10.2: how many bytes there are is told in too many bytes, or is no number.
func TestTakeTextOfNoNumber(t *testing.T) {
	for _, s := range []string{"", "\x80", "\x80\x00", "\x81\x00a", "\x80\x80\x00", "\x80\x80\x80\x80\x80\x20", "\x81\x80\x80\x80\x80\x80\x00a", "\x81\x80\x80\x80\x80\x80\x01a"} {
		checkNoTakeText(t, s, 0)
		checkNoTakeText(t, "\x01a"+s, 2)
		checkNoTakeText(t, s+strings.Repeat("\xff", 300), 0)
	}
}

// P10.2, by hand.
func TestInts(t *testing.T) {
	checkInts(t, nil, "\x00")
	checkInts(t, []int{}, "\x00")
	checkInts(t, []int{0}, "\x01\x00")
	checkInts(t, []int{300}, "\x01\xac\x02")
	checkInts(t, []int{0, 0}, "\x02\x00\x00")
	checkInts(t, []int{1, 128, 127}, "\x03\x01\x80\x01\x7f")
	checkInts(t, []int{1<<40 - 1}, "\x01\xff\xff\xff\xff\xff\x1f")
	checkInts(t, slices.Repeat([]int{5}, 127), "\x7f"+strings.Repeat("\x05", 127))
	checkInts(t, slices.Repeat([]int{300}, 128), "\x80\x01"+strings.Repeat("\xac\x02", 128))
	checkInts(t, slices.Repeat([]int{0}, 16384), "\x80\x80\x01"+strings.Repeat("\x00", 16384))
	for _, l := range someLists() {
		checkInts(t, l, plainInts(l))
	}
}

// P10.2: numbers of which one has no bytes, at each place.
func TestIntsOfNoNumber(t *testing.T) {
	for _, wrong := range noNumbers() {
		for _, n := range []int{1, 2, 3, 127, 128} {
			for _, at := range []int{0, 1, n / 2, n - 1} {
				if at < n {
					l := numbers(n)
					l[at] = wrong
					checkInts(t, l, "")
				}
			}
		}
		checkInts(t, []int{wrong, wrong}, "")
	}
}

// P10.2, by hand.
func TestTakeInts(t *testing.T) {
	checkTakeInts(t, "\x00", 0, nil, 1)
	checkTakeInts(t, "\x00\x00", 0, nil, 1)
	checkTakeInts(t, "\x00\x80", 0, []int{}, 1)
	checkTakeInts(t, "\x05\x00", 1, nil, 2)
	checkTakeInts(t, "\x01\x00", 0, []int{0}, 2)
	checkTakeInts(t, "\x01\xac\x02\xff", 0, []int{300}, 3)
	checkTakeInts(t, "\xff\x02\x00\x80\x01\x02", 1, []int{0, 128}, 5)
	checkTakeInts(t, "\x01\xff\xff\xff\xff\xff\x1f", 0, []int{1<<40 - 1}, 7)
	checkTakeInts(t, "\x7f"+strings.Repeat("\x05", 128), 0, slices.Repeat([]int{5}, 127), 128)
	checkTakeInts(t, "\x80\x01"+strings.Repeat("\xac\x02", 129), 0, slices.Repeat([]int{300}, 128), 258)
	for _, l := range someLists() {
		checkTakeInts(t, plainInts(l), 0, l, len(plainInts(l)))
	}
}

// P10.2, R1: more numbers than there are bytes, also many more than there could be.
func TestTakeIntsOfTooMany(t *testing.T) {
	for _, many := range []int{1, 2, 3, 127, 128, 16384, 1 << 20, 1 << 31, 1<<32 + 1, 1 << 35, 1<<40 - 1} {
		checkNoTakeInts(t, plainNum(many), 0)
		checkNoTakeInts(t, plainNum(many)+strings.Repeat("\x00", min(many-1, 100000)), 0)
		checkNoTakeInts(t, "\x00"+plainNum(many)+"\x80", 1)
	}
	// As many bytes, but fewer numbers.
	checkNoTakeInts(t, "\x02\x80\x01", 0)
	checkNoTakeInts(t, "\x03\x00\x80\x01", 0)
	checkNoTakeInts(t, "\x80\x01"+strings.Repeat("\xac\x02", 127), 0)
}

// P10.2: a number of the list is cut off, or told in too many bytes, or is too great, at each place.
func TestTakeIntsOfNoNumber(t *testing.T) {
	for _, l := range [][]int{{0}, {300, 0}, {1, 2, 3}, {1<<40 - 1, 128, 0, 1 << 35}, numbers(200)} {
		for at := range l {
			ahead := plainNum(len(l))
			for _, n := range l[:at] {
				ahead += plainNum(n)
			}
			behind := ""
			for _, n := range l[at+1:] {
				behind += plainNum(n)
			}
			for _, wrong := range []string{"\x80\x00", "\xac\x82\x00", "\x80\x80\x80\x80\x80\x00", "\x80\x80\x80\x80\x80\x20", "\xff\xff\xff\xff\xff\xff\x01"} {
				checkNoTakeInts(t, ahead+wrong+behind, 0)
				checkNoTakeInts(t, "\x00"+ahead+wrong+behind+"\x01", 1)
			}
			checkNoTakeInts(t, ahead, 0)
			checkNoTakeInts(t, ahead+"\x80", 0)
			checkNoTakeInts(t, ahead+"\xff\xff\xff\xff\xff", 0)
			told := plainNum(l[at])
			checkNoTakeInts(t, ahead+told[:len(told)-1], 0)
		}
	}
	for _, s := range []string{"\x80", "\x80\x00", "\x81\x00\x05", "\x80\x80\x80\x80\x80\x20", "\x81\x80\x80\x80\x80\x80\x01\x05"} {
		checkNoTakeInts(t, s, 0)
		checkNoTakeInts(t, s+strings.Repeat("\x00", 300), 0)
	}
}

// P10.3: what is told is taken, whatever stands ahead and behind.
func TestWhatIsToldIsTaken(t *testing.T) {
	for _, ahead := range around() {
		for _, behind := range around() {
			at := len(ahead)
			for _, n := range someNumbers() {
				checkTake(t, ahead+Num(n)+behind, at, n, at+len(plainNum(n)))
			}
			for _, s := range someTexts() {
				checkTakeText(t, ahead+Text(s)+behind, at, s, at+len(plainText(s)))
			}
			for _, l := range someLists() {
				if len(l) < 1000 {
					checkTakeInts(t, ahead+Ints(l)+behind, at, l, at+len(plainInts(l)))
				}
			}
		}
	}
}

// P10.3: one behind the other, each is taken where the one ahead ended.
func TestOneBehindTheOther(t *testing.T) {
	r := rand.New(rand.NewSource(13))
	for range 200 {
		n, s, l := someNumbers()[r.Intn(1000)], randomText(r, r.Intn(200)), numbers(r.Intn(200))
		told := Num(n) + Text(s) + Ints(l) + Text(Ints(l)) + Num(n)
		checkTake(t, told, 0, n, len(Num(n)))
		at := len(Num(n))
		checkTakeText(t, told, at, s, at+len(Text(s)))
		at += len(Text(s))
		checkTakeInts(t, told, at, l, at+len(Ints(l)))
		at += len(Ints(l))
		checkTakeText(t, told, at, Ints(l), at+len(Text(Ints(l))))
		at += len(Text(Ints(l)))
		checkTake(t, told, at, n, len(told))
	}
}

// P10.1 to P10.3: at each place of any bytes.
func TestAnyBytes(t *testing.T) {
	r := rand.New(rand.NewSource(14))
	texts, lists := 0, 0
	for i := range 2000 {
		b := []byte(randomText(r, r.Intn(60)))
		for at := range b {
			// Rather small numbers, as others have too few bytes behind.
			if r.Intn(3) > 0 {
				b[at] = byte(r.Intn(1 + i%20))
			}
		}
		for at := range len(b) + 1 {
			checkTakes(t, string(b), at)
			if s, _, _ := TakeText(string(b), at); s != "" {
				texts++
			}
			if l, _, _ := TakeInts(string(b), at); len(l) > 0 {
				lists++
			}
		}
	}
	if texts < 1000 || lists < 1000 {
		t.Errorf("%d texts, %d lists are taken", texts, lists)
	}
}

// P10.1 to P10.3: what was told, with some bytes changed, left out, or put in.
func TestSpoiledBytes(t *testing.T) {
	r := rand.New(rand.NewSource(15))
	for range 3000 {
		b := []byte(Ints(anyNumbers(r, r.Intn(20))))
		at := r.Intn(len(b))
		switch r.Intn(4) {
		case 0:
			b[at] ^= 1 << r.Intn(8)
		case 1:
			b = slices.Delete(b, at, at+1)
		case 2:
			b = slices.Insert(b, at, byte(r.Intn(256)))
		case 3:
			b[at] = []byte{0, 128, 255}[r.Intn(3)]
		}
		checkTakes(t, string(b), 0)
		checkTakes(t, string(b), min(at, len(b)))
	}
}

// R1: long texts and lists.
func TestLong(t *testing.T) {
	s := strings.Repeat("ab\xff", 1<<22)
	told := plainText(s)
	checkText(t, s, told)
	checkTakeText(t, told, 0, s, len(told))
	checkNoTakeText(t, told[:len(told)-1], 0)
	checkNone(t, strings.Repeat("\xff", 1<<24), 0)
	zeros := plainNum(1<<22) + strings.Repeat("\x00", 1<<22)
	l := make([]int, 1<<22)
	checkInts(t, l, zeros)
	checkTakeInts(t, zeros, 0, l, len(zeros))
	checkNoTakeInts(t, zeros[:len(zeros)-1], 0)
	l[len(l)-1] = -1
	checkInts(t, l, "")
}

// within tells whether two texts have bytes in common.
func within(a, b string) bool {
	if a == "" || b == "" {
		return false
	}
	p, q := uintptr(unsafe.Pointer(unsafe.StringData(a))), uintptr(unsafe.Pointer(unsafe.StringData(b)))
	return p < q+uintptr(len(b)) && q < p+uintptr(len(a))
}

// R4: texts that are answered are new memory, those of one byte too.
func TestTextsAreNew(t *testing.T) {
	for _, s := range someTexts() {
		told := plainText(s)
		taken, _, _ := TakeText(told, 0)
		again, _, _ := TakeText(told, 0)
		ahead, _, _ := TakeText("abc"+told, 3)
		all := []string{s, told, taken, again, ahead, Text(s), Text(s), Num(len(s)), Num(len(s))}
		for i, a := range all {
			for _, b := range all[:i] {
				if within(a, b) {
					t.Errorf("of %q..: %q.. and %q.. share memory", brief(s), brief(a), brief(b))
				}
			}
		}
	}
	for _, l := range someLists() {
		one, other := Ints(l), Ints(l)
		if within(one, other) {
			t.Errorf("two answers of %d numbers share memory", len(l))
		}
	}
}

// R4: to change a list that was answered changes no other one, up to what there is room for; to change one that was given changes no answer.
func TestListsAreNew(t *testing.T) {
	for _, want := range someLists() {
		s := plainInts(want)
		one, _, _ := TakeInts(s, 0)
		other, _, _ := TakeInts(s, 0)
		for i := range one[:cap(one)] {
			one[:cap(one)][i] = -7
		}
		if !slices.Equal(other, want) {
			t.Errorf("an answer of %d numbers is changed", len(want))
		}
		checkTakeInts(t, s, 0, want, len(s))
		given := slices.Clone(want)
		told := Ints(given)
		if !slices.Equal(given, want) {
			t.Errorf("an argument of %d numbers is changed", len(want))
		}
		clear(given)
		if told != s {
			t.Errorf("what was told of %d numbers is changed", len(want))
		}
	}
}

// R4: nor is what stands in the room behind an argument changed.
func TestRoomBehind(t *testing.T) {
	l := numbers(200)
	for n := range l {
		checkInts(t, l[:n], plainInts(l[:n]))
		if !slices.Equal(l, numbers(200)) {
			t.Fatalf("behind %d numbers: %v", n, l[n:])
		}
	}
}

// R5: an empty list and a nil one are the same.
func TestEmptyIsNil(t *testing.T) {
	for _, l := range [][]int{nil, {}, numbers(5)[:0], numbers(5)[5:], make([]int, 0, 9)} {
		checkInts(t, l, "\x00")
		checkTakeInts(t, Ints(l), 0, l, 1)
	}
	for _, s := range []string{"", string([]byte(nil)), string([]byte{}), "ab"[1:1]} {
		checkText(t, s, "\x00")
		checkTakeText(t, Text(s), 0, s, 1)
		checkNone(t, s, 0)
		for _, at := range wrongPlaces(s) {
			checkNone(t, s, at)
		}
	}
}

// The chapter's example.
func TestExample(t *testing.T) {
	checkNum(t, 300, string([]byte{172, 2}))
	checkTake(t, string([]byte{172, 2}), 0, 300, 2)
}

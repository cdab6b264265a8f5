package huff

import (
	"math"
	"math/rand"
	"slices"
	"testing"
)

// same tells n times x.
func same(x, n int) []int {
	return slices.Repeat([]int{x}, n)
}

func join(parts ...[]int) []int {
	return slices.Concat(parts...)
}

// doubled tells 1, 1, 2, 4 .., n of them: none has another two to be put together with but all that stand ahead.
func doubled(n int) []int {
	l := []int{1, 1}
	for len(l) < n {
		l = append(l, 2*l[len(l)-1])
	}
	return l
}

// fibonacci tells 1, 1, 2, 3, 5 .., n of them: the least numbers of which none is put together but with all that stand ahead.
func fibonacci(n int) []int {
	l := []int{1, 1}
	for len(l) < n {
		l = append(l, l[len(l)-1]+l[len(l)-2])
	}
	return l
}

// down tells from and each number below it, to the last one.
func down(from, to int) []int {
	var l []int
	for ; from >= to; from-- {
		l = append(l, from)
	}
	return l
}

// plainTree has its symbols in a list, its number is the least of them.
type plainTree struct {
	weight  int
	symbols []int
}

// plainLens goes by the words of P5.1, and tells how often all was halved too.
func plainLens(f []int) ([]int, int) {
	for halved := 0; ; halved++ {
		l := plainDepths(f)
		if len(l) == 0 || slices.Max(l) <= 15 {
			return l, halved
		}
		half := make([]int, len(f))
		for i, n := range f {
			if n > 0 {
				half[i] = int(math.Floor(float64(n+1) / 2))
			}
		}
		f = half
	}
}

func plainDepths(f []int) []int {
	l := make([]int, len(f))
	var all []plainTree
	for i, n := range f {
		if n > 0 {
			all = append(all, plainTree{n, []int{i}})
		}
	}
	if len(all) == 1 {
		l[all[0].symbols[0]] = 1
		return l
	}
	for len(all) > 1 {
		slices.SortFunc(all, func(a, b plainTree) int {
			if a.weight != b.weight {
				return a.weight - b.weight
			}
			return slices.Min(a.symbols) - slices.Min(b.symbols)
		})
		both := plainTree{all[0].weight + all[1].weight, join(all[0].symbols, all[1].symbols)}
		for _, symbol := range both.symbols {
			l[symbol]++
		}
		all = append(all[2:], both)
	}
	return l
}

func checkLens(t *testing.T, f, want []int) {
	t.Helper()
	if got := Lens(f); !slices.Equal(got, want) {
		t.Errorf("Lens(%v): %v, not %v", f, got, want)
	}
}

// checkPlain holds Lens against the words of P5.1, and tells how often all was halved.
func checkPlain(t *testing.T, f []int) int {
	t.Helper()
	want, halved := plainLens(f)
	checkLens(t, f, want)
	return halved
}

// P5.1
func TestLens(t *testing.T) {
	checkLens(t, []int{3, 1, 1, 0}, []int{1, 2, 2, 0})
	checkLens(t, []int{1, 2, 4, 8}, []int{3, 3, 2, 1})
	checkLens(t, []int{8, 4, 2, 1}, []int{1, 2, 3, 3})
	checkLens(t, []int{0, 5, 0, 9, 6, 0}, []int{0, 2, 0, 1, 2, 0})
	checkLens(t, []int{10, 11, 12, 13}, []int{2, 2, 2, 2})
	checkLens(t, []int{5, 9, 12, 13, 16, 45}, []int{4, 4, 3, 3, 3, 1})
	checkLens(t, []int{100000, 1, 1}, []int{1, 2, 2})
}

// P5.1: no symbol, none that is there, just one, and two.
func TestLensOfFew(t *testing.T) {
	for _, none := range [][]int{nil, {}, same(7, 2)[:0], make([]int, 0, 9)} {
		checkLens(t, none, nil)
	}
	for _, n := range []int{1, 2, 3, 272, 299, 300} {
		checkLens(t, same(0, n), same(0, n))
		for _, at := range []int{0, n / 2, n - 1} {
			for _, times := range []int{1, 2, 7, 99999, 100000} {
				f, l := same(0, n), same(0, n)
				f[at], l[at] = times, 1
				checkLens(t, f, l)
			}
		}
	}
	checkLens(t, []int{1, 1}, []int{1, 1})
	checkLens(t, []int{1, 100000}, []int{1, 1})
	checkLens(t, []int{100000, 1}, []int{1, 1})
	checkLens(t, []int{0, 4, 0, 0, 2, 0}, []int{0, 1, 0, 0, 1, 0})
}

// P5, words: 299, 300 and 301 symbols.
func TestLensOfManySymbols(t *testing.T) {
	// Of the 256 codes of 8 bits 43 or 44 are parted into two of 9: for the lowest numbers.
	checkLens(t, same(1, 299), join(same(9, 86), same(8, 213)))
	checkLens(t, same(1, 300), join(same(9, 88), same(8, 212)))
	checkLens(t, same(100000, 300), join(same(9, 88), same(8, 212)))
	checkLens(t, join(same(0, 298), []int{5, 6}), join(same(0, 298), []int{1, 1}))
	for _, n := range []int{301, 302, 512, 5000, 100000} {
		for _, times := range []int{0, 1, 100000, -1} {
			checkLens(t, same(times, n), nil)
		}
		checkLens(t, join([]int{1, 1}, same(0, n-2)), nil)
		checkLens(t, join(same(0, n-1), []int{4}), nil)
	}
}

// P5, words: a symbol that is there -1, 0, 1, 100000 and 100001 times.
func TestLensOfTimes(t *testing.T) {
	checkLens(t, []int{0, 1, 100000}, []int{0, 1, 1})
	checkLens(t, []int{100000, 100000, 100000, 0}, []int{2, 2, 1, 0})
	for _, wrong := range []int{-1, 100001, -100000, 1 << 31, -1 << 31, 1 << 32, 1<<32 + 1, math.MinInt, math.MaxInt} {
		checkLens(t, []int{wrong}, nil)
		checkLens(t, []int{wrong, 1, 2}, nil)
		checkLens(t, []int{1, wrong, 2}, nil)
		checkLens(t, []int{1, 2, wrong}, nil)
		checkLens(t, []int{0, 0, wrong}, nil)
		checkLens(t, []int{1, -wrong, wrong}, nil)
		checkLens(t, same(wrong, 300), nil)
		checkLens(t, join(same(1, 299), []int{wrong}), nil)
		checkLens(t, join(fibonacci(20), []int{wrong}), nil)
	}
}

// P5.1: of one weight the trees of the lowest numbers.
func TestLensOfOneWeight(t *testing.T) {
	checkLens(t, []int{1, 1, 1}, []int{2, 2, 1})
	checkLens(t, []int{7, 7, 7}, []int{2, 2, 1})
	checkLens(t, []int{0, 7, 0, 7, 7}, []int{0, 2, 0, 2, 1})
	checkLens(t, []int{1, 1, 1, 1}, []int{2, 2, 2, 2})
	checkLens(t, same(3, 5), []int{3, 3, 2, 2, 2})
	checkLens(t, same(3, 6), []int{3, 3, 3, 3, 2, 2})
	checkLens(t, []int{2, 1, 2, 2}, []int{2, 2, 2, 2})
	checkLens(t, []int{2, 2, 1}, []int{2, 1, 2})
}

// P5.1: a tree that was put together has the lower number of both, and counts by it.
func TestLensOfOneWeightBehindSome(t *testing.T) {
	// 1 and 1 have the number 0: ahead of all others of the weight 2.
	checkLens(t, []int{1, 1, 2, 2}, []int{3, 3, 2, 1})
	checkLens(t, []int{1, 2, 1, 2}, []int{3, 2, 3, 1})
	checkLens(t, []int{1, 2, 2, 1}, []int{3, 2, 1, 3})
	// 1 and 1 have a number between.
	checkLens(t, []int{2, 1, 1, 2}, []int{2, 3, 3, 1})
	checkLens(t, []int{2, 1, 2, 1}, []int{2, 3, 1, 3})
	// 1 and 1 have the number 2: behind both others.
	checkLens(t, []int{2, 2, 1, 1}, []int{2, 2, 2, 2})
	// The lower number is that of the tree with more weight: of 2 and 3 it is 0.
	checkLens(t, []int{3, 5, 2, 5}, []int{3, 2, 3, 1})
	checkLens(t, []int{5, 3, 5, 2}, []int{2, 3, 1, 3})
	checkLens(t, []int{5, 5, 3, 2}, []int{2, 2, 2, 2})
	// A number stays through two rounds.
	checkLens(t, []int{1, 1, 2, 4, 4}, []int{4, 4, 3, 2, 1})
	checkLens(t, []int{4, 4, 1, 1, 2}, []int{2, 2, 3, 3, 2})
	checkLens(t, []int{4, 1, 4, 1, 2}, []int{2, 4, 1, 4, 3})
}

// P5.1: by its words, on lists of all sizes, of few and of many kinds of numbers.
func TestLensByItsWords(t *testing.T) {
	r := rand.New(rand.NewSource(5))
	for _, most := range []int{1, 2, 3, 5, 20, 1000, 100000} {
		for n := range 40 {
			for range 8 {
				checkPlain(t, someTimes(r, n, most))
			}
		}
		for _, n := range []int{100, 255, 256, 257, 272, 299, 300} {
			checkPlain(t, someTimes(r, n, most))
			checkPlain(t, same(most, n))
		}
	}
}

// someTimes tells n numbers from 0 to most.
func someTimes(r *rand.Rand, n, most int) []int {
	f := make([]int, n)
	for i := range f {
		f[i] = r.Intn(most + 1)
	}
	return f
}

// P5.1: codes of 15 bits and no more.
func TestLensOfFifteenBits(t *testing.T) {
	deepest := join([]int{15, 15}, down(14, 1))
	checkLens(t, doubled(16), deepest)
	checkLens(t, fibonacci(16), deepest)
	f := doubled(16)
	slices.Reverse(f)
	slices.Reverse(deepest)
	checkLens(t, f, deepest)
	checkLens(t, doubled(15), join([]int{14, 14}, down(13, 1)))
	if halved := checkPlain(t, doubled(16)); halved != 0 {
		t.Errorf("halved %d times", halved)
	}
}

// P5.1: codes of 16 bits, so that all is halved once.
func TestLensHalvedOnce(t *testing.T) {
	// Each is put together with all ahead, till it is 2, 2, 2, 3, 6, 12, 24 ..
	f := join([]int{3, 3, 4}, steps(6, 14))
	want := join([]int{15, 15, 15, 15}, down(13, 1))
	checkLens(t, f, want)
	checkHalved(t, f, 1)
	checkLens(t, fibonacci(17), []int{10, 10, 9, 8, 8, 8, 6, 6, 6, 5, 5, 4, 4, 3, 3, 2, 2})
	checkHalved(t, fibonacci(17), 1)
	// With symbols that are not there between.
	var apart, wantApart []int
	for i, n := range f {
		apart, wantApart = append(apart, 0, n), append(wantApart, 0, want[i])
	}
	checkLens(t, apart, wantApart)
	checkLens(t, join(apart, same(0, 300-len(apart))), join(wantApart, same(0, 300-len(apart))))
}

// steps tells n numbers, from first on, each twice the one ahead.
func steps(first, n int) []int {
	var l []int
	for range n {
		l = append(l, first)
		first *= 2
	}
	return l
}

func checkHalved(t *testing.T, f []int, times int) {
	t.Helper()
	if halved := checkPlain(t, f); halved != times {
		t.Errorf("%v is halved %d times, not %d", f, halved, times)
	}
}

// P5.1: codes of 16 bits also behind a halving, and behind two.
func TestLensHalvedAgain(t *testing.T) {
	// 1, 1, 1, 2, 4 .. is still one behind another; 1, 1, 1, 1, 2, 4 .. is not.
	checkLens(t, doubled(17), join([]int{15, 15, 15, 15}, down(13, 1)))
	checkHalved(t, doubled(17), 2)
	checkLens(t, doubled(18), join([]int{15, 15, 15, 15, 14, 14}, down(12, 1)))
	checkHalved(t, doubled(18), 3)
	// The ones are as a tree by themselves.
	checkHalved(t, join(same(1, 200), steps(200, 9)), 3)
	checkHalved(t, join(same(1, 256), steps(256, 9)), 3)
}

// P5.1: by its words, on lists of which much is halved.
func TestLensHalvedByItsWords(t *testing.T) {
	r := rand.New(rand.NewSource(6))
	many := 0
	for range 300 {
		if checkPlain(t, someSteep(r, 2+r.Intn(60))) > 0 {
			many++
		}
		f := join(fibonacci(16+r.Intn(10)), someSteep(r, r.Intn(40)))
		r.Shuffle(len(f), func(i, j int) { f[i], f[j] = f[j], f[i] })
		if checkPlain(t, f) > 0 {
			many++
		}
	}
	if many < 100 {
		t.Errorf("just %d were halved", many)
	}
}

// someSteep tells n numbers from 0 to 100000, of which few are great.
func someSteep(r *rand.Rand, n int) []int {
	f := make([]int, n)
	for i := range f {
		f[i] = r.Intn(100000>>r.Intn(18) + 1)
	}
	return f
}

func checkCost(t *testing.T, f, l []int, want int) {
	t.Helper()
	if got := Cost(f, l); got != want {
		t.Errorf("Cost(%v, %v): %d, not %d", f, l, got, want)
	}
}

// P5.2
func TestCost(t *testing.T) {
	checkCost(t, []int{3, 1, 1, 0}, []int{1, 2, 2, 0}, 7)
	checkCost(t, []int{5}, []int{4}, 20)
	checkCost(t, []int{2, 3, 5}, []int{7, 11, 13}, 112)
	// Any numbers.
	checkCost(t, []int{-2, 3, -5}, []int{7, -11, -13}, 18)
	checkCost(t, []int{100001, 1}, []int{16, 300}, 1600316)
	checkCost(t, []int{1 << 40, -1}, []int{3, 1 << 20}, 3<<40-1<<20)
	checkCost(t, same(100000, 1000), same(15, 1000), 1500000000)
}

// P5.2: of symbols that both have.
func TestCostOfUnlikeLengths(t *testing.T) {
	for _, none := range [][]int{nil, {}, same(7, 2)[:0]} {
		checkCost(t, none, none, 0)
		checkCost(t, none, []int{1, 2}, 0)
		checkCost(t, []int{1, 2}, none, 0)
	}
	checkCost(t, []int{2, 3, 5}, []int{7}, 14)
	checkCost(t, []int{2}, []int{7, 11, 13}, 14)
	checkCost(t, []int{2, 3}, []int{7, 11, 13}, 47)
	// What lies behind a list is none of its own.
	checkCost(t, []int{2, 3, 5}[:1], []int{7, 11, 13}, 14)
	checkCost(t, []int{2, 3, 5}, []int{7, 11, 13}[:2], 47)
}

// P5.2: in 64 bits, going round.
func TestCostGoesRound(t *testing.T) {
	checkCost(t, []int{math.MaxInt, 1}, []int{1, 1}, math.MinInt)
	checkCost(t, []int{math.MinInt, 1}, []int{1, -1}, math.MaxInt)
	checkCost(t, []int{math.MaxInt}, []int{2}, -2)
	checkCost(t, []int{math.MaxInt}, []int{math.MaxInt}, 1)
	checkCost(t, []int{math.MinInt}, []int{math.MinInt}, 0)
	checkCost(t, []int{math.MinInt}, []int{-1}, math.MinInt)
	checkCost(t, []int{1 << 32, 1 << 32}, []int{1 << 32, 1 << 31}, math.MinInt)
	checkCost(t, []int{1 << 62, 1 << 62, 1 << 62, 1 << 62, 9}, same(1, 5), 9)
}

func checkKraft(t *testing.T, l []int, want int) {
	t.Helper()
	if got := Kraft(l); got != want {
		t.Errorf("Kraft(%v): %d, not %d", l, got, want)
	}
}

// P5.2
func TestKraft(t *testing.T) {
	for _, none := range [][]int{nil, {}, same(7, 2)[:0]} {
		checkKraft(t, none, 0)
	}
	for n := 1; n <= 15; n++ {
		want := int(math.Pow(2, float64(15-n)))
		checkKraft(t, []int{n}, want)
		checkKraft(t, []int{0, n, n, 16, n}, 3*want)
	}
	checkKraft(t, []int{1, 2, 2, 0}, 32768)
	checkKraft(t, []int{1, 15}, 16385)
	checkKraft(t, down(15, 1), 32767)
	// More than there is.
	checkKraft(t, []int{1, 1, 1}, 49152)
	checkKraft(t, same(1, 100000), 1638400000)
	checkKraft(t, same(15, 32769), 32769)
}

// P5.2: what is not from 1 to 15 counts nothing.
func TestKraftOfOtherNumbers(t *testing.T) {
	for _, other := range []int{-1, 0, 16, -15, -16, 17, 63, 64, 65, -64, 300, 1 << 32, 1<<32 + 1, math.MinInt, math.MaxInt} {
		checkKraft(t, []int{other}, 0)
		checkKraft(t, same(other, 400), 0)
		checkKraft(t, []int{other, 15, other, 1, other}, 16385)
	}
}

// P5.3: Kraft is 32768, and no symbol that is there is without a bit.
func TestKraftOfLens(t *testing.T) {
	for _, f := range someLists() {
		l := Lens(f)
		if len(l) != len(f) {
			t.Fatalf("Lens(%v): %v", f, l)
		}
		there := 0
		for i, n := range f {
			if (n > 0) != (l[i] > 0) || l[i] < 0 || l[i] > 15 {
				t.Errorf("Lens(%v): %v", f, l)
			}
			there += min(n, 1)
		}
		want := 32768
		if there < 2 {
			want = there * 16384
		}
		checkKraft(t, l, want)
	}
}

func someLists() [][]int {
	r := rand.New(rand.NewSource(7))
	all := [][]int{nil, same(0, 300), same(1, 2), same(1, 300), same(100000, 300)}
	for n := range 25 {
		all = append(all, fibonacci(n + 2)[:n+1], doubled(min(n+2, 18)))
	}
	for range 300 {
		n := r.Intn(301)
		all = append(all, someTimes(r, n%12, 9), someTimes(r, n, 3), someTimes(r, n, 100000), someSteep(r, n))
	}
	return all
}

// P5.3: no lengths cost less, of all there are of up to five symbols.
func TestNoLengthsCostLess(t *testing.T) {
	r := rand.New(rand.NewSource(8))
	for n := 1; n <= 5; n++ {
		for _, most := range []int{1, 3, 10, 100000} {
			for range 12 {
				f := someTimes(r, n, most)
				if got, least := Cost(f, Lens(f)), leastOfAll(f, nil); got != least {
					t.Errorf("%v: with %v it costs %d, not %d", f, Lens(f), got, least)
				}
			}
		}
	}
}

// leastOfAll tells what the lengths that cost least cost, of those that begin with l and are at most 6: of five symbols none needs more.
func leastOfAll(f, l []int) int {
	if Kraft(l) > 32768 {
		return math.MaxInt
	}
	if len(l) == len(f) {
		return Cost(f, l)
	}
	if f[len(l)] == 0 {
		return leastOfAll(f, append(l, 0))
	}
	least := math.MaxInt
	for n := 1; n <= 6; n++ {
		least = min(least, leastOfAll(f, append(l, n)))
	}
	return least
}

// P5.3: of many symbols, if nothing is halved; if something is, they cost no less either.
func TestNoLengthsCostLessOfMany(t *testing.T) {
	whole, halves := 0, 0
	for _, f := range someLists() {
		got, least := Cost(f, Lens(f)), leastByPairs(f)
		if _, halved := plainLens(f); halved == 0 {
			whole++
			if got != least {
				t.Errorf("%v: with %v it costs %d, not %d", f, Lens(f), got, least)
			}
		} else {
			halves++
			if got < least {
				t.Errorf("%v: with %v it costs %d, less than %d", f, Lens(f), got, least)
			}
		}
	}
	if whole < 500 || halves < 10 {
		t.Errorf("%d are not halved, and %d are", whole, halves)
	}
}

// leastByPairs tells what lengths of at most 15 cost that cost least, by another way than trees: each weight is a coin at each of 15 lengths, and pairs of one length count as coins of the one shorter.
func leastByPairs(f []int) int {
	coins := slices.DeleteFunc(slices.Clone(f), func(n int) bool { return n == 0 })
	slices.Sort(coins)
	if len(coins) < 2 {
		return Cost(coins, same(1, len(coins)))
	}
	row := coins
	for range 14 {
		var pairs []int
		for i := 0; i+1 < len(row); i += 2 {
			pairs = append(pairs, row[i]+row[i+1])
		}
		row = join(coins, pairs)
		slices.Sort(row)
	}
	return Cost(row[:2*len(coins)-2], same(1, len(row)))
}

// R4, also if all is halved.
func TestListsAreLeftAlone(t *testing.T) {
	for _, f := range [][]int{{3, 1, 1, 0}, doubled(18), same(9, 301), {1, -1}, {100001, 7}, {4}} {
		was := slices.Clone(f)
		l := Lens(f)
		wasLens := slices.Clone(l)
		Cost(f, l)
		Kraft(l)
		Cost(l, f)
		Kraft(f)
		if !slices.Equal(f, was) || !slices.Equal(l, wasLens) {
			t.Errorf("%v was %v, and %v was %v", f, was, l, wasLens)
		}
	}
}

// R3, R4: an answer is another one each time, and none of an argument.
func TestAnswersAreNew(t *testing.T) {
	for _, f := range [][]int{{3, 1, 1, 0}, doubled(18), {0, 0}, {0, 1}} {
		first, second := Lens(f), Lens(f)
		want := slices.Clone(second)
		for i := range first {
			first[i] = 77
		}
		if !slices.Equal(second, want) || slices.Contains(f, 77) {
			t.Errorf("with an answer that is changed: %v, %v", second, f)
		}
		checkLens(t, f, want)
	}
}

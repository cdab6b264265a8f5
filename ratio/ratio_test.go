package ratio

import (
	"math"
	"math/rand"
	"slices"
	"testing"
)

var (
	nan    = math.NaN()
	inf    = math.Inf(1)
	minus0 = math.Copysign(0, -1)
)

// risingNumbers has numbers of all kinds, each ahead of the next one.
func risingNumbers() []float64 {
	return []float64{
		-inf, -math.MaxFloat64, -1000000, -1.5, -1, -0.0005, -math.SmallestNonzeroFloat64,
		minus0, 0,
		math.SmallestNonzeroFloat64, 0.0005, 1, math.Nextafter(1, 2), 1.5, 1000000, math.MaxFloat64, inf,
		nan,
	}
}

func alikeToTheBit(a, b float64) bool {
	return math.IsNaN(a) && math.IsNaN(b) || math.Float64bits(a) == math.Float64bits(b)
}

// P1.1: as floats divide.
func TestPart(t *testing.T) {
	for _, c := range []struct {
		a, b int
		want float64
	}{
		{6, 3, 2},
		{1, 3, 1.0 / 3},
		{1, -2, -0.5},
		{-7, -2, 3.5},
		{0, 5, 0},
		{0, -5, minus0},
		{0, 0, nan},
		{7, 0, inf},
		{-1, 0, -inf},
		{math.MaxInt, 0, inf},
		{math.MinInt, 0, -inf},
		{math.MinInt, -1, 1 << 63},
		{math.MaxInt, 1, 1 << 63},
		{math.MaxInt, math.MinInt, -1},
		{1<<53 + 1, 1, 1 << 53},
		{1<<53 + 3, 1<<53 + 1, (1<<53 + 4.0) / (1 << 53)},
	} {
		if got := Part(c.a, c.b); !alikeToTheBit(got, c.want) {
			t.Errorf("Part(%d, %d): %v, not %v", c.a, c.b, got, c.want)
		}
	}
}

// P1.2: each number stands ahead of those behind it, and is the same as itself alone.
func TestLessAndSame(t *testing.T) {
	l := risingNumbers()
	for i, a := range l {
		for j, b := range l {
			if got := Less(a, b); got != (i < j) {
				t.Errorf("Less(%v, %v): %v", a, b, got)
			}
			if got := Same(a, b); got != (i == j) {
				t.Errorf("Same(%v, %v): %v", a, b, got)
			}
		}
	}
}

// P1.2: those that are none are all alike, whatever their bits.
func TestNoNumbersAreAlike(t *testing.T) {
	l := []float64{nan, math.Float64frombits(0x7ff0000000000001), math.Float64frombits(0xffffffffffffffff), math.Copysign(nan, -1)}
	for _, a := range l {
		if Less(a, inf) || !Less(inf, a) || Less(a, -inf) || !Less(-inf, a) {
			t.Errorf("%x stands behind all numbers", math.Float64bits(a))
		}
		if s := Text(a); s != "nan" {
			t.Errorf("Text of %x: %q", math.Float64bits(a), s)
		}
		for _, b := range l {
			if Less(a, b) || !Same(a, b) {
				t.Errorf("%x and %x are alike", math.Float64bits(a), math.Float64bits(b))
			}
		}
	}
}

func TestGreatest(t *testing.T) {
	for _, c := range []struct {
		l    []float64
		want float64
	}{
		{nil, nan},
		{[]float64{}, nan},
		{[]float64{nan}, nan},
		{[]float64{nan, nan, nan}, nan},
		{[]float64{3}, 3},
		{[]float64{1, 5, 2}, 5},
		{[]float64{5, 2, 1}, 5},
		{[]float64{1, 2, 5}, 5},
		{[]float64{-3, -1, -2}, -1},
		{[]float64{nan, 1, nan, 2, nan}, 2},
		{[]float64{nan, -inf, nan}, -inf},
		{[]float64{-inf, -math.MaxFloat64}, -math.MaxFloat64},
		{[]float64{math.MaxFloat64, inf, nan, 1}, inf},
		{[]float64{minus0}, minus0},
		{[]float64{minus0, minus0}, minus0},
		{[]float64{minus0, 0, minus0}, 0},
		{[]float64{0, minus0}, 0},
		{[]float64{minus0, 0}, 0},
		{[]float64{minus0, -1, nan}, minus0},
	} {
		if got := Greatest(c.l); !alikeToTheBit(got, c.want) {
			t.Errorf("Greatest(%v): %v, not %v", c.l, got, c.want)
		}
	}
}

func TestOrder(t *testing.T) {
	for _, c := range []struct {
		l    []float64
		want []int
	}{
		{nil, nil},
		{[]float64{}, nil},
		{[]float64{4}, []int{0}},
		{[]float64{nan}, []int{0}},
		{[]float64{3, 1, 2}, []int{1, 2, 0}},
		{[]float64{-1, -2}, []int{1, 0}},
		{[]float64{2, 2, 1, 2, 1}, []int{2, 4, 0, 1, 3}},
		{[]float64{nan, 1, nan, 0, nan}, []int{3, 1, 0, 2, 4}},
		{[]float64{0, minus0, 0, minus0}, []int{1, 3, 0, 2}},
		{[]float64{nan, inf, -inf, inf, -inf}, []int{2, 4, 1, 3, 0}},
		{[]float64{0, -1, minus0, 1}, []int{1, 2, 0, 3}},
	} {
		if got := Order(c.l); !slices.Equal(got, c.want) {
			t.Errorf("Order(%v): %v, not %v", c.l, got, c.want)
		}
	}
}

// P1.2: in a long list too the alike ones stay as they stood, and no place is left out.
func TestOrderOfMany(t *testing.T) {
	numbers := risingNumbers()
	r := rand.New(rand.NewSource(1))
	for _, n := range []int{2, 13, 100, 5000} {
		at := make([]int, n)
		l := make([]float64, n)
		for i := range l {
			at[i] = r.Intn(len(numbers))
			l[i] = numbers[at[i]]
		}
		var want []int
		for k := range numbers {
			for i := range l {
				if at[i] == k {
					want = append(want, i)
				}
			}
		}
		if got := Order(l); !slices.Equal(got, want) {
			t.Errorf("of %d numbers: %v, not %v", n, got, want)
		}
	}
}

// R4: the argument stays as it was, and the answer is another one each time.
func TestListsAreLeftAlone(t *testing.T) {
	l := []float64{3, nan, minus0, 0, -inf}
	was := slices.Clone(l)
	first := Order(l)
	Greatest(l)
	for i := range l {
		if !alikeToTheBit(l[i], was[i]) {
			t.Errorf("at %d: %v was %v", i, l[i], was[i])
		}
	}
	second := Order(l)
	first[0] = 77
	if second[0] == 77 {
		t.Error("two answers share memory")
	}
}

// P1.3: words, and thousandths.
func TestText(t *testing.T) {
	for _, c := range []struct {
		x    float64
		want string
	}{
		{nan, "nan"},
		{inf, "inf"},
		{-inf, "-inf"},
		{1000000, "big"},
		{math.Nextafter(1000000, inf), "big"},
		{math.MaxFloat64, "big"},
		{-1000000, "-big"},
		{math.Nextafter(-1000000, -inf), "-big"},
		{-math.MaxFloat64, "-big"},
		{math.Nextafter(1000000, 0), "1000000.000"},
		{math.Nextafter(-1000000, 0), "-1000000.000"},
		{999999.9994, "999999.999"},
		{-999999.9994, "-999999.999"},
		{0, "0.000"},
		{minus0, "-0.000"},
		{math.SmallestNonzeroFloat64, "0.000"},
		{-math.SmallestNonzeroFloat64, "-0.000"},
		{1, "1.000"},
		{-1, "-1.000"},
		{12.5, "12.500"},
		{-12.5, "-12.500"},
		{1000, "1000.000"},
		{0.001, "0.001"},
		{-0.001, "-0.001"},
		{0.01, "0.010"},
		{0.1, "0.100"},
		{0.999, "0.999"},
		{0.9999, "1.000"},
		{-0.9999, "-1.000"},
		{1.0 / 3, "0.333"},
		{2.0 / 3, "0.667"},
		{-2.0 / 3, "-0.667"},
		{123456.789, "123456.789"},
	} {
		if got := Text(c.x); got != c.want {
			t.Errorf("Text(%v): %q, not %q", c.x, got, c.want)
		}
	}
}

// P1.3: half a thousandth goes up, also below 0; each step is rounded to a float64.
func TestTextOfHalfAThousandth(t *testing.T) {
	for _, c := range []struct {
		x    float64
		want string
	}{
		{0.0004, "0.000"},
		{math.Nextafter(0.0005, 0), "0.000"},
		{0.0005, "0.001"},
		{0.0006, "0.001"},
		{0.0625, "0.063"},
		{0.1875, "0.188"},
		{-0.0004, "-0.000"},
		{-0.0005, "-0.000"},
		{math.Nextafter(-0.0005, -1), "-0.001"},
		{-0.0006, "-0.001"},
		{-0.0625, "-0.062"},
		{-0.1875, "-0.187"},
		{-1.9995, "-1.999"},
	} {
		if got := Text(c.x); got != c.want {
			t.Errorf("Text(%v): %q, not %q", c.x, got, c.want)
		}
	}
}

func TestTextOfParts(t *testing.T) {
	for _, c := range []struct {
		a, b int
		want string
	}{
		{1, 3, "0.333"},
		{0, 0, "nan"},
		{-1, 0, "-inf"},
		{1, 0, "inf"},
		{0, -1, "-0.000"},
		{16, 16, "1.000"},
		{math.MaxInt, 1, "big"},
		{math.MinInt, 1, "-big"},
		{1, math.MinInt, "-0.000"},
	} {
		if got := Text(Part(c.a, c.b)); got != c.want {
			t.Errorf("%d of %d: %q, not %q", c.a, c.b, got, c.want)
		}
	}
}

// P1.4: one of three holds of each two, and what stands ahead of one ahead stands ahead.
func TestTheOrderIsOne(t *testing.T) {
	l := append(risingNumbers(), nan, 1, 0, minus0, inf, -inf)
	r := rand.New(rand.NewSource(2))
	for range 40 {
		l = append(l, math.Float64frombits(r.Uint64()))
	}
	for _, a := range l {
		for _, b := range l {
			if many := count(Less(a, b), Less(b, a), Same(a, b)); many != 1 {
				t.Errorf("of %v and %v %d hold", a, b, many)
			}
			if Same(a, b) != Same(b, a) {
				t.Errorf("Same of %v and %v hangs on which is first", a, b)
			}
			for _, c := range l {
				if Less(a, b) && Less(b, c) && !Less(a, c) {
					t.Errorf("%v, %v, %v: not in one order", a, b, c)
				}
				if Same(a, b) && Less(b, c) && !Less(a, c) || Same(a, b) && Less(c, b) && !Less(c, a) {
					t.Errorf("%v and %v are alike, but not to %v", a, b, c)
				}
			}
		}
	}
}

func count(l ...bool) int {
	n := 0
	for _, x := range l {
		if x {
			n++
		}
	}
	return n
}

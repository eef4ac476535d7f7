package score_test

import (
	"math"
	"math/big"
	"math/rand"
	"slices"
	"testing"

	"coracle/score"
)

var (
	inf     = math.Inf(1)
	nan     = math.NaN()
	negZero = math.Copysign(0, -1)
)

// same: are they one float, the noughts told apart and all NaNs taken as one?
func same(a, b float64) bool {
	if math.IsNaN(a) || math.IsNaN(b) {
		return math.IsNaN(a) && math.IsNaN(b)
	}
	return a == b && math.Signbit(a) == math.Signbit(b)
}

// P6.1: a part of a whole, whatever it comes to.
func TestRatio(t *testing.T) {
	for _, c := range []struct {
		a, b int
		want float64
	}{
		{1, 2, 0.5}, {3, 1, 3}, {-1, 4, -0.25}, {1, -4, -0.25}, {-6, -4, 1.5}, {1, 3, 1.0 / 3},
		{1, 0, inf}, {-1, 0, -inf}, {0, 0, nan}, {math.MaxInt, 0, inf}, {math.MinInt, 0, -inf},
		{0, 1, 0}, {0, -1, negZero}, {0, math.MinInt, negZero},
		{math.MaxInt, math.MaxInt, 1}, {math.MinInt, math.MaxInt, -1}, {math.MinInt, -1, 1 << 63},
		{1<<53 + 1, 1, 1 << 53}, {1<<53 + 3, 1, 1<<53 + 4}, {1, 1<<53 + 1, 1.0 / (1 << 53)},
	} {
		if got := score.Ratio(c.a, c.b); !same(got, c.want) {
			t.Errorf("Ratio(%d, %d): %v, not %v", c.a, c.b, got, c.want)
		}
	}
}

// P6.1: what cleaning brings, at the edges.
func TestBenefit(t *testing.T) {
	for _, c := range []struct {
		live, size, age int
		want            float64
	}{
		{0, 10, 5, 5}, {10, 10, 5, 0}, {0, 0, 1, nan}, {5, 10, 3, 1}, {1, 4, 8, 4.8},
		{10, 10, -5, negZero}, {10, 10, 0, 0}, {0, 10, 0, 0}, {0, 10, -5, -5}, {5, 10, 0, 0},
		{20, 10, 3, -1}, {20, 10, -3, 1}, {20, 10, 0, negZero},
		{-10, 10, 3, inf}, {-10, 10, -3, -inf}, {-10, 10, 0, nan}, {10, -10, 3, inf},
		{1, 0, 1, nan}, {1, 0, 0, nan}, {-1, 0, 7, nan}, {0, 0, 0, nan},
		{-30, 10, 3, -6}, {0, 1, math.MaxInt, 1 << 63}, {0, 1, math.MinInt, -(1 << 63)},
		{0, -1, 7, 7}, {0, 1, 1<<53 + 1, 1 << 53}, {math.MaxInt, 1, 1, -1},
	} {
		got := score.Benefit(score.Segment{Live: c.live, Size: c.size, Age: c.age})
		if !same(got, c.want) {
			t.Errorf("Benefit{%d, %d, %d}: %v, not %v", c.live, c.size, c.age, got, c.want)
		}
	}
}

// reckoned: the Benefit by numbers of 53 bits that aren't the machine's; the size isn't 0, nor is 1 and u together.
func reckoned(live, size, age int) float64 {
	float := func(n int) *big.Float { return new(big.Float).SetPrec(53).SetInt64(int64(n)) }
	step := func() *big.Float { return new(big.Float).SetPrec(53) }
	u := step().Quo(float(live), float(size))
	x := step().Sub(float(1), u)
	x = step().Mul(x, float(age))
	x = step().Quo(x, step().Add(float(1), u))
	f, _ := x.Float64()
	return f
}

// P6.1: each step is rounded.
func TestBenefitRounded(t *testing.T) {
	r := rand.New(rand.NewSource(61))
	for range 20000 {
		size := 1 + r.Intn(1<<(1+r.Intn(60)))
		live := r.Intn(size + 1 + size/2)
		age := r.Intn(1<<(1+r.Intn(60))) - r.Intn(100)
		got := score.Benefit(score.Segment{Live: live, Size: size, Age: age})
		if want := reckoned(live, size, age); !same(got, want) {
			t.Fatalf("Benefit{%d, %d, %d}: %v, not %v", live, size, age, got, want)
		}
	}
}

// P6.2: all floats in a row, each ahead of those behind it and of no other.
func TestLess(t *testing.T) {
	otherNaN := math.Float64frombits(0xfff8000000000123)
	row := [][]float64{
		{nan, otherNaN}, {-inf}, {-math.MaxFloat64}, {-2}, {-1}, {-math.SmallestNonzeroFloat64}, {negZero},
		{0}, {math.SmallestNonzeroFloat64}, {1}, {math.Nextafter(1, 2)}, {2}, {math.MaxFloat64}, {inf},
	}
	for i, as := range row {
		for j, bs := range row {
			for _, a := range as {
				for _, b := range bs {
					if score.Less(a, b) != (i < j) {
						t.Errorf("Less(%v, %v): %v", a, b, i >= j)
					}
				}
			}
		}
	}
}

// P6.3: the greatest benefit, of several the first.
func TestPick(t *testing.T) {
	type list = []score.Segment
	for _, c := range []struct {
		l    list
		want int
	}{
		{nil, -1}, {list{}, -1}, {list{{0, 0, 1}}, 0}, {list{{10, 10, -5}}, 0},
		{list{{9, 10, 1}, {1, 10, 1}, {1, 10, 1}}, 1}, {list{{1, 10, 1}, {9, 10, 1}}, 0},
		{list{{0, 10, 5}, {0, 20, 5}, {0, 1, 6}}, 2},
		{list{{0, 0, 1}, {20, 10, 100}}, 1}, {list{{20, 10, 100}, {0, 0, 1}}, 0}, {list{{0, 0, 1}, {0, 0, 9}}, 0},
		{list{{0, 10, 9}, {-10, 10, 1}, {-10, 10, 2}}, 1}, {list{{-10, 10, -1}, {20, 10, 9}}, 1}, {list{{0, 0, 1}, {-10, 10, -1}}, 1},
		{list{{10, 10, -5}, {10, 10, 5}}, 1}, {list{{10, 10, 5}, {10, 10, -5}}, 0}, {list{{10, 10, -5}, {20, 10, 0}}, 0},
	} {
		kept := slices.Clone(c.l)
		if got := score.Pick(c.l); got != c.want || !slices.Equal(c.l, kept) {
			t.Errorf("Pick(%v): %d, not %d", c.l, got, c.want)
		}
	}
}

// P6.3: no other one's benefit is above, and none ahead of it is equal.
func TestPickByChance(t *testing.T) {
	r := rand.New(rand.NewSource(63))
	for range 3000 {
		l := make([]score.Segment, 1+r.Intn(8))
		for i := range l {
			l[i] = score.Segment{Live: r.Intn(7) - 3, Size: r.Intn(7) - 3, Age: r.Intn(7) - 3}
		}
		at := score.Pick(l)
		if at < 0 || at >= len(l) {
			t.Fatalf("Pick(%v): %d", l, at)
		}
		for i, s := range l {
			if score.Less(score.Benefit(l[at]), score.Benefit(s)) || i < at && !score.Less(score.Benefit(s), score.Benefit(l[at])) {
				t.Fatalf("Pick(%v): %d, and not %d", l, at, i)
			}
		}
	}
}

// P6.4: the mean of those that are numbers.
func TestMean(t *testing.T) {
	big, most := 1e16, math.MaxFloat64
	for _, c := range []struct {
		l    []float64
		want float64
		n    int
	}{
		{nil, nan, 0}, {[]float64{nan}, nan, 0}, {[]float64{inf, nan, -inf}, nan, 0},
		{[]float64{7}, 7, 1}, {[]float64{1, 2}, 1.5, 2}, {[]float64{1, nan, 3, inf}, 2, 2}, {[]float64{-inf, -4, inf, 1}, -1.5, 2},
		{[]float64{negZero}, 0, 1}, {[]float64{negZero, negZero}, 0, 2}, {[]float64{0, nan}, 0, 1}, {[]float64{1, -1}, 0, 2},
		{[]float64{big, 1, -big, 1}, 0.25, 4}, {[]float64{1, big, 1, -big}, 0, 4}, {[]float64{1, 1, big, -big}, 0.5, 4},
		{[]float64{most, most}, inf, 2}, {[]float64{most, most, -most}, inf, 3}, {[]float64{-most, -most, 1}, -inf, 3}, {[]float64{most, -most, most}, most / 3, 3},
		{[]float64{0.1, 0.2, 0.3}, 0.20000000000000004, 3},
		{[]float64{math.SmallestNonzeroFloat64, 0, 0}, 0, 3},
	} {
		kept := slices.Clone(c.l)
		if got, n := score.Mean(c.l...); !same(got, c.want) || n != c.n {
			t.Errorf("Mean(%v): %v %d, not %v %d", c.l, got, n, c.want, c.n)
		}
		if !slices.EqualFunc(c.l, kept, same) {
			t.Errorf("Mean changed its list to %v", c.l)
		}
	}
}

// P6.4: each step of the sum is rounded, from the first to the last.
func TestMeanByChance(t *testing.T) {
	r := rand.New(rand.NewSource(64))
	for range 2000 {
		l := make([]float64, 1+r.Intn(12))
		sum, n := new(big.Float).SetPrec(53), 0
		for i := range l {
			if r.Intn(5) == 0 {
				l[i] = []float64{nan, inf, -inf}[r.Intn(3)]
				continue
			}
			l[i] = math.Ldexp(r.Float64()-0.5, r.Intn(80)-40)
			sum = new(big.Float).SetPrec(53).Add(sum, big.NewFloat(l[i]))
			n++
		}
		want := nan
		if n > 0 {
			want, _ = new(big.Float).SetPrec(53).Quo(sum, big.NewFloat(float64(n))).Float64()
		}
		if got, count := score.Mean(l...); !same(got, want) || count != n {
			t.Fatalf("Mean(%v): %v %d, not %v %d", l, got, count, want, n)
		}
	}
}

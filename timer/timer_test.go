package timer_test

import (
	"math"
	"math/big"
	"math/rand"
	"testing"

	"coracle/timer"
)

var (
	inf     = math.Inf(1)
	nan     = math.NaN()
	negZero = math.Copysign(0, -1)
)

// same: are they one float, the noughts told apart and all NaNs taken as one?
func same(a, b float64) bool {
	if math.IsNaN(a) || math.IsNaN(b) {
		return math.IsNaN(a) && math.IsNaN(b)
	}
	return a == b && math.Signbit(a) == math.Signbit(b)
}

func smooth(t *testing.T, x *timer.Timer, s, v float64) {
	t.Helper()
	if gotS, gotV := x.Smooth(); !same(gotS, s) || !same(gotV, v) {
		t.Errorf("Smooth: %v and %v, not %v and %v", gotS, gotV, s, v)
	}
}

// taught: a timer with these samples, all of them taken.
func taught(t *testing.T, samples ...float64) *timer.Timer {
	t.Helper()
	x := timer.New()
	for _, d := range samples {
		if !x.Sample(d) {
			t.Errorf("Sample(%v) is refused", d)
		}
	}
	return x
}

// P8.1: nothing is known at first.
func TestNew(t *testing.T) {
	x := timer.New()
	if x == nil {
		t.Fatal("New is nil")
	}
	smooth(t, x, nan, nan)
	y := timer.New()
	x.Sample(1)
	smooth(t, y, nan, nan)
}

// P8.1: what is no time is refused, and nothing happens.
func TestSampleRefused(t *testing.T) {
	x, y := timer.New(), taught(t, 3)
	for _, d := range []float64{nan, inf, -inf, -1, -math.SmallestNonzeroFloat64, -math.MaxFloat64} {
		if x.Sample(d) || y.Sample(d) {
			t.Errorf("Sample(%v) is taken", d)
		}
		smooth(t, x, nan, nan)
		smooth(t, y, 3, 1.5)
	}
}

// P8.1: ordinary samples, and the edges of floats.
func TestSample(t *testing.T) {
	tiny := math.SmallestNonzeroFloat64
	for _, c := range []struct {
		samples []float64
		s, v    float64
	}{
		{[]float64{2}, 2, 1},
		{[]float64{2, 10}, 3, 2.75},
		{[]float64{10, 2}, 9, 5.75},
		{[]float64{2, 2}, 2, 0.75},
		{[]float64{0}, 0, 0},
		{[]float64{negZero}, 0, 0},
		{[]float64{0, negZero}, 0, 0},
		{[]float64{8, negZero}, 7, 5},
		{[]float64{tiny}, tiny, 0}, // half of it is rounded to even
		{[]float64{3 * tiny}, 3 * tiny, 2 * tiny},
		{[]float64{math.MaxFloat64}, math.MaxFloat64, math.MaxFloat64 / 2},
		{[]float64{0, math.MaxFloat64}, math.MaxFloat64 / 8, math.MaxFloat64 / 4},
		{[]float64{math.MaxFloat64, math.MaxFloat64}, math.MaxFloat64, 0.375 * math.MaxFloat64},
	} {
		smooth(t, taught(t, c.samples...), c.s, c.v)
	}
}

// step is a and b times x and y, together, by numbers of 53 bits that aren't the machine's.
func step(a, x, b, y float64) float64 {
	product := func(p, q float64) *big.Float {
		return new(big.Float).SetPrec(53).Mul(big.NewFloat(p), big.NewFloat(q))
	}
	f, _ := new(big.Float).SetPrec(53).Add(product(a, x), product(b, y)).Float64()
	return f
}

// P8.1: each step is rounded, and the spread is reckoned ahead of the mean.
func TestSampleRounded(t *testing.T) {
	r := rand.New(rand.NewSource(81))
	for range 300 {
		x := timer.New()
		s, v := nan, nan
		for range 40 {
			d := math.Ldexp(r.Float64(), r.Intn(80)-40)
			if math.IsNaN(s) {
				s, v = d, d/2
			} else {
				v = step(0.75, v, 0.25, math.Abs(s-d))
				s = step(0.875, s, 0.125, d)
			}
			if !x.Sample(d) {
				t.Fatalf("Sample(%v) is refused", d)
			}
			smooth(t, x, s, v)
		}
		if t.Failed() {
			return
		}
	}
}

// P8.2: how long is waited, by what is known and how often was waited before.
func TestWait(t *testing.T) {
	for _, c := range []struct {
		samples []float64
		n, want int
	}{
		{nil, 0, 4}, {nil, 1, 8}, {nil, 2, 16}, {nil, 3, 32}, {nil, 4, 64}, {nil, 5, 64}, {nil, 9, 64},
		{nil, -1, 4}, {nil, math.MinInt, 4}, {nil, 1000, 64}, {nil, 1001, 64}, {nil, math.MaxInt, 64},
		{[]float64{2}, 0, 6}, {[]float64{2}, -5, 6}, {[]float64{2}, 1, 12}, {[]float64{2}, 3, 48}, {[]float64{2}, 4, 64},
		{[]float64{2, 10}, 0, 14}, {[]float64{2, 2}, 0, 5},
		{[]float64{0}, 0, 1}, {[]float64{0}, 1000, 1}, {[]float64{0}, math.MaxInt, 1}, {[]float64{negZero}, 7, 1},
		{[]float64{0.25}, 0, 1}, {[]float64{0.25}, 1, 2}, {[]float64{0.25}, 2, 3}, {[]float64{0.25}, 3, 6}, // 0.75, 1.5, 3, 6
		{[]float64{1.0 / 3}, 0, 1}, {[]float64{1.0 / 3}, 1, 2}, {[]float64{0.34}, 0, 2}, // 1, 2, 1.02
		{[]float64{21}, 0, 63}, {[]float64{21.25}, 0, 64}, {[]float64{64.0 / 3}, 0, 64}, {[]float64{22}, 0, 64},
		{[]float64{math.Nextafter(21, 22)}, 0, 64},
		{[]float64{math.MaxFloat64}, 0, 64}, {[]float64{math.MaxFloat64}, 1000, 64}, // 4 times the spread is infinite
		{[]float64{math.SmallestNonzeroFloat64}, 1000, 1}, // 2^-74
		{[]float64{math.Ldexp(1, -997)}, 1000, 24}, {[]float64{math.Ldexp(1, -997)}, 999, 12}, {[]float64{math.Ldexp(1, -997)}, 1001, 24},
		{[]float64{math.Ldexp(1, -1000)}, 1000, 3}, {[]float64{math.Ldexp(1, -1002)}, math.MaxInt, 1},
	} {
		x := taught(t, c.samples...)
		for range 2 { // asking teaches nothing
			if got := x.Wait(c.n); got != c.want {
				t.Errorf("%v: Wait(%d): %d, not %d", c.samples, c.n, got, c.want)
			}
		}
	}
}

// P8.2: 4 times the spread and the sum are rounded.
func TestWaitRounded(t *testing.T) {
	r := rand.New(rand.NewSource(82))
	for range 3000 {
		x := timer.New()
		for range 1 + r.Intn(5) {
			x.Sample(math.Ldexp(r.Float64(), r.Intn(12)-6))
		}
		s, v := x.Smooth()
		for n := range 6 {
			w := new(big.Float).SetMantExp(big.NewFloat(step(1, s, 4, v)), n)
			whole, _ := w.Int64()
			if !w.IsInt() {
				whole++
			}
			if got, want := x.Wait(n), int(min(max(whole, 1), 64)); got != want {
				t.Fatalf("%v and %v: Wait(%d): %d, not %d", s, v, n, got, want)
			}
		}
	}
}

// P8.3: a nil timer learns nothing.
func TestNil(t *testing.T) {
	var x *timer.Timer
	if x.Sample(1) || x.Sample(nan) {
		t.Error("Sample of nil")
	}
	smooth(t, x, nan, nan)
	for n := -1; n < 12; n++ {
		if x.Wait(n) != timer.New().Wait(n) {
			t.Errorf("Wait(%d) of nil: %d", n, x.Wait(n))
		}
	}
}

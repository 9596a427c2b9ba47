package logs_test

import (
	"math"
	"math/big"
	"math/rand"
	"slices"
	"sync"
	"testing"

	"sideband/logs"
)

const most = 8191

// wrongSteps are those that have no power of their own.
var (
	below = []int{-1, -2, -255, -256, -257, -8191, -8192, -1 << 31, -1 << 32, math.MinInt + 1, math.MinInt}
	above = []int{8192, 8193, 8447, 8448, 16383, 16384, 1<<31 - 1, 1 << 31, 1 << 32, 1<<32 + 1, math.MaxInt - 1, math.MaxInt}
)

func two(bits uint) *big.Int { return new(big.Int).Lsh(big.NewInt(1), bits) }

// chapterFactors are f 0 to f 7, as the chapter's words make them, of numbers that have no end.
func chapterFactors() [8]*big.Int {
	var f [8]*big.Int
	f[7] = new(big.Int).Sqrt(two(61))
	for i := 6; i >= 0; i-- {
		product := new(big.Int).Mul(two(30), f[i+1])
		f[i] = product.Sqrt(product)
	}
	return f
}

// chapterPowers are the powers of 0 to 8191, as the chapter's words make them.
func chapterPowers() []uint32 {
	f := chapterFactors()
	var l []uint32
	for s := range most + 1 {
		p := two(30)
		for i := range 8 {
			if s&(1<<i) != 0 {
				p.Mul(p, f[i])
				p.Div(p, two(30))
			}
		}
		p.Mul(p, two(uint(s/256)))
		p.Div(p, two(30))
		if p.Cmp(two(32)) >= 0 {
			p.Sub(two(32), big.NewInt(1))
		}
		l = append(l, uint32(p.Uint64()))
	}
	return l
}

// chapterLog is the last of the powers that isn't above n, each looked at.
func chapterLog(powers []uint32, n uint32) int {
	last := -1
	for s, p := range powers {
		if n > 0 && p <= n {
			last = s
		}
	}
	return last
}

// numbers are those beside which a logarithm turns over, and some more of all sizes, the same each time.
func numbers() []uint32 {
	l := []uint32{0, 1, 2, 3, 4, 5, 6, 7, math.MaxUint32, math.MaxUint32 - 1}
	for k := range 32 {
		p := uint32(1) << k
		l = append(l, p-1, p, p+1, p|p>>1)
	}
	r := rand.New(rand.NewSource(1))
	for range 500 {
		l = append(l, r.Uint32()>>r.Intn(32))
	}
	return l
}

// P2.1: Exp. These numbers are the chapter's, or reckoned apart from it.
func TestExp(t *testing.T) {
	for _, c := range []struct {
		steps int
		want  uint32
	}{
		{0, 1}, {1, 1}, {255, 1}, {256, 2}, {405, 2}, {406, 3}, {511, 3}, {512, 4}, {1024, 16}, {2560, 1024},
		{30*256 + 128, 1518500249}, {31 * 256, 1 << 31}, {31*256 - 1, 2141676953}, {31*256 + 128, 3037000498}, {8191, 4283353906},
	} {
		if got := logs.Exp(c.steps); got != c.want {
			t.Errorf("Exp(%d) = %d, not %d", c.steps, got, c.want)
		}
	}
}

func TestExpOfAllSteps(t *testing.T) {
	for s, want := range chapterPowers() {
		if got := logs.Exp(s); got != want {
			t.Fatalf("Exp(%d) = %d, not %d", s, got, want)
		}
	}
}

func TestExpBeyondItsEnds(t *testing.T) {
	for _, s := range below {
		if got := logs.Exp(s); got != 0 {
			t.Errorf("Exp(%d) = %d, not 0", s, got)
		}
	}
	for _, s := range above {
		if got := logs.Exp(s); got != math.MaxUint32 {
			t.Errorf("Exp(%d) = %d, not the greatest", s, got)
		}
	}
}

// A step is the 256th part of what doubles.
func TestStep(t *testing.T) {
	for k := range 32 {
		if got := logs.Exp(logs.Step * k); got != 1<<k {
			t.Errorf("Exp(%d) = %d, not %d", logs.Step*k, got, 1<<k)
		}
	}
}

// P2.1: Log.
func TestLog(t *testing.T) {
	for _, c := range []struct {
		n    uint32
		want int
	}{{0, -1}, {1, 255}, {2, 405}, {3, 511}, {4, 594}, {1<<31 - 1, 31*256 - 1}, {1 << 31, 31 * 256}, {math.MaxUint32, 8191}} {
		if got := logs.Log(c.n); got != c.want {
			t.Errorf("Log(%d) = %d, not %d", c.n, got, c.want)
		}
	}
}

func TestLogIsTheGreatest(t *testing.T) {
	powers := chapterPowers()
	for _, n := range numbers() {
		want := chapterLog(powers, n)
		if got := logs.Log(n); got != want {
			t.Fatalf("Log(%d) = %d, not %d", n, got, want)
		}
	}
}

// From each power on, up to the one below the next, the logarithm is the last that has it.
func TestLogBesideEachPower(t *testing.T) {
	powers := chapterPowers()
	for s, p := range powers {
		if s < most && powers[s+1] == p {
			continue
		}
		if got := logs.Log(p); got != s {
			t.Fatalf("Log(%d) = %d, not %d", p, got, s)
		}
		if s == most {
			continue
		}
		if got := logs.Log(powers[s+1] - 1); got != s {
			t.Fatalf("Log(%d) = %d, not %d", powers[s+1]-1, got, s)
		}
	}
}

// P2.1: Sum.
func TestSum(t *testing.T) {
	for _, c := range []struct {
		l    []int
		want int
	}{
		{nil, -1}, {[]int{}, -1}, {[]int{-1}, -1}, {[]int{-1, -5, math.MinInt}, -1},
		{[]int{0}, 255}, {[]int{255}, 255}, {[]int{0, 0}, 405}, {[]int{0, 0, 0}, 511}, {[]int{0, 255, 0, 255}, 594},
		{[]int{256}, 405}, {[]int{256, 0}, 511}, {[]int{256, -1}, 405}, {[]int{-1, 256, -1, 256}, 594},
		{[]int{7936}, 7936}, {[]int{7680, 7680}, 7936}, {[]int{7680, 7680, 0}, 7936},
		// Where the sum is more than there may be, it stays: it doesn't go round.
		{[]int{7936, 7936}, 8191}, {[]int{7936, 7936, 0}, 8191}, {[]int{7936, 7936, 7936, 7936, -1}, 8191},
		{[]int{8191, 8191}, 8191}, {[]int{8192}, 8191}, {[]int{8192, 0}, 8191}, {[]int{0, math.MaxInt}, 8191},
		{[]int{math.MaxInt, math.MinInt}, 8191}, {[]int{math.MaxInt, math.MaxInt, 1}, 8191},
	} {
		if got := logs.Sum(c.l...); got != c.want {
			t.Errorf("Sum(%v) = %d, not %d", c.l, got, c.want)
		}
	}
}

func TestSumIsTheLogOfTheSum(t *testing.T) {
	powers := chapterPowers()
	r := rand.New(rand.NewSource(2))
	for range 2000 {
		var l []int
		var sum uint64
		top := 1 + r.Intn(most+1)
		for range r.Intn(12) {
			s := r.Intn(top+100) - 100
			l = append(l, s)
			if s >= 0 {
				sum += uint64(powers[s])
			}
		}
		want := chapterLog(powers, uint32(min(sum, math.MaxUint32)))
		if got := logs.Sum(l...); got != want {
			t.Fatalf("Sum(%v) = %d, not %d", l, got, want)
		}
	}
}

// So many that what is summed would go round in 32 bits, and come near to 0 again.
func TestSumOfMany(t *testing.T) {
	ones := make([]int, 1<<17)
	if got := logs.Sum(ones...); got != 17*256 {
		t.Error("not 2^17:", got)
	}
	for i := range ones {
		ones[i] = 15 * 256
	}
	if got := logs.Sum(ones[:1<<16]...); got != 31*256 {
		t.Error("not 2^31:", got)
	}
	if got := logs.Sum(ones...); got != most {
		t.Error("not the greatest:", got)
	}
}

// P2.2: a greater number of steps has no lesser power.
func TestPowersRise(t *testing.T) {
	for s := -300; s < most+300; s++ {
		if logs.Exp(s) > logs.Exp(s+1) {
			t.Fatalf("Exp(%d) is above Exp(%d)", s, s+1)
		}
	}
}

// P2.2: the logarithm of a number from 2^k on, below 2^(k + 1), is from 256 k on, below 256 (k + 1).
func TestLogsOfEachDoubling(t *testing.T) {
	for _, n := range numbers() {
		if n == 0 {
			continue
		}
		k := 0
		for n>>k > 1 {
			k++
		}
		if got := logs.Log(n); got < 256*k || got >= 256*(k+1) {
			t.Fatalf("Log(%d) = %d, not from %d on, below %d", n, got, 256*k, 256*(k+1))
		}
	}
}

// P1: with any numbers at all each call ends, and none panics.
func TestNothingPanics(t *testing.T) {
	for _, s := range slices.Concat(below, above) {
		logs.Exp(s)
		logs.Sum(s)
		logs.Sum(s, 0, s, most, s)
	}
	for _, n := range numbers() {
		logs.Log(n)
	}
	logs.Sum(slices.Concat(below, above, below)...)
	logs.Sum(nil...)
}

// answers are those of all calls, on some numbers.
func answers() []int {
	var l []int
	for i, n := range numbers() {
		s := int(n) % (most + 1)
		l = append(l, int(logs.Exp(s)), logs.Log(n), logs.Sum(s, i, s-i))
	}
	return l
}

// P2: an answer hangs on nothing but what the call was given: neither on calls ahead of it nor on those beside it.
func TestAnswersStayTheSame(t *testing.T) {
	want := answers()
	var got [8][]int
	var all sync.WaitGroup
	for i := range got {
		all.Go(func() { got[i] = answers() })
	}
	all.Wait()
	for i := range got {
		if !slices.Equal(got[i], want) {
			t.Error("another answer", i)
		}
	}
}

// P2, and the document's third rule: a list is not changed, and what lies behind its length doesn't count.
func TestSumLeavesItsListAlone(t *testing.T) {
	l := []int{256, 0, -7, 8191, math.MaxInt}
	before := slices.Clone(l)
	if got := logs.Sum(l[:3]...); got != 511 {
		t.Error("not the sum of the first three:", got)
	}
	if got, want := logs.Sum(l[:3]...), logs.Sum(l[:3:3]...); got != want {
		t.Error("it hangs on the capacity:", got, want)
	}
	logs.Sum(l...)
	if !slices.Equal(l, before) {
		t.Error("the list is changed:", l)
	}
}

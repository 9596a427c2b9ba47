package arith_test

import (
	"math"
	"math/big"
	"math/rand"
	"slices"
	"sync"
	"testing"

	"sideband/arith"
)

// edges are the numbers of 64 bits beside which something turns over.
func edges() []int64 {
	l := []int64{0, math.MinInt64, math.MaxInt64}
	for bit := range 63 {
		p := int64(1) << bit
		for _, n := range []int64{p - 1, p, p + 1, p + p/2} {
			l = append(l, n, -n)
		}
	}
	return append(l, math.MinInt64+1, math.MaxInt64-1)
}

// numbers are the edges, and some more of all sizes, the same each time.
func numbers() []int64 {
	l := edges()
	r := rand.New(rand.NewSource(1))
	for range 500 {
		l = append(l, int64(r.Uint64())>>r.Intn(64))
	}
	return l
}

// halves are numbers of 32 bits of all sizes.
func halves() []int32 {
	l := []int32{0, math.MinInt32, math.MinInt32 + 1, math.MaxInt32, math.MaxInt32 - 1}
	for bit := range 31 {
		l = append(l, 1<<bit, -1<<bit, 1<<bit-1, 3<<bit)
	}
	return l
}

// wrongWides and wrongBys are those for which Sat, and Round and Mul, answer 0.
var (
	wrongWides = []int{0, -1, -63, -64, -65, 65, 66, 128, 1 << 32, math.MinInt, math.MaxInt}
	wrongBys   = []int{-1, -2, -63, -64, 63, 64, 65, 127, 1 << 32, math.MinInt, math.MaxInt}
)

func power(bits int) *big.Int { return new(big.Int).Lsh(big.NewInt(1), uint(bits)) }

// held is a number held to so many bits, as the chapter's words say it.
func held(n *big.Int, wide int) *big.Int {
	above := power(wide - 1)
	if n.Cmp(above) >= 0 {
		return above.Sub(above, big.NewInt(1))
	}
	if least := new(big.Int).Neg(above); n.Cmp(least) < 0 {
		return least
	}
	return n
}

// nearest is n divided by 2^by to the nearest: of the floor and the one above it the nearer one, of two the greater.
func nearest(n *big.Int, by int) *big.Int {
	d := power(by)
	floor, rest := new(big.Int).DivMod(n, d, new(big.Int))
	if rest.Lsh(rest, 1).Cmp(d) >= 0 {
		floor.Add(floor, big.NewInt(1))
	}
	return floor
}

// P1.1: Sat.
func TestSat(t *testing.T) {
	for _, c := range []struct {
		n    int64
		wide int
		want int64
	}{
		{0, 1, 0}, {1, 1, 0}, {-1, 1, -1}, {-2, 1, -1}, {math.MaxInt64, 1, 0}, {math.MinInt64, 1, -1},
		{1, 2, 1}, {2, 2, 1}, {-2, 2, -2}, {-3, 2, -2},
		{32767, 16, 32767}, {32768, 16, 32767}, {-32768, 16, -32768}, {-32769, 16, -32768},
		{math.MaxInt64, 63, 1<<62 - 1}, {math.MinInt64, 63, -1 << 62},
		{math.MaxInt64, 64, math.MaxInt64}, {math.MinInt64, 64, math.MinInt64},
	} {
		if got := arith.Sat(c.n, c.wide); got != c.want {
			t.Errorf("Sat(%d, %d) = %d, not %d", c.n, c.wide, got, c.want)
		}
	}
}

func TestSatOfEachWidth(t *testing.T) {
	for wide := 1; wide <= 64; wide++ {
		for _, n := range numbers() {
			want := held(big.NewInt(n), wide)
			if got := arith.Sat(n, wide); big.NewInt(got).Cmp(want) != 0 {
				t.Fatalf("Sat(%d, %d) = %d, not %d", n, wide, got, want)
			}
		}
	}
}

func TestSatOfAWrongWidth(t *testing.T) {
	for _, wide := range wrongWides {
		for _, n := range edges() {
			if got := arith.Sat(n, wide); got != 0 {
				t.Fatalf("Sat(%d, %d) = %d, not 0", n, wide, got)
			}
		}
	}
}

// P1.1: Add.
func TestAdd(t *testing.T) {
	for _, c := range []struct {
		l    []int64
		want int64
	}{
		{nil, 0}, {[]int64{}, 0}, {[]int64{7}, 7}, {[]int64{-7}, -7}, {[]int64{1, 2, 3, -10}, -4},
		{[]int64{math.MinInt64}, math.MinInt64}, {[]int64{math.MaxInt64}, math.MaxInt64},
		{[]int64{math.MaxInt64, 1}, math.MaxInt64}, {[]int64{math.MaxInt64, 0}, math.MaxInt64},
		{[]int64{math.MaxInt64 - 1, 1}, math.MaxInt64}, {[]int64{math.MinInt64 + 1, -1}, math.MinInt64},
		{[]int64{math.MinInt64, -1}, math.MinInt64}, {[]int64{math.MinInt64, math.MinInt64}, math.MinInt64},
		{[]int64{math.MaxInt64, math.MaxInt64}, math.MaxInt64}, {[]int64{math.MinInt64, math.MaxInt64}, -1},
		{[]int64{-1, math.MinInt64}, math.MinInt64}, {[]int64{1, math.MaxInt64}, math.MaxInt64},
		{[]int64{0, math.MinInt64, 0}, math.MinInt64},
		// Each sum is held, not just the last one: the order counts.
		{[]int64{math.MaxInt64, 10, -10}, math.MaxInt64 - 10}, {[]int64{-10, math.MaxInt64, 10}, math.MaxInt64},
		{[]int64{math.MinInt64, -10, 10}, math.MinInt64 + 10}, {[]int64{10, math.MinInt64, -10}, math.MinInt64},
	} {
		if got := arith.Add(c.l...); got != c.want {
			t.Errorf("Add(%v) = %d, not %d", c.l, got, c.want)
		}
	}
}

func TestAddHoldsEachSum(t *testing.T) {
	l := numbers()
	r := rand.New(rand.NewSource(2))
	for range 5000 {
		var terms []int64
		want := new(big.Int)
		for range r.Intn(8) {
			n := l[r.Intn(len(l))]
			terms = append(terms, n)
			want = held(new(big.Int).Add(want, big.NewInt(n)), 64)
		}
		if got := arith.Add(terms...); big.NewInt(got).Cmp(want) != 0 {
			t.Fatalf("Add(%v) = %d, not %d", terms, got, want)
		}
	}
}

type (
	sample int16
	line   int32
	place  int64
)

// P1.1: Wide, of each kind of number, also of kinds that a program names.
func TestWide(t *testing.T) {
	for i, c := range []struct{ got, want int64 }{
		{arith.Wide(int16(-32768)), -32768}, {arith.Wide(int16(32767)), 32767}, {arith.Wide(int16(0)), 0},
		{arith.Wide(int32(math.MinInt32)), math.MinInt32}, {arith.Wide(int32(math.MaxInt32)), math.MaxInt32},
		{arith.Wide(int64(math.MinInt64)), math.MinInt64}, {arith.Wide(int64(math.MaxInt64)), math.MaxInt64},
		{arith.Wide(sample(-5)), -5}, {arith.Wide(line(1 << 30)), 1 << 30}, {arith.Wide(place(-1 << 62)), -1 << 62},
	} {
		if c.got != c.want {
			t.Errorf("%d: %d, not %d", i, c.got, c.want)
		}
	}
}

// P1.1: Round.
func TestRound(t *testing.T) {
	for _, c := range []struct {
		n    int64
		by   int
		want int64
	}{
		{-3, 1, -1}, {3, 1, 2}, {1, 1, 1}, {-1, 1, 0}, {2, 2, 1}, {1, 2, 0}, {-2, 2, 0}, {-3, 2, -1}, {-6, 2, -1}, {-7, 2, -2},
		{0, 0, 0}, {-9, 0, -9}, {math.MinInt64, 0, math.MinInt64}, {math.MaxInt64, 0, math.MaxInt64},
		{math.MaxInt64, 1, 1 << 62}, {math.MinInt64, 1, -1 << 62},
		{math.MaxInt64, 62, 2}, {math.MinInt64, 62, -2}, {1 << 61, 62, 1}, {1<<61 - 1, 62, 0}, {-1 << 61, 62, 0}, {-1<<61 - 1, 62, -1},
	} {
		if got := arith.Round(c.n, c.by); got != c.want {
			t.Errorf("Round(%d, %d) = %d, not %d", c.n, c.by, got, c.want)
		}
	}
}

func TestRoundByEachPower(t *testing.T) {
	for by := 0; by <= 62; by++ {
		for _, n := range numbers() {
			want := nearest(big.NewInt(n), by)
			if got := arith.Round(n, by); big.NewInt(got).Cmp(want) != 0 {
				t.Fatalf("Round(%d, %d) = %d, not %d", n, by, got, want)
			}
		}
	}
}

func TestRoundByAWrongPower(t *testing.T) {
	for _, by := range wrongBys {
		for _, n := range edges() {
			if got := arith.Round(n, by); got != 0 {
				t.Fatalf("Round(%d, %d) = %d, not 0", n, by, got)
			}
		}
	}
}

// P1.1: Mul.
func TestMul(t *testing.T) {
	for _, c := range []struct {
		a, b int32
		by   int
		want int32
	}{
		{3, 5, 0, 15}, {3, 5, 1, 8}, {-3, 5, 1, -7}, {3, -5, 2, -4}, {0, math.MinInt32, 0, 0},
		{math.MinInt32, math.MinInt32, 0, math.MaxInt32}, {math.MinInt32, math.MaxInt32, 0, math.MinInt32},
		{math.MinInt32, math.MinInt32, 31, math.MaxInt32}, {math.MinInt32, math.MinInt32, 32, 1 << 30},
		{math.MinInt32, math.MinInt32, 62, 1}, {math.MaxInt32, math.MaxInt32, 31, math.MaxInt32 - 1}, {math.MaxInt32, -1, 62, 0},
		{1 << 24, 1 << 24, 24, 1 << 24}, {-1 << 24, 1 << 24, 24, -1 << 24},
	} {
		if got := arith.Mul(c.a, c.b, c.by); got != c.want {
			t.Errorf("Mul(%d, %d, %d) = %d, not %d", c.a, c.b, c.by, got, c.want)
		}
	}
}

func TestMulByEachPower(t *testing.T) {
	l := halves()
	for _, a := range l {
		for _, b := range l {
			product := new(big.Int).Mul(big.NewInt(int64(a)), big.NewInt(int64(b)))
			for by := 0; by <= 62; by++ {
				want := held(nearest(product, by), 32)
				if got := arith.Mul(a, b, by); big.NewInt(int64(got)).Cmp(want) != 0 {
					t.Fatalf("Mul(%d, %d, %d) = %d, not %d", a, b, by, got, want)
				}
			}
		}
	}
}

func TestMulByAWrongPower(t *testing.T) {
	for _, by := range wrongBys {
		for _, a := range halves() {
			if got := arith.Mul(a, math.MinInt32, by); got != 0 {
				t.Fatalf("Mul(%d, %d, %d) = %d, not 0", a, math.MinInt32, by, got)
			}
		}
	}
}

// P1.1: Root.
func TestRoot(t *testing.T) {
	for _, c := range []struct {
		n    uint64
		want uint32
	}{
		{0, 0}, {1, 1}, {2, 1}, {3, 1}, {4, 2}, {8, 2}, {9, 3}, {10, 3}, {1 << 61, 1518500249}, {1 << 62, 1 << 31}, {1<<62 - 1, 1<<31 - 1},
		{1 << 63, 3037000499}, {math.MaxUint64, math.MaxUint32}, {math.MaxUint32 * math.MaxUint32, math.MaxUint32}, {math.MaxUint32*math.MaxUint32 - 1, math.MaxUint32 - 1},
	} {
		if got := arith.Root(c.n); got != c.want {
			t.Errorf("Root(%d) = %d, not %d", c.n, got, c.want)
		}
	}
}

func TestRootIsTheGreatest(t *testing.T) {
	for _, n := range numbers() {
		want := new(big.Int).Sqrt(new(big.Int).SetUint64(uint64(n)))
		if got := arith.Root(uint64(n)); uint64(got) != want.Uint64() {
			t.Fatalf("Root(%d) = %d, not %d", uint64(n), got, want)
		}
	}
}

// P1.2: what fits isn't changed.
func TestWhatFitsIsNotChanged(t *testing.T) {
	for _, n := range numbers() {
		if arith.Sat(n, 64) != n || arith.Add(n) != n || arith.Wide(n) != n || arith.Round(n, 0) != n {
			t.Fatalf("%d is changed", n)
		}
		for wide := 64; wide >= 1 && n>>(wide-1) == n>>63; wide-- {
			if got := arith.Sat(n, wide); got != n {
				t.Fatalf("Sat(%d, %d) = %d", n, wide, got)
			}
		}
	}
	for _, n := range halves() {
		if arith.Mul(n, 1, 0) != n || arith.Mul(1, n, 0) != n || arith.Mul(n, 1<<30, 30) != n {
			t.Fatalf("%d is changed", n)
		}
	}
}

// P1.2: a square's root is its root; one less has the root ahead of it.
func TestRootOfASquare(t *testing.T) {
	check := func(root uint64) {
		if got := arith.Root(root * root); uint64(got) != root {
			t.Fatalf("Root(%d) = %d, not %d", root*root, got, root)
		}
		if got := arith.Root(root*root - 1); root > 0 && uint64(got) != root-1 {
			t.Fatalf("Root(%d) = %d, not %d", root*root-1, got, root-1)
		}
	}
	for root := range uint64(2000) {
		check(root)
		check(math.MaxUint32 - root)
		check(1<<31 - 1000 + root)
	}
}

// P1: with any numbers at all each call ends, and none panics.
func TestNothingPanics(t *testing.T) {
	wides := append(slices.Clone(wrongWides), wrongBys...)
	for wide := -130; wide <= 130; wide++ {
		wides = append(wides, wide)
	}
	for _, n := range edges() {
		for _, wide := range wides {
			arith.Sat(n, wide)
			arith.Round(n, wide)
			arith.Mul(int32(n), int32(n>>32), wide)
		}
		arith.Wide(n)
		arith.Root(uint64(n))
	}
	arith.Add(edges()...)
	arith.Add(nil...)
}

// answers are those of all calls, on some numbers.
func answers() []int64 {
	var l []int64
	all := numbers()
	for i, n := range all {
		l = append(l, arith.Sat(n, i%70-3), arith.Round(n, i%70-3), arith.Add(all[:i]...), arith.Wide(n))
		l = append(l, int64(arith.Mul(int32(n), int32(n>>32), i%70-3)), int64(arith.Root(uint64(n))))
	}
	return l
}

// P2: an answer hangs on nothing but what the call was given: neither on calls ahead of it nor on those beside it.
func TestAnswersStayTheSame(t *testing.T) {
	want := answers()
	var got [8][]int64
	var all sync.WaitGroup
	for i := range got {
		all.Go(func() { got[i] = answers() })
	}
	all.Wait()
	for i := range got {
		if !slices.Equal(got[i], want) {
			t.Error("another answer", i)
		}
	}
}

// P2, and the document's third rule: a list is not changed, and what lies behind its length doesn't count.
func TestAddLeavesItsListAlone(t *testing.T) {
	l := []int64{math.MaxInt64, 5, -6, 1 << 40, -1 << 50}
	before := slices.Clone(l)
	if got := arith.Add(l[:3]...); got != math.MaxInt64-6 {
		t.Error("not the sum of the first three:", got)
	}
	if got, want := arith.Add(l[:3]...), arith.Add(l[:3:3]...); got != want {
		t.Error("it hangs on the capacity:", got, want)
	}
	if !slices.Equal(l, before) {
		t.Error("the list is changed:", l)
	}
}

package lapped_test

import (
	"math"
	"math/big"
	"math/rand"
	"slices"
	"sync"
	"testing"

	"sideband/api"
	"sideband/bands"
	"sideband/lapped"
)

// sizes are how many lines a transform may have.
var sizes = []int{128, 512}

// The least and the greatest numbers of 21 bits, and of 26.
const (
	leastSample, greatestSample = -1 << 20, 1<<20 - 1
	leastLine, greatestLine     = -1 << 25, 1<<25 - 1
)

func newTransform(t *testing.T, n int) *lapped.Transform {
	t.Helper()
	x, err := lapped.New(n, bands.New())
	if x == nil || err != api.OK {
		t.Fatalf("New(%d) = %v, %d", n, x, err)
	}
	return x
}

func forward(t *testing.T, x *lapped.Transform, samples []int32) []int32 {
	t.Helper()
	l, err := x.Forward(samples)
	if err != api.OK {
		t.Fatal("Forward:", err)
	}
	return l
}

func back(t *testing.T, x *lapped.Transform, lines []int32) []int32 {
	t.Helper()
	samples, err := x.Back(lines)
	if err != api.OK {
		t.Fatal("Back:", err)
	}
	return samples
}

// chapterFold is the chapter's folding; its numbers need 22 bits at most.
func chapterFold(x []int32) []int32 {
	n := len(x) / 2
	h := n / 2
	u := make([]int32, n)
	for i := 0; i <= h-1; i++ {
		u[i] = -x[3*h-1-i] - x[3*h+i]
	}
	for i := 0; i <= h-1; i++ {
		u[h+i] = x[i] - x[n-1-i]
	}
	return u
}

// chapterUnfold is the chapter's unfolding, place by place.
func chapterUnfold(u []int32) []int32 {
	n := len(u)
	h := n / 2
	x := make([]int32, 2*n)
	for place := range x {
		switch {
		case place < h:
			x[place] = u[h+place]
		case place < n:
			x[place] = -u[h+n-1-place]
		case place < 3*h:
			x[place] = -u[3*h-1-place]
		default:
			x[place] = -u[place-3*h]
		}
	}
	return x
}

// chapterTurn is the chapter's turning, of numbers without end.
func chapterTurn(u []int32) []int32 {
	c, n := bands.New(), len(u)
	by := map[int]uint{128: 27, 512: 28}[n]
	turned := make([]int32, n)
	for k := range turned {
		sum := new(big.Int)
		for j, number := range u {
			cosine := big.NewInt(int64(c.Cos((2*j + 1) * (2*k + 1) * (512 / n))))
			sum.Add(sum, cosine.Mul(cosine, big.NewInt(int64(number))))
		}
		// The floor of a number and a half is the nearest one, of two the greater.
		sum.Add(sum, new(big.Int).Lsh(big.NewInt(1), by-1))
		turned[k] = int32(sum.Rsh(sum, by).Int64())
	}
	return turned
}

func chapterForward(x []int32) []int32 {
	l := chapterTurn(chapterFold(x))
	for k, n := range l {
		l[k] = max(leastLine, min(n, greatestLine))
	}
	return l
}

func chapterBack(l []int32) []int32 { return chapterUnfold(chapterTurn(l)) }

// opened are samples of which folding makes numbers of 21 bits.
func opened(u []int32) []int32 {
	n := len(u)
	h := n / 2
	x := make([]int32, 2*n)
	for i := range h {
		x[3*h+i] = -u[i] / 2
		x[3*h-1-i] = -u[i] - x[3*h+i]
		x[i] = u[h+i]
	}
	return x
}

// anyNumbers are so many, from the least to the greatest one.
func anyNumbers(r *rand.Rand, count int, least, greatest int32) []int32 {
	l := make([]int32, count)
	for i := range l {
		l[i] = least + int32(r.Int63n(int64(greatest)-int64(least)+1))
	}
	return l
}

// kinds are lists of so many numbers: all that are at an edge, single ones, wide and narrow ones.
func kinds(r *rand.Rand, count int, least, greatest int32) [][]int32 {
	l := [][]int32{
		make([]int32, count),
		slices.Repeat([]int32{least}, count),
		slices.Repeat([]int32{greatest}, count),
		slices.Repeat([]int32{least, greatest}, count/2),
		slices.Repeat([]int32{1}, count),
		slices.Repeat([]int32{-1}, count),
	}
	for _, at := range []int{0, count/4 - 1, count / 4, count/2 - 1, count / 2, 3*count/4 - 1, 3 * count / 4, count - 1, r.Intn(count)} {
		one := make([]int32, count)
		one[at] = []int32{least, greatest}[r.Intn(2)]
		l = append(l, one)
	}
	for _, by := range []int32{1, 1, 16, 1 << 10} {
		l = append(l, anyNumbers(r, count, least/by, greatest/by))
	}
	edges := make([]int32, count)
	for i := range edges {
		edges[i] = []int32{least, greatest}[r.Intn(2)]
	}
	return append(l, edges)
}

// told are numbers of up to so many bits, by a rule that is the same elsewhere.
func told(count, wide int) []int32 {
	l := make([]int32, count)
	for i := range l {
		l[i] = int32((i*i*7919+i*104729+12345)%(1<<wide) - 1<<(wide-1))
	}
	return l
}

// sums are two by which many numbers are told.
func sums(l []int32) (all, weighed int64) {
	for i, n := range l {
		all += int64(n)
		weighed += int64(i) * int64(n)
	}
	return all, weighed
}

// P8.1: New.
func TestNew(t *testing.T) {
	c := bands.New()
	for _, n := range sizes {
		x, err := lapped.New(n, c)
		if err != api.OK || x == nil {
			t.Fatalf("New(%d): %v, %d", n, x, err)
		}
		if l := forward(t, x, make([]int32, 2*n)); len(l) != n {
			t.Errorf("New(%d) has %d lines", n, len(l))
		}
	}
}

func TestNewOfWhatMayNotBe(t *testing.T) {
	l := []int{math.MinInt, math.MinInt + 128, math.MaxInt, -128, -512, 1024, 2048, 128 + 1<<32, 512 + 1<<32, 128 - 1<<32, 128 * 512}
	for n := -2; n < 700; n++ {
		l = append(l, n)
	}
	for _, n := range l {
		if x, err := lapped.New(n, nil); x != nil || err != api.ErrArg {
			t.Errorf("New(%d, nil) = %v, %d", n, x, err)
		}
		if slices.Contains(sizes, n) {
			continue
		}
		if x, err := lapped.New(n, bands.New()); x != nil || err != api.ErrArg {
			t.Errorf("New(%d) = %v, %d", n, x, err)
		}
	}
}

// A transform has the circle that it was handed, and its calls.
func TestCircleIsEmbedded(t *testing.T) {
	c := bands.New()
	for _, n := range sizes {
		x, _ := lapped.New(n, c)
		if x.Circle != c || x.Cos(512) != 11863283 || x.Rise(0) != 102943 {
			t.Error("another circle:", x.Cos(512), x.Rise(0))
		}
	}
}

// P8.1: Forward. These numbers were reckoned apart from this program.
func TestForwardByNumbers(t *testing.T) {
	for _, c := range []struct {
		n, at               int
		first, second, last int32
	}{
		{128, 0, 87844, -90000, 88929}, {128, 63, 767, -2301, -124998}, {128, 64, -767, 2301, 124998}, {128, 127, -87844, 90000, -88929},
		{128, 128, -88929, 86746, 87844}, {128, 191, -124998, -124979, -767}, {128, 192, -124998, -124979, -767}, {128, 255, -88929, 86746, 87844},
		{512, 0, 44126, -44397, 44262}, {512, 255, 96, -288, -62500}, {512, 256, -96, 288, 62500}, {512, 511, -44126, 44397, -44262},
		{512, 512, -44262, 43990, 44126}, {512, 767, -62500, -62499, -96}, {512, 768, -62500, -62499, -96}, {512, 1023, -44262, 43990, 44126},
	} {
		samples := make([]int32, 2*c.n)
		samples[c.at] = 1000000
		l := forward(t, newTransform(t, c.n), samples)
		if len(l) != c.n || l[0] != c.first || l[1] != c.second || l[c.n-1] != c.last {
			t.Errorf("%d lines, a sample at %d: %d, %d .. %d, not %d, %d .. %d", len(l), c.at, l[0], l[1], l[c.n-1], c.first, c.second, c.last)
		}
	}
	for _, c := range []struct {
		n                           int
		first, second, middle, last int32
		all, weighed                int64
	}{
		{128, -240778, -97826, -938925, 507042, -1877899, -29495476},
		{512, 718469, 1519744, -627496, -66945, -3196377, 2584387339},
	} {
		l := forward(t, newTransform(t, c.n), told(2*c.n, 21))
		all, weighed := sums(l)
		if l[0] != c.first || l[1] != c.second || l[c.n/2] != c.middle || l[c.n-1] != c.last || all != c.all || weighed != c.weighed {
			t.Errorf("%d lines: %d, %d .. %d .. %d, sums %d, %d", c.n, l[0], l[1], l[c.n/2], l[c.n-1], all, weighed)
		}
	}
}

// P8.1: Back. These numbers, too.
func TestBackByNumbers(t *testing.T) {
	for _, c := range []struct {
		n, at int
		want  [8]int32 // at both ends of each quarter
	}{
		{128, 0, [8]int32{2947567, 25736, -25736, -2947567, -2983963, -4194225, -4194225, -2983963}},
		{128, 1, [8]int32{-3019910, -77203, 77203, 3019910, 2910728, -4193593, -4193593, 2910728}},
		{128, 127, [8]int32{2983963, -4194225, 4194225, -2983963, 2947567, -25736, -25736, 2947567}},
		{512, 0, [8]int32{1480634, 3217, -3217, -1480634, -1485184, -2097149, -2097149, -1485184}},
		{512, 1, [8]int32{-1489719, -9651, 9651, 1489719, 1476071, -2097130, -2097130, 1476071}},
		{512, 511, [8]int32{1485184, -2097149, 2097149, -1485184, 1480634, -3217, -3217, 1480634}},
	} {
		lines := make([]int32, c.n)
		lines[c.at] = greatestLine
		b := back(t, newTransform(t, c.n), lines)
		h := c.n / 2
		if got := [8]int32{b[0], b[h-1], b[h], b[2*h-1], b[2*h], b[3*h-1], b[3*h], b[4*h-1]}; len(b) != 2*c.n || got != c.want {
			t.Errorf("%d lines, one at %d: %d samples, %v, not %v", c.n, c.at, len(b), got, c.want)
		}
	}
	for _, c := range []struct {
		n                                   int
		first, second, middle, ahead, there int32
		all, weighed                        int64
	}{
		{128, -1501353, -3394343, 6234073, 1501353, -1511302, 533634448, 102401650638},
		{512, -27961741, 4832598, 14650368, 27961741, -31963325, 1028510708, 800984444021},
	} {
		b := back(t, newTransform(t, c.n), told(c.n, 26))
		all, weighed := sums(b)
		if b[0] != c.first || b[1] != c.second || b[c.n/2] != c.middle || b[c.n-1] != c.ahead || b[c.n] != c.there || b[2*c.n-1] != c.there || all != c.all || weighed != c.weighed {
			t.Errorf("%d lines: %d, %d .. %d .. %d, %d .. %d, sums %d, %d", c.n, b[0], b[1], b[c.n/2], b[c.n-1], b[c.n], b[2*c.n-1], all, weighed)
		}
	}
}

// P8.1: Forward, of samples of all kinds.
func TestForward(t *testing.T) {
	r := rand.New(rand.NewSource(1))
	for _, n := range sizes {
		x := newTransform(t, n)
		for i, samples := range kinds(r, 2*n, leastSample, greatestSample) {
			if got, want := forward(t, x, samples), chapterForward(samples); !slices.Equal(got, want) {
				t.Errorf("%d lines, kind %d: %v, not %v", n, i, got, want)
			}
		}
	}
}

// P8.1: Back, of lines of all kinds.
func TestBack(t *testing.T) {
	r := rand.New(rand.NewSource(2))
	for _, n := range sizes {
		x := newTransform(t, n)
		for i, lines := range kinds(r, n, leastLine, greatestLine) {
			if got, want := back(t, x, lines), chapterBack(lines); !slices.Equal(got, want) {
				t.Errorf("%d lines, kind %d: %v, not %v", n, i, got, want)
			}
		}
	}
}

// along are numbers, the greatest or the least, that all go along with what turning makes of one number.
func along(n, k int, least, greatest int32) []int32 {
	c := bands.New()
	u := make([]int32, n)
	for j := range u {
		u[j] = least
		if c.Cos((2*j+1)*(2*k+1)*(512/n)) > 0 {
			u[j] = greatest
		}
	}
	return u
}

// P8.1: lines are held to 26 bits; of 128 none goes so far.
func TestForwardIsHeld(t *testing.T) {
	for _, c := range []struct {
		n                int
		greatest, least  int32 // what the first line would be
		aboveIs, belowIs int32
	}{
		{512, 42722851, -42722822, greatestLine, leastLine}, {128, 21361549, -21361535, 21361549, -21361535},
	} {
		x := newTransform(t, c.n)
		for _, k := range []int{0, 1, c.n / 2, c.n - 1} {
			above := widest(along(c.n, k, -1, 1))
			below := make([]int32, len(above))
			for i, n := range above {
				below[i] = -1 - n
			}
			if k == 0 && (chapterTurn(chapterFold(above))[k] != c.greatest || chapterTurn(chapterFold(below))[k] != c.least) {
				t.Fatal("other samples than the greatest ones")
			}
			for _, samples := range [][]int32{above, below} {
				if got, want := forward(t, x, samples), chapterForward(samples); !slices.Equal(got, want) {
					t.Errorf("%d lines: %v, not %v", c.n, got, want)
				}
			}
			if up, down := forward(t, x, above)[k], forward(t, x, below)[k]; k == 0 && (up != c.aboveIs || down != c.belowIs) {
				t.Errorf("%d lines: line %d is %d, or %d below 0, not %d and %d", c.n, k, up, down, c.aboveIs, c.belowIs)
			}
		}
	}
}

// widest are samples of which folding makes numbers of such signs, as great as may be.
func widest(signs []int32) []int32 {
	n := len(signs)
	h := n / 2
	x := make([]int32, 2*n)
	edge := func(sign int32) int32 {
		if sign > 0 {
			return greatestSample
		}
		return leastSample
	}
	for i := range h {
		x[3*h-1-i], x[3*h+i] = edge(-signs[i]), edge(-signs[i])
		x[i], x[n-1-i] = edge(signs[h+i]), edge(-signs[h+i])
	}
	return x
}

// P8.1: samples that come back aren't held; the greatest ones of all come whole.
func TestBackIsNotHeld(t *testing.T) {
	for _, n := range sizes {
		x := newTransform(t, n)
		for _, k := range []int{0, n / 2, n - 1} {
			for _, lines := range [][]int32{along(n, k, leastLine, greatestLine), along(n, k, greatestLine, leastLine)} {
				got, want := back(t, x, lines), chapterBack(lines)
				if !slices.Equal(got, want) {
					t.Errorf("%d lines: %v, not %v", n, got, want)
				}
				if max(slices.Max(got), -slices.Min(got)) < 1<<28 {
					t.Errorf("%d lines: from %d to %d", n, slices.Min(got), slices.Max(got))
				}
			}
		}
	}
}

// P8.1: halves are rounded upwards, whichever sign, and ahead of unfolding.
func TestHalvesGoUpwards(t *testing.T) {
	for _, c := range []struct {
		n, j, k           int
		number, up, below int32 // of the number, and of it below 0
	}{
		{128, 0, 114, 1 << 20, 21616, -21615}, {128, 1, 123, 1 << 20, -21615, 21616}, {128, 2, 79, 1 << 20, 21616, -21615}, {128, 3, 89, 1 << 20, 21616, -21615},
		{512, 0, 359, 1 << 20, 29556, -29555}, {512, 0, 420, 1 << 20, 18157, -18156}, {512, 1, 260, 1 << 17, -6027, 6028}, {512, 0, 32, 1 << 20, 65211, -65210},
	} {
		x, h := newTransform(t, c.n), c.n/2
		for sign, want := range map[int32]int32{1: c.up, -1: c.below} {
			l := make([]int32, c.n)
			l[c.j] = sign * c.number
			b := back(t, x, l)
			there, beside := c.k-h, c.n-1-(c.k-h)
			wanted := [2]int32{want, -want}
			if c.k < h {
				there, beside = 3*h-1-c.k, 3*h+c.k
				wanted = [2]int32{-want, -want}
			}
			if got := [2]int32{b[there], b[beside]}; got != wanted {
				t.Errorf("%d lines, %d at %d: %v comes back, not %v", c.n, l[c.j], c.j, got, wanted)
			}
			// Numbers j are below h here: each is of two samples.
			s := make([]int32, 2*c.n)
			s[3*h-1-c.j], s[3*h+c.j] = -l[c.j]/2, -l[c.j]/2
			if got := forward(t, x, s)[c.k]; got != want {
				t.Errorf("%d lines, %d at %d: line %d is %d, not %d", c.n, l[c.j], c.j, c.k, got, want)
			}
		}
	}
}

// The chapter's example: all 0, all 0.
func TestSilence(t *testing.T) {
	for _, n := range sizes {
		x := newTransform(t, n)
		if l := forward(t, x, make([]int32, 2*n)); !slices.Equal(l, make([]int32, n)) {
			t.Error("lines of silence:", l)
		}
		if b := back(t, x, make([]int32, n)); !slices.Equal(b, make([]int32, 2*n)) {
			t.Error("samples of silence:", b)
		}
	}
}

// refused tells whether an answer is ErrArg and nothing else.
func refused(l []int32, err api.Errno) bool { return len(l) == 0 && err == api.ErrArg }

// P8.1: another number of samples, or of lines.
func TestOtherNumbersOfThem(t *testing.T) {
	for _, n := range sizes {
		x := newTransform(t, n)
		for count := range 1100 {
			if count != 2*n && !refused(x.Forward(make([]int32, count))) {
				t.Errorf("%d lines: Forward takes %d samples", n, count)
			}
			if count != n && !refused(x.Back(make([]int32, count))) {
				t.Errorf("%d lines: Back takes %d lines", n, count)
			}
		}
		if !refused(x.Forward(nil)) || !refused(x.Back(nil)) || !refused(x.Forward(make([]int32, 2*n)[:n])) || !refused(x.Back(make([]int32, n)[:n-1])) {
			t.Errorf("%d lines: too few are taken", n)
		}
	}
}

// P8.1: at each place numbers that are too wide, and the widest that aren't.
func TestWideNumbers(t *testing.T) {
	for _, n := range sizes {
		x := newTransform(t, n)
		for _, c := range []struct {
			call            func([]int32) ([]int32, api.Errno)
			count           int
			least, greatest int32
		}{{x.Forward, 2 * n, leastSample, greatestSample}, {x.Back, n, leastLine, greatestLine}} {
			for at := range c.count {
				for _, wide := range []int32{c.least - 1, c.greatest + 1, 2*c.least + 1, 2 * c.greatest, math.MinInt32, math.MaxInt32} {
					l := make([]int32, c.count)
					l[at] = wide
					if !refused(c.call(l)) {
						t.Errorf("%d lines: %d at %d is taken", n, wide, at)
					}
				}
			}
			for _, at := range []int{0, 1, c.count/2 - 1, c.count / 2, c.count - 1} {
				for _, number := range []int32{c.least, c.greatest} {
					l := make([]int32, c.count)
					l[at] = number
					if got, err := c.call(l); len(got) == 0 || err != api.OK {
						t.Errorf("%d lines: %d at %d isn't taken: %d", n, number, at, err)
					}
				}
			}
		}
	}
}

// P8.1: a nil transform.
func TestNilTransform(t *testing.T) {
	var x *lapped.Transform
	for _, count := range []int{0, 1, 127, 128, 256, 512, 1024} {
		for _, l := range [][]int32{make([]int32, count), slices.Repeat([]int32{math.MinInt32}, count)} {
			if !refused(x.Forward(l)) || !refused(x.Back(l)) {
				t.Errorf("a nil transform takes %d", count)
			}
		}
	}
	if !refused(x.Forward(nil)) || !refused(x.Back(nil)) {
		t.Error("a nil transform takes none")
	}
}

// far is how far numbers lie from others at most.
func far(t *testing.T, got, want []int32) int32 {
	t.Helper()
	if len(got) != len(want) {
		t.Fatalf("%d numbers, not %d", len(got), len(want))
	}
	var most int32
	for i := range got {
		most = max(most, got[i]-want[i], want[i]-got[i])
	}
	return most
}

// aFew is how far off numbers are found to be; the chapter allows 4096.
const aFew = 4

// P8.2: turned twice, numbers of 21 bits are what they were.
func TestTurnedTwice(t *testing.T) {
	r := rand.New(rand.NewSource(3))
	for _, n := range sizes {
		x := newTransform(t, n)
		l := kinds(r, n, leastSample, greatestSample)
		for _, k := range []int{0, 1, n / 3, n - 1} {
			l = append(l, along(n, k, leastSample, greatestSample), along(n, k, greatestSample, leastSample))
		}
		for i, u := range l {
			if !slices.Equal(chapterFold(opened(u)), u) {
				t.Fatal("samples of other numbers")
			}
			if off := far(t, back(t, x, forward(t, x, opened(u))), chapterUnfold(u)); off > aFew {
				t.Errorf("%d lines, kind %d: %d off", n, i, off)
			}
		}
	}
}

// P8.2: samples of 20 bits, there and back, are what they are folded and unfolded.
func TestThereAndBack(t *testing.T) {
	r := rand.New(rand.NewSource(4))
	for _, n := range sizes {
		x := newTransform(t, n)
		l := kinds(r, 2*n, leastSample/2, greatestSample/2)
		for range 20 {
			l = append(l, anyNumbers(r, 2*n, leastSample/2, greatestSample/2))
		}
		for i, samples := range l {
			if off := far(t, back(t, x, forward(t, x, samples)), chapterUnfold(chapterFold(samples))); off > aFew {
				t.Errorf("%d lines, kind %d: %d off", n, i, off)
			}
		}
	}
}

// P1: of any numbers each call ends, and none panics, also of a Transform that New didn't make, which has no lines.
func TestNothingPanics(t *testing.T) {
	r := rand.New(rand.NewSource(5))
	l := []*lapped.Transform{nil, {}, {Circle: bands.New()}, {Circle: &bands.Circle{}}}
	for _, n := range sizes {
		empty, _ := lapped.New(n, &bands.Circle{})
		l = append(l, newTransform(t, n), empty)
	}
	for i, x := range l {
		for _, count := range []int{0, 1, 2, 3, 127, 128, 129, 255, 256, 257, 511, 512, 513, 1023, 1024, 1025, 4096} {
			for _, edge := range []int32{0, 1, leastSample, greatestSample, leastLine, greatestLine, math.MinInt32, math.MaxInt32} {
				numbers := slices.Repeat([]int32{edge}, count)
				lines, wrong := x.Forward(numbers)
				samples, err := x.Back(numbers)
				if i < 4 && (!refused(lines, wrong) || !refused(samples, err)) {
					t.Errorf("%d: a Transform without lines takes %d", i, count)
				}
			}
			numbers := anyNumbers(r, count, math.MinInt32, math.MaxInt32)
			x.Forward(numbers)
			x.Back(numbers)
		}
	}
}

// The document's third rule: what is handed in isn't changed, what lies behind its length isn't read, and nothing is shared.
func TestListsAreApart(t *testing.T) {
	r := rand.New(rand.NewSource(6))
	for _, n := range sizes {
		x := newTransform(t, n)
		for _, c := range []struct {
			call  func([]int32) ([]int32, api.Errno)
			count int
		}{{x.Forward, 2 * n}, {x.Back, n}} {
			room := append(anyNumbers(r, c.count, leastSample, greatestSample), slices.Repeat([]int32{math.MinInt32}, c.count)...)
			kept := slices.Clone(room)
			first, err := c.call(room[:c.count])
			want := slices.Clone(first)
			if err != api.OK || !slices.Equal(room, kept) {
				t.Fatalf("%d lines: %d, or what is handed in is changed", n, err)
			}
			second, _ := c.call(room[:c.count])
			for i := range room {
				room[i] = 7
			}
			if !slices.Equal(first, want) || !slices.Equal(second, want) {
				t.Errorf("%d lines: an answer is shared with what is handed in", n)
			}
			clear(first[:cap(first)])
			third, _ := c.call(kept[:c.count])
			if !slices.Equal(second, want) || !slices.Equal(third, want) {
				t.Errorf("%d lines: an answer is shared with another one", n)
			}
		}
	}
}

// answers are those of all calls, of transforms that are handed in.
func answers(l []*lapped.Transform) []int32 {
	r := rand.New(rand.NewSource(7))
	var all []int32
	for _, x := range l {
		for _, n := range sizes {
			lines, wrong := x.Forward(anyNumbers(r, 2*n, leastSample, greatestSample))
			samples, err := x.Back(anyNumbers(r, n, leastLine, greatestLine))
			all = append(append(all, int32(wrong), int32(err)), append(lines, samples...)...)
		}
	}
	return all
}

// P2: an answer hangs on nothing but what the call was given: neither on calls ahead of it nor on those beside it.
func TestAnswersStayTheSame(t *testing.T) {
	c := bands.New()
	before := *c
	var l []*lapped.Transform
	for _, n := range sizes {
		x, _ := lapped.New(n, c)
		l = append(l, x)
	}
	want := answers(l)
	var got [8][]int32
	var all sync.WaitGroup
	for i := range got {
		all.Go(func() { got[i] = answers(l) })
	}
	all.Wait()
	for i := range got {
		if !slices.Equal(got[i], want) {
			t.Error("another answer", i)
		}
	}
	if !slices.Equal(answers([]*lapped.Transform{newTransform(t, 128), newTransform(t, 512)}), want) {
		t.Error("transforms of another circle answer otherwise")
	}
	if *c != before {
		t.Error("the circle is changed")
	}
}

package mask_test

import (
	"math"
	"math/big"
	"math/rand"
	"slices"
	"sync"
	"testing"

	"sideband/api"
	"sideband/energy"
	"sideband/mask"
)

// chapterEdges is where layer 4's bands begin, and the last one ends.
var chapterEdges = []int{0, 4, 8, 12, 16, 20, 24, 28, 32, 40, 48, 56, 64, 80, 96, 112, 128, 160, 192, 256, 352, 512}

// Ceilings of frames: some, some with silence beside what is loud, and those at the edges.
var (
	some  = []int{26, 25, 20, 13, 12, 12, 11, 9, 9, 8, 8, 7, 6, 7, 5, 3, 2, 2, 1, 1, 0}
	peaks = []int{3, 4, 0, 26, 11, 0, 0, 9, 12, 1, 2, 5, 22, 21, 6, 14, 13, 0, 8, 17, 2}
	none  = slices.Repeat([]int{0}, 21)
	ones  = slices.Repeat([]int{1}, 21)
	most  = slices.Repeat([]int{26}, 21)
	up    = []int{0, 1, 2, 3, 4, 5, 6, 7, 8, 9, 10, 11, 12, 13, 14, 15, 16, 17, 18, 19, 20}
	down  = []int{26, 25, 24, 23, 22, 21, 20, 19, 18, 17, 16, 15, 14, 13, 12, 11, 10, 9, 8, 7, 6}
)

// odd are numbers that are neither ceilings nor steps.
var odd = []int{-1, 27, 28, 31, 32, -26, -27, 256, 1 << 32, -1 << 32, 1<<32 + 5, math.MinInt, math.MaxInt}

// wrongs are lists that are neither ceilings nor steps: of other lengths, and with an odd number at each place.
func wrongs() [][]int {
	l := [][]int{nil, {}, make([]int, 20, 21), make([]int, 512), make([]int, 1<<16)}
	for count := 1; count <= 70; count++ {
		if count != 21 {
			l = append(l, make([]int, count))
		}
	}
	for place := range 21 {
		for _, n := range odd {
			wrong := slices.Clone(some)
			wrong[place] = n
			l = append(l, wrong)
		}
	}
	return l
}

// anyRight are right ceilings, or steps, of any kind.
func anyRight(r *rand.Rand) []int {
	l := make([]int, 21)
	kind, bound := r.Intn(4), 1+r.Intn(27)
	for band := range l {
		switch kind {
		case 0:
			l[band] = r.Intn(bound)
		case 1:
			l[band] = 26 * r.Intn(2)
		case 2:
			l[band] = max(0, r.Intn(150)-123)
		case 3:
			l[band] = max(0, min(some[band]+r.Intn(5)-2, 26))
		}
	}
	return l
}

// chapterThresholds go from each band up, and down, with less in each one that is come to.
func chapterThresholds(l []int) []int {
	t := make([]int, 21)
	for from, n := range l {
		for band, left := from, n; band < 21; band, left = band+1, left-2 {
			t[band] = max(t[band], left)
		}
		for band, left := from, n; band >= 0; band, left = band-1, left-3 {
			t[band] = max(t[band], left)
		}
	}
	return t
}

// chapterSteps hold each one of the chapter's bounds behind the other.
func chapterSteps(l []int, quality, loss int) []int {
	steps := chapterThresholds(l)
	for band, n := range l {
		steps[band] += loss - quality
		if steps[band] < n-12 {
			steps[band] = n - 12
		}
		if steps[band] < 0 {
			steps[band] = 0
		}
		if steps[band] > n {
			steps[band] = n
		}
	}
	return steps
}

// chapterReach goes through lines, not bands, in numbers without end.
func chapterReach(l, steps []int) *big.Int {
	all, band := new(big.Int), 0
	for line := range 512 {
		for line >= chapterEdges[band+1] {
			band++
		}
		far := big.NewInt(2)
		if steps[band] < l[band] {
			all.Add(all, far.Exp(far, big.NewInt(int64(steps[band])), nil))
		} else {
			all.Add(all, far.Exp(far, big.NewInt(int64(l[band]+1)), nil))
		}
	}
	return all
}

func steps(t *testing.T, l []int, quality, loss int) []int {
	t.Helper()
	s, err := mask.Steps(l, quality, loss)
	if err != api.OK || len(s) != 21 {
		t.Fatalf("Steps(%v, %d, %d): %v, %d", l, quality, loss, s, err)
	}
	return s
}

func reach(t *testing.T, l, steps []int) int64 {
	t.Helper()
	far, err := mask.Reach(l, steps)
	if err != api.OK {
		t.Fatalf("Reach(%v, %v): %d, %d", l, steps, far, err)
	}
	return far
}

// refuses tells of what Steps is given that it's ErrArg, and nothing else.
func refuses(t *testing.T, l []int, quality, loss int) {
	t.Helper()
	if s, err := mask.Steps(l, quality, loss); len(s) != 0 || err != api.ErrArg {
		t.Errorf("Steps(%v, %d, %d): %v, %d", l, quality, loss, s, err)
	}
}

// refusesReach tells the same of Reach.
func refusesReach(t *testing.T, l, steps []int) {
	t.Helper()
	if far, err := mask.Reach(l, steps); far != 0 || err != api.ErrArg {
		t.Errorf("Reach(%v, %v): %d, %d", l, steps, far, err)
	}
}

// The bounds' names.
func TestBounds(t *testing.T) {
	if mask.Best != 10 || mask.Worst != 31 {
		t.Error(mask.Best, mask.Worst)
	}
}

// The chapter's example.
func TestTheExample(t *testing.T) {
	for band := range 21 {
		l := slices.Clone(none)
		l[band] = 20
		want := slices.Clone(none)
		want[band] = 12
		if got := steps(t, l, 8, 0); !slices.Equal(got, want) {
			t.Errorf("20 alone in band %d: %v", band, got)
		}
	}
}

// P11.1: steps, and how far they reach. All of these were reckoned apart from this program.
func TestStepsAndReach(t *testing.T) {
	for _, c := range []struct {
		l             []int
		quality, loss int
		steps         []int
		reach         int64
	}{
		{some, 1, 0, []int{25, 24, 20, 13, 12, 12, 11, 9, 9, 8, 7, 6, 5, 6, 4, 2, 1, 1, 0, 0, 0}, 209883040},
		{some, 6, 0, []int{20, 19, 17, 13, 12, 11, 9, 7, 5, 3, 2, 1, 0, 1, 0, 0, 0, 0, 0, 0, 0}, 6925792},
		{some, 10, 0, []int{16, 15, 13, 11, 9, 7, 5, 3, 1, 0, 0, 0, 0, 0, 0, 0, 0, 0, 0, 0, 0}, 437544},
		{some, 10, 3, []int{19, 18, 16, 13, 12, 10, 8, 6, 4, 2, 1, 0, 0, 0, 0, 0, 0, 0, 0, 0, 0}, 3512344},
		{some, 4, 7, some, 813873856},
		{some, 1, 31, some, 813873856},
		{peaks, 1, 0, []int{3, 4, 0, 25, 11, 0, 0, 9, 12, 1, 2, 5, 21, 20, 6, 14, 13, 0, 8, 16, 2}, 192012408},
		{peaks, 6, 0, []int{3, 4, 0, 20, 11, 0, 0, 9, 10, 1, 2, 5, 16, 15, 6, 11, 9, 0, 8, 11, 2}, 6078584},
		{peaks, 10, 0, []int{3, 4, 0, 16, 11, 0, 0, 8, 6, 1, 2, 5, 12, 11, 6, 7, 5, 0, 4, 7, 2}, 398968},
		{peaks, 10, 3, []int{3, 4, 0, 19, 11, 0, 0, 9, 9, 1, 2, 5, 15, 14, 6, 10, 8, 0, 7, 10, 2}, 3043448},
		{peaks, 8, 15, peaks, 764534904},
		{most, 1, 0, slices.Repeat([]int{25}, 21), 17179869184},
		{most, 6, 0, slices.Repeat([]int{20}, 21), 536870912},
		{most, 10, 0, slices.Repeat([]int{16}, 21), 33554432},
		{most, 10, 9, slices.Repeat([]int{25}, 21), 17179869184},
		{most, 10, 10, most, 68719476736},
		{up, 1, 0, []int{0, 0, 1, 2, 3, 4, 5, 6, 7, 8, 9, 10, 11, 12, 13, 14, 15, 16, 17, 18, 19}, 121093636},
		{up, 6, 0, []int{0, 0, 0, 0, 0, 0, 0, 1, 2, 3, 4, 5, 6, 7, 8, 9, 10, 11, 12, 13, 14}, 3784200},
		{up, 10, 3, []int{0, 0, 0, 0, 0, 0, 0, 0, 1, 2, 3, 4, 5, 6, 7, 8, 9, 10, 11, 12, 13}, 1892116},
		{up, 4, 7, up, 484374520},
		{down, 6, 0, []int{20, 19, 18, 17, 16, 15, 14, 13, 12, 11, 10, 9, 8, 7, 6, 5, 4, 3, 2, 1, 0}, 8426336},
		{down, 10, 0, []int{16, 15, 14, 13, 12, 11, 10, 9, 8, 7, 6, 5, 4, 3, 2, 1, 0, 0, 0, 0, 0}, 526944},
		{down, 1, 31, down, 1078571008},
		{none, 1, 0, none, 1024},
		{none, 10, 31, none, 1024},
		{ones, 1, 0, none, 512},
		{ones, 1, 1, ones, 2048},
	} {
		got := steps(t, c.l, c.quality, c.loss)
		if !slices.Equal(got, c.steps) {
			t.Errorf("Steps(%v, %d, %d): %v, not %v", c.l, c.quality, c.loss, got, c.steps)
		}
		if far := reach(t, c.l, c.steps); far != c.reach {
			t.Errorf("Reach(%v, %v): %d, not %d", c.l, c.steps, far, c.reach)
		}
	}
}

// P11.1: one band's ceiling in another one, that has one of its own: 2 less for each band up, 3 for each one down.
func TestOneBandMasksAnother(t *testing.T) {
	for from := range 21 {
		for to := range 21 {
			for _, n := range []int{1, 3, 19, 26} {
				for _, own := range []int{0, 1, 4, 11, 18, 26} {
					l := slices.Clone(none)
					l[from] = n
					l[to] = own
					less := 2 * (to - from)
					if to < from {
						less = 3 * (from - to)
					}
					want := max(own, l[from]-less, 0)
					for quality := 1; quality <= 10; quality++ {
						if got := steps(t, l, quality, 2)[to]; got != min(own, max(0, want-quality+2)) {
							t.Fatalf("%d from %d in %d that has %d, quality %d: %d, threshold %d", n, from, to, own, quality, got, want)
						}
					}
				}
			}
		}
	}
}

// P11.1: the loudest band beside a lesser one decides, not the sum of all, and not the nearest one.
func TestTheGreatestDecides(t *testing.T) {
	l := slices.Clone(none)
	l[5], l[8], l[9], l[10], l[12] = 26, 19, 16, 15, 18
	// In band 9: 26 - 8, 19 - 2, 16, 15 - 3, 18 - 9. In band 10: 26 - 10, 19 - 4, 16 - 2, 15, 18 - 6.
	if got := steps(t, l, 5, 0); got[9] != 13 || got[10] != 11 || got[5] != 21 || got[8] != 15 || got[12] != 13 {
		t.Error(got)
	}
}

// P11.1: any ceilings, with each quality and each loss.
func TestAnyCeilings(t *testing.T) {
	r := rand.New(rand.NewSource(1))
	for i := range 100 {
		l := anyRight(r)
		for quality := 1; quality <= 10; quality++ {
			for loss := range 32 {
				got := steps(t, l, quality, loss)
				want := chapterSteps(l, quality, loss)
				if !slices.Equal(got, want) {
					t.Fatalf("%d: Steps(%v, %d, %d): %v, not %v", i, l, quality, loss, got, want)
				}
				if far := chapterReach(l, want); big.NewInt(reach(t, l, want)).Cmp(far) != 0 {
					t.Fatalf("%d: Reach(%v, %v): not %v", i, l, want, far)
				}
			}
		}
	}
}

// P11.1: what steps are between: a ceiling less twelve, or 0, and the ceiling; they are right numbers for Reach.
func TestStepsAreWithinBounds(t *testing.T) {
	r := rand.New(rand.NewSource(2))
	for range 2000 {
		l := anyRight(r)
		got := steps(t, l, 1+r.Intn(10), r.Intn(32))
		for band, n := range l {
			if got[band] < n-12 || got[band] < 0 || got[band] > n {
				t.Fatalf("%v: %v", l, got)
			}
		}
		if !energy.Right(got) {
			t.Fatalf("%v: %v", l, got)
		}
	}
}

// P11.1: what Steps refuses.
func TestStepsRefuses(t *testing.T) {
	for _, wrong := range wrongs() {
		refuses(t, wrong, 1, 0)
		refuses(t, wrong, 10, 31)
		refuses(t, wrong, 0, 32)
	}
	for _, l := range [][]int{some, none, most} {
		for _, quality := range []int{0, 11, 12, -1, -5, -10, 31, 32, 256 + 5, 1<<32 + 5, 1 << 62, math.MinInt, math.MaxInt} {
			refuses(t, l, quality, 0)
			refuses(t, l, quality, 31)
			refuses(t, l, quality, -1)
		}
		for _, loss := range []int{-1, 32, 33, -31, -32, 256, 1 << 32, 1<<32 + 1, -1 << 62, math.MinInt, math.MaxInt} {
			refuses(t, l, 1, loss)
			refuses(t, l, 10, loss)
			refuses(t, l, 11, loss)
		}
		for _, quality := range []int{1, 10} {
			for _, loss := range []int{0, 31} {
				steps(t, l, quality, loss)
			}
		}
	}
}

// P11.1: any two numbers.
func TestTold(t *testing.T) {
	all := append(slices.Clone(odd), 0, 1, 2, 11, 12, 13, 25, 26)
	for _, n := range all {
		for _, s := range all {
			if got := mask.Told(n, s); got != (s < n) {
				t.Errorf("Told(%d, %d): %t", n, s, got)
			}
		}
	}
}

// P11.1: each ceiling with each step in each band, beside others that are told and not.
func TestReachOfOneBand(t *testing.T) {
	for band := range 21 {
		lines := int64(chapterEdges[band+1] - chapterEdges[band])
		for n := range 27 {
			for s := range 27 {
				l, step := slices.Clone(none), slices.Clone(none)
				l[band], step[band] = n, s
				far := int64(math.Pow(2, float64(n+1)))
				if s < n {
					far = int64(math.Pow(2, float64(s)))
				}
				if got := reach(t, l, step); got != lines*far+(512-lines)*2 {
					t.Errorf("%d with %d in band %d: %d", n, s, band, got)
				}
			}
		}
	}
}

// P11.1: any ceilings with any steps, that Steps would not give, too.
func TestReachOfAnySteps(t *testing.T) {
	r := rand.New(rand.NewSource(3))
	for range 5000 {
		l, s := anyRight(r), anyRight(r)
		if far := chapterReach(l, s); big.NewInt(reach(t, l, s)).Cmp(far) != 0 {
			t.Fatalf("Reach(%v, %v): %d, not %v", l, s, reach(t, l, s), far)
		}
	}
}

// P11.1: all at the least, and all at the most, which is more than 32 bits have.
func TestReachAtTheEdges(t *testing.T) {
	for _, c := range []struct {
		l, steps []int
		want     int64
	}{
		{none, none, 1 << 10}, {ones, none, 1 << 9}, {ones, ones, 1 << 11}, {none, most, 1 << 10}, {most, none, 1 << 9},
		{most, slices.Repeat([]int{25}, 21), 1 << 34}, {most, most, 1 << 36},
	} {
		if got := reach(t, c.l, c.steps); got != c.want {
			t.Errorf("Reach(%v, %v): %d, not %d", c.l, c.steps, got, c.want)
		}
	}
}

// P11.1: what Reach refuses.
func TestReachRefuses(t *testing.T) {
	for _, wrong := range wrongs() {
		refusesReach(t, wrong, none)
		refusesReach(t, wrong, most)
		refusesReach(t, none, wrong)
		refusesReach(t, most, wrong)
		refusesReach(t, wrong, wrong)
	}
}

// P11.2: a better quality has no greater steps, a greater loss no lesser ones; with a loss of 31 none is told.
func TestBetterAndWorse(t *testing.T) {
	r := rand.New(rand.NewSource(4))
	frames := [][]int{some, peaks, none, ones, most, up, down}
	for range 200 {
		frames = append(frames, anyRight(r))
	}
	for _, l := range frames {
		for quality := 1; quality <= 10; quality++ {
			for loss := range 32 {
				got := steps(t, l, quality, loss)
				if quality < 10 {
					checkNotAbove(t, steps(t, l, quality+1, loss), got)
				}
				if loss < 31 {
					checkNotAbove(t, got, steps(t, l, quality, loss+1))
				}
			}
			for band, s := range steps(t, l, quality, 31) {
				if s != l[band] || mask.Told(l[band], s) {
					t.Fatalf("%v, quality %d: band %d is told, by %d", l, quality, band, s)
				}
			}
		}
	}
}

func checkNotAbove(t *testing.T, lesser, greater []int) {
	t.Helper()
	for band, s := range lesser {
		if s > greater[band] {
			t.Fatalf("%v and %v, in band %d", lesser, greater, band)
		}
	}
}

// P11.2: quality and loss are heard: where the best quality leaves a step above 0, worse ones, and losses, have greater ones.
func TestEachQualityCounts(t *testing.T) {
	for quality := 1; quality <= 10; quality++ {
		for loss := range 32 {
			if got := steps(t, most, quality, loss); got[7] != min(26, 26-quality+loss) {
				t.Errorf("quality %d, loss %d: %v", quality, loss, got)
			}
		}
	}
}

// P1: of any numbers each call ends, and none panics.
func TestNothingPanics(t *testing.T) {
	r := rand.New(rand.NewSource(5))
	for _, count := range []int{0, 1, 2, 20, 21, 22, 42, 512, 4096} {
		for range 50 {
			l, s := make([]int, count), make([]int, count)
			for i := range count {
				l[i], s[i] = int(r.Uint64()), int(r.Uint64())
			}
			refuses(t, l, r.Intn(14), r.Intn(35))
			refuses(t, l, int(r.Uint64()), int(r.Uint64()))
			refusesReach(t, l, s)
			refusesReach(t, some, s)
			refusesReach(t, l, some)
			mask.Told(int(r.Uint64()), int(r.Uint64()))
		}
	}
}

// roomy is a list, with 99 behind its length.
func roomy(l []int) []int {
	return append(slices.Clone(l), 99, 99, 99)[:len(l)]
}

// checkRoom tells of a roomy list whether it is as it was.
func checkRoom(t *testing.T, l, want []int) {
	t.Helper()
	if !slices.Equal(l, want) || !slices.Equal(l[:24][21:], []int{99, 99, 99}) {
		t.Error("a list is changed:", l[:24])
	}
}

// The document's third rule: what is handed in isn't changed or kept, what lies behind its length is neither read nor written, and nothing is shared.
func TestListsAreApart(t *testing.T) {
	l := roomy(peaks)
	got := steps(t, l, 6, 1)
	want := chapterSteps(peaks, 6, 1)
	checkRoom(t, l, peaks)
	clear(l)
	if !slices.Equal(got, want) {
		t.Error("Steps shares", got)
	}
	clear(got[:cap(got)])
	l = roomy(peaks)
	// A loss by which the steps are the ceilings themselves.
	got = steps(t, l, 1, 31)
	clear(got[:cap(got)])
	checkRoom(t, l, peaks)
	if !slices.Equal(steps(t, peaks, 6, 1), want) {
		t.Error("Steps keeps its answer")
	}

	s := roomy(want)
	far := reach(t, l, s)
	checkRoom(t, l, peaks)
	checkRoom(t, s, want)
	if reach(t, peaks, want) != far {
		t.Error("Reach reads what is behind")
	}
	refuses(t, l[:22], 6, 1)
	refusesReach(t, l[:22], s)
	refusesReach(t, l, s[:22])
	checkRoom(t, l, peaks)
	checkRoom(t, s, want)
}

// answers are those of all calls, of some frames.
func answers() []int {
	r := rand.New(rand.NewSource(6))
	var all []int
	for range 100 {
		l := anyRight(r)
		s, err := mask.Steps(l, r.Intn(12), r.Intn(34))
		all = append(append(all, int(err)), s...)
		far, err := mask.Reach(l, s)
		all = append(all, int(far), int(err))
		far, err = mask.Reach(l, anyRight(r))
		all = append(all, int(far), int(err))
	}
	return all
}

// P2: an answer hangs on nothing but what was given: neither on others ahead of it nor on those beside it.
func TestAnswersStayTheSame(t *testing.T) {
	want := answers()
	if !slices.Equal(answers(), want) {
		t.Error("another answer behind the first one")
	}
	var got [8][]int
	var all sync.WaitGroup
	for i := range got {
		all.Go(func() { got[i] = answers() })
	}
	all.Wait()
	for i := range got {
		if !slices.Equal(got[i], want) {
			t.Error("another answer", i)
		}
	}
}

package bands_test

import (
	"math"
	"math/big"
	"math/rand"
	"slices"
	"sync"
	"testing"

	"sideband/bands"
)

// edges are those that the chapter names.
var edges = []int{0, 4, 8, 12, 16, 20, 24, 28, 32, 40, 48, 56, 64, 80, 96, 112, 128, 160, 192, 256, 352, 512}

// nearest is n divided by d to the nearest: of the floor and the one above it the nearer one, of two the greater.
func nearest(n, d *big.Int) *big.Int {
	floor, rest := new(big.Int).DivMod(n, d, new(big.Int))
	if rest.Lsh(rest, 1).Cmp(d) >= 0 {
		floor.Add(floor, big.NewInt(1))
	}
	return floor
}

// chapterCosines are c 0 to c 1024, as the chapter's words make them, of numbers that have no end.
func chapterCosines() []int32 {
	half := big.NewInt(1 << 23)
	c := make([]*big.Int, 1025)
	c[0], c[1024] = big.NewInt(1<<24), big.NewInt(0)
	for _, h := range []int{1024, 512, 256, 128, 64, 32, 16, 8, 4, 2} {
		root := new(big.Int).Add(big.NewInt(1<<24), c[h])
		root.Mul(root, half)
		c[h/2] = root.Sqrt(root)
		for a := h; a <= 1024-h; a += h {
			both := new(big.Int).Add(c[a], c[a+h])
			c[a+h/2] = nearest(both.Mul(both, half), c[h/2])
		}
	}
	var l []int32
	for _, n := range c {
		l = append(l, int32(n.Int64()))
	}
	return l
}

// chapterCos is the cosine of i units, as the chapter's words say it.
func chapterCos(c []int32, i int) int32 {
	i = int(new(big.Int).Mod(big.NewInt(int64(i)), big.NewInt(4096)).Int64())
	switch {
	case i <= 1024:
		return c[i]
	case i <= 2048:
		return -c[2048-i]
	}
	return chapterCos(c, 4096-i)
}

// units are all of three circles and more, those beside which a number of any size turns over, and some of all sizes, the same each time.
func units() []int {
	l := []int{math.MinInt, math.MinInt + 1, math.MaxInt, math.MaxInt - 1}
	for i := -6200; i <= 6200; i++ {
		l = append(l, i)
	}
	for bit := range 63 {
		for _, n := range []int{1<<bit - 1, 1 << bit, 1<<bit + 1, 3 << bit} {
			l = append(l, n, -n)
		}
	}
	r := rand.New(rand.NewSource(1))
	for range 1000 {
		l = append(l, int(r.Uint64())>>r.Intn(64))
	}
	return l
}

// P4.1: Cos. These numbers are the chapter's, or reckoned apart from it.
func TestCos(t *testing.T) {
	c := bands.New()
	for _, x := range []struct {
		units int
		want  int32
	}{
		{0, bands.One}, {1, 16777195}, {2, 16777136}, {3, 16777038}, {4, 16776899}, {7, 16776249}, {128, 16454846}, {256, 15500126},
		{341, 14533787}, {500, 12079640}, {511, 11881469}, {512, 11863283}, {513, 11845072}, {683, 8381180}, {768, 6420363},
		{1000, 617523}, {1022, 51472}, {1023, 25736}, {1024, 0}, {1025, -25736}, {1026, -51472}, {1536, -11863283},
		{2047, -16777195}, {2048, -bands.One}, {2049, -16777195}, {2560, -11863283}, {3071, -25736}, {3072, 0}, {3073, 25736},
		{3584, 11863283}, {4095, 16777195}, {4096, bands.One}, {4097, 16777195}, {8192, bands.One}, {8191 - 1024, -25736},
		{-1, 16777195}, {-512, 11863283}, {-1024, 0}, {-1025, -25736}, {-2048, -bands.One}, {-4095, 16777195}, {-4096, bands.One}, {-4097, 16777195},
	} {
		if got := c.Cos(x.units); got != x.want {
			t.Errorf("Cos(%d) = %d, not %d", x.units, got, x.want)
		}
	}
}

func TestCosOfAllUnits(t *testing.T) {
	c, want := bands.New(), chapterCosines()
	for _, i := range units() {
		if got := c.Cos(i); got != chapterCos(want, i) {
			t.Fatalf("Cos(%d) = %d, not %d", i, got, chapterCos(want, i))
		}
	}
}

// All of a quarter, told by two sums that were reckoned apart from this program.
func TestCosinesOfAQuarter(t *testing.T) {
	c := bands.New()
	var sum, weighed int64
	for i := range bands.Quarter + 1 {
		sum += int64(c.Cos(i))
		weighed += int64(i) * int64(c.Cos(i))
	}
	if sum != 10945433050 || weighed != 4069686426992 {
		t.Error("other cosines:", sum, weighed)
	}
}

// They are what their name says, but for a few.
func TestCosinesAreCosines(t *testing.T) {
	c := bands.New()
	for i := range 4096 {
		want := bands.One * math.Cos(float64(i)*math.Pi/2048)
		if got := c.Cos(i); math.Abs(float64(got)-want) > 6 {
			t.Fatalf("Cos(%d) = %d, far from %f", i, got, want)
		}
	}
}

// P4.1: Rise. These numbers are reckoned apart from the program.
func TestRise(t *testing.T) {
	c := bands.New()
	for _, x := range []struct {
		at   int
		want int32
	}{
		{0, 102943}, {1, 308814}, {2, 514638}, {63, 11790269}, {64, 11935853}, {126, 16774374}, {127, 16776899},
		{128, bands.One}, {129, bands.One}, {255, bands.One}, {256, bands.One}, {512, bands.One}, {1 << 32, bands.One}, {1 << 61, bands.One},
		{math.MaxInt - 1, bands.One}, {math.MaxInt, bands.One},
		{-1, 0}, {-2, 0}, {-127, 0}, {-128, 0}, {-129, 0}, {-1 << 32, 0}, {-1<<32 + 5, 0}, {-1 << 61, 0}, {math.MinInt + 1, 0}, {math.MinInt, 0},
	} {
		if got := c.Rise(x.at); got != x.want {
			t.Errorf("Rise(%d) = %d, not %d", x.at, got, x.want)
		}
	}
}

func TestRiseOfAllPlaces(t *testing.T) {
	c, want := bands.New(), chapterCosines()
	for at := range bands.Slope {
		if got := c.Rise(at); got != chapterCos(want, 1024-4*(2*at+1)) {
			t.Errorf("Rise(%d) = %d, not %d", at, got, chapterCos(want, 1024-4*(2*at+1)))
		}
	}
}

// P4.1: a nil Circle answers 0, wherever.
func TestNilCircle(t *testing.T) {
	var c *bands.Circle
	for _, i := range units() {
		if c.Cos(i) != 0 || c.Rise(i) != 0 {
			t.Fatalf("at %d: %d and %d, not 0", i, c.Cos(i), c.Rise(i))
		}
	}
}

// P4.1: each New is a table of its own, and what was copied of one is as good.
func TestTablesAreApart(t *testing.T) {
	a, b := bands.New(), bands.New()
	if a == nil || a == b {
		t.Fatal("no table of its own")
	}
	copied := *a
	*a = bands.Circle{}
	for i := range 4096 {
		if b.Cos(i) != bands.New().Cos(i) || copied.Cos(i) != b.Cos(i) {
			t.Fatalf("Cos(%d): %d, of the copy %d, not %d", i, b.Cos(i), copied.Cos(i), bands.New().Cos(i))
		}
	}
}

// P4.2: Edges.
func TestEdges(t *testing.T) {
	if got := bands.Edges(); !slices.Equal(got, edges) {
		t.Errorf("%v, not %v", got, edges)
	}
	if len(bands.Edges()) != bands.Bands+1 || edges[bands.Bands] != bands.Lines {
		t.Error("another number of bands, or of lines")
	}
}

// The document's third rule: what is answered is not shared, nor what lies behind its length.
func TestEdgesAreNotShared(t *testing.T) {
	l := bands.Edges()
	beside := bands.Edges()
	_ = append(l, 7)
	clear(l[:cap(l)])
	if !slices.Equal(beside, edges) || !slices.Equal(bands.Edges(), edges) {
		t.Error("edges are shared")
	}
	for line := range bands.Lines {
		if bands.Of(line) != chapterBand(line) {
			t.Fatalf("Of(%d) is changed with an answer: %d", line, bands.Of(line))
		}
	}
}

// chapterBand is the last band that begins at a line of a frame, or ahead of it.
func chapterBand(line int) int {
	band := -1
	for i, edge := range edges[:21] {
		if edge <= line {
			band = i
		}
	}
	return band
}

// P4.2: Of.
func TestOf(t *testing.T) {
	for line := range 512 {
		if got := bands.Of(line); got != chapterBand(line) {
			t.Errorf("Of(%d) = %d, not %d", line, got, chapterBand(line))
		}
	}
	for _, c := range []struct{ line, want int }{{0, 0}, {3, 0}, {4, 1}, {31, 7}, {32, 8}, {39, 8}, {40, 9}, {255, 18}, {256, 19}, {351, 19}, {352, 20}, {511, 20}} {
		if got := bands.Of(c.line); got != c.want {
			t.Errorf("Of(%d) = %d, not %d", c.line, got, c.want)
		}
	}
}

func TestOfNoLine(t *testing.T) {
	for _, line := range units() {
		if line >= 0 && line < 512 {
			continue
		}
		if got := bands.Of(line); got != -1 {
			t.Errorf("Of(%d) = %d, not -1", line, got)
		}
	}
}

// P4.2: each band has the lines from its edge on, below the next one, and all lines have one.
func TestBandsHaveAllLines(t *testing.T) {
	var count [bands.Bands]int
	for line := range bands.Lines {
		count[bands.Of(line)]++
	}
	for band, lines := range count {
		if want := edges[band+1] - edges[band]; lines != want {
			t.Errorf("band %d has %d lines, not %d", band, lines, want)
		}
	}
}

// P4.3: cosines are the same forwards and backwards.
func TestCosinesBackwards(t *testing.T) {
	c := bands.New()
	for _, i := range units() {
		if i != math.MinInt && c.Cos(i) != c.Cos(-i) {
			t.Fatalf("Cos(%d) = %d, Cos(%d) = %d", i, c.Cos(i), -i, c.Cos(-i))
		}
	}
	for i := range 4097 {
		if c.Cos(i) != c.Cos(4096-i) || c.Cos(i) != -c.Cos(2048-i) {
			t.Fatalf("Cos(%d) = %d, beside %d and %d", i, c.Cos(i), c.Cos(4096-i), c.Cos(2048-i))
		}
	}
}

// P4.3: those of a quarter fall; so a slope rises.
func TestCosinesFall(t *testing.T) {
	c := bands.New()
	for i := range bands.Quarter {
		if c.Cos(i) <= c.Cos(i+1) {
			t.Errorf("Cos(%d) = %d, Cos(%d) = %d", i, c.Cos(i), i+1, c.Cos(i+1))
		}
	}
	for at := -1; at < bands.Slope; at++ {
		if c.Rise(at) >= c.Rise(at+1) {
			t.Errorf("Rise(%d) = %d, Rise(%d) = %d", at, c.Rise(at), at+1, c.Rise(at+1))
		}
	}
}

// P4.3: a slope's squares, and those from its other end, come together to One squared, but for a little.
func TestSlopesSquares(t *testing.T) {
	const little = 10 * bands.One // ten parts in 2^24
	c := bands.New()
	for at := range bands.Slope {
		here, there := int64(c.Rise(at)), int64(c.Rise(bands.Slope-1-at))
		if off := here*here + there*there - bands.One*bands.One; off < -little || off > little {
			t.Errorf("the squares at %d are %d off", at, off)
		}
	}
}

// P1: at any places at all each call ends, and none panics, also of a Circle that New didn't make.
func TestNothingPanics(t *testing.T) {
	for _, c := range []*bands.Circle{nil, {}, bands.New()} {
		for _, i := range units() {
			c.Cos(i)
			c.Rise(i)
			bands.Of(i)
		}
	}
}

// answers are those of all calls, some of a Circle that is handed in.
func answers(c *bands.Circle) []int {
	l := bands.Edges()
	own := bands.New()
	for _, i := range units() {
		l = append(l, int(c.Cos(i)), int(c.Rise(i)), int(own.Cos(i)), int(own.Rise(i)), bands.Of(i))
	}
	return l
}

// P2: an answer hangs on nothing but what the call was given: neither on calls ahead of it nor on those beside it.
func TestAnswersStayTheSame(t *testing.T) {
	c := bands.New()
	before := *c
	want := answers(c)
	var got [8][]int
	var all sync.WaitGroup
	for i := range got {
		all.Go(func() { got[i] = answers(c) })
	}
	all.Wait()
	for i := range got {
		if !slices.Equal(got[i], want) {
			t.Error("another answer", i)
		}
	}
	if *c != before {
		t.Error("the Circle is changed")
	}
}

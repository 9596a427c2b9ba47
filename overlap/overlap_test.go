package overlap_test

import (
	"math"
	"math/big"
	"math/rand"
	"slices"
	"sync"
	"testing"

	"sideband/api"
	"sideband/bands"
	"sideband/lapped"
	"sideband/overlap"
)

// The least and the greatest samples, and lines.
const (
	leastSample, greatestSample = -1 << 15, 1<<15 - 1
	leastLine, greatestLine     = -1 << 25, 1<<25 - 1
)

// kinds of frames: long and brief ones.
var kinds = []bool{false, true}

func lines(t *testing.T, a *overlap.Analyser, pcm []int16, brief bool) []int32 {
	t.Helper()
	l, err := a.Lines(pcm, brief)
	if err != api.OK || len(l) != 512 {
		t.Fatalf("Lines: %d lines, %d", len(l), err)
	}
	return l
}

func samples(t *testing.T, s *overlap.Synth, l []int32, brief bool) []int16 {
	t.Helper()
	pcm, err := s.Samples(l, brief)
	if err != api.OK || len(pcm) != 512 {
		t.Fatalf("Samples: %d samples, %d", len(pcm), err)
	}
	return pcm
}

// nearest is a number divided by a power of two: the floor of it and a half is the nearest one, of two the greater.
func nearest(n *big.Int, by uint) int64 {
	half := new(big.Int).Lsh(big.NewInt(1), by-1)
	return half.Rsh(half.Add(half, n), by).Int64()
}

// chapterShape is the chapter's shaping, of numbers without end.
func chapterShape(l []int32) []int32 {
	c, n := bands.New(), len(l)
	shaped := make([]int32, n)
	for i, number := range l {
		slope := c.Rise(i)
		if other := c.Rise(n - 1 - i); other < slope {
			slope = other
		}
		product := big.NewInt(int64(number))
		shaped[i] = int32(nearest(product.Mul(product, big.NewInt(int64(slope))), 24))
	}
	return shaped
}

// transform is layer 8's, of so many lines.
func transform(n int) *lapped.Transform {
	x, _ := lapped.New(n, bands.New())
	return x
}

// chapterAnalyser keeps all samples, from 128 of 0 on.
type chapterAnalyser struct {
	past []int16
}

func newChapterAnalyser() *chapterAnalyser { return &chapterAnalyser{past: make([]int16, 128)} }

func (a *chapterAnalyser) lines(pcm []int16, brief bool) []int32 {
	a.past = append(a.past, pcm...)
	all := make([]int32, 640)
	for i, n := range a.past[len(a.past)-640:] {
		all[i] = 16 * int32(n)
	}
	if !brief {
		l, _ := transform(512).Forward(slices.Concat(make([]int32, 192), chapterShape(all), make([]int32, 192)))
		return l
	}
	l := make([]int32, 512)
	for m := 0; m <= 3; m++ {
		block, _ := transform(128).Forward(chapterShape(all[128*m : 128*m+256]))
		for k := range block {
			l[4*k+m] = block[k]
		}
	}
	return l
}

// chapterSynth keeps what is left.
type chapterSynth struct {
	left [128]int64
}

// chapterSound is the chapter's sound, of numbers of sixty-four bits.
func chapterSound(l []int32, brief bool) []int64 {
	sound := make([]int64, 640)
	if !brief {
		x, _ := transform(512).Back(l)
		for i, n := range chapterShape(x[192:832]) {
			sound[i] = int64(n)
		}
		return sound
	}
	for m := 0; m <= 3; m++ {
		block := make([]int32, 128)
		for k := range block {
			block[k] = l[4*k+m]
		}
		x, _ := transform(128).Back(block)
		for i, n := range chapterShape(x) {
			sound[128*m+i] += int64(n)
		}
	}
	return sound
}

func (s *chapterSynth) samples(l []int32, brief bool) []int16 {
	sound := chapterSound(l, brief)
	for i, n := range s.left {
		sound[i] += n
	}
	pcm := make([]int16, 512)
	for i := range pcm {
		pcm[i] = int16(max(leastSample, min(nearest(big.NewInt(sound[i]), 4), greatestSample)))
	}
	copy(s.left[:], sound[512:])
	return pcm
}

// told are numbers of up to so many bits, by a rule that is the same elsewhere.
func told[T int16 | int32](count, wide int) []T {
	l := make([]T, count)
	for i := range l {
		l[i] = T((i*i*7919+i*104729+12345)%(1<<wide) - 1<<(wide-1))
	}
	return l
}

// seen is what numbers are known by: the first four, the last, their sum, and that of each times its place.
type seen [7]int64

func seenOf[T int16 | int32](l []T, at [5]int) seen {
	var s seen
	for i, place := range at {
		s[i] = int64(l[place])
	}
	for i, n := range l {
		s[5] += int64(n)
		s[6] += int64(i) * int64(n)
	}
	return s
}

func seenLines(l []int32) seen   { return seenOf(l, [5]int{0, 1, 2, 3, 511}) }
func seenSamples(l []int16) seen { return seenOf(l, [5]int{0, 1, 127, 128, 511}) }

// P9.1: one sample, and a silent frame behind its frame. These numbers, and all others of seen, were reckoned apart from this program.
func TestLinesOfOneSample(t *testing.T) {
	for _, c := range []struct {
		brief  bool
		at     int
		it     seen
		behind seen
	}{
		{false, 0, seen{-1966, 5594, -8357, 9828, 9805, 5102, 2609995}, seen{}},
		{false, 127, seen{-5543, 9817, -2026, -8255, -8323, -6012, -3072121}, seen{}},
		{false, 128, seen{-5568, 9799, -1876, -8374, 8306, 6014, 3079148}, seen{}},
		{false, 383, seen{-9805, -8289, -5492, -1845, -1966, -25440, -12946177}, seen{}},
		{false, 384, seen{-9811, -8340, -5619, -2056, 1936, 25832, 13278093}, seen{12, -34, 51, -60, 60, 37, 17305}},
		{false, 511, seen{-60, -51, -34, -13, 12, 159, 83938}, seen{-1936, 5517, -8272, 9786, -9811, -5098, -2604885}},
		{true, 0, seen{-14228, 86, 0, 0, 0, 14314, 7329153}, seen{}},
		{true, 127, seen{-87, -14055, 0, 0, 0, -13976, -7111567}, seen{}},
		{true, 128, seen{0, -14228, 86, 0, 0, 14314, 7343467}, seen{}},
		{true, 383, seen{0, 0, -87, -14055, -14228, -13976, -7139519}, seen{}},
		{true, 384, seen{0, 0, 0, -14228, 14055, 14229, 7328839}, seen{86, 0, 0, 0, 0, 85, 42916}},
		{true, 511, seen{0, 0, 0, -87, 86, 83, 43761}, seen{-14055, 0, 0, 0, 0, -14059, -7141020}},
	} {
		a := overlap.NewAnalyser()
		pcm := make([]int16, 512)
		pcm[c.at] = 10000
		if got := seenLines(lines(t, a, pcm, c.brief)); got != c.it {
			t.Errorf("brief %t, a sample at %d: %v, not %v", c.brief, c.at, got, c.it)
		}
		if got := seenLines(lines(t, a, make([]int16, 512), c.brief)); got != c.behind {
			t.Errorf("brief %t, a sample at %d: %v behind, not %v", c.brief, c.at, got, c.behind)
		}
		if got := seenLines(lines(t, a, make([]int16, 512), c.brief)); got != (seen{}) {
			t.Errorf("brief %t, a sample at %d: %v two frames behind", c.brief, c.at, got)
		}
	}
}

// P9.1: two frames of any sound.
func TestLinesOfTwoFrames(t *testing.T) {
	pcm := told[int16](1024, 16)
	for _, c := range []struct {
		brief [2]bool
		want  [2]seen
	}{
		{[2]bool{false, false}, [2]seen{{-130412, -524259, 324760, 218843, -168501, 9156632, 1381003059}, {-515532, -460810, -287891, 215970, 500178, -447803, 161418365}}},
		{[2]bool{false, true}, [2]seen{{-130412, -524259, 324760, 218843, -168501, 9156632, 1381003059}, {-123977, 215173, -410266, -597541, -458882, 118155, 417036470}}},
		{[2]bool{true, false}, [2]seen{{431444, 278339, -359781, -139573, 523605, 6212351, 1737300011}, {-515532, -460810, -287891, 215970, 500178, -447803, 161418365}}},
		{[2]bool{true, true}, [2]seen{{431444, 278339, -359781, -139573, 523605, 6212351, 1737300011}, {-123977, 215173, -410266, -597541, -458882, 118155, 417036470}}},
	} {
		a := overlap.NewAnalyser()
		for i, brief := range c.brief {
			if got := seenLines(lines(t, a, pcm[512*i:512*i+512], brief)); got != c.want[i] {
				t.Errorf("brief %v, frame %d: %v, not %v", c.brief, i, got, c.want[i])
			}
		}
	}
}

// P9.2: one line, and silence behind it.
func TestSamplesOfOneLine(t *testing.T) {
	for _, c := range []struct {
		brief  bool
		at     int
		it     seen
		behind seen
	}{
		{false, 0, seen{5, 14, -793, -805, -4016, -1066786, -378036415}, seen{-4018, -4020, -25, 0, 0, -331820, -15300674}},
		{false, 1, seen{-14, -41, 2260, 2291, -3395, 669178, 113576472}, seen{-3416, -3436, -21, 0, 0, -316444, -14845717}},
		{false, 2, seen{21, 62, -3388, -3423, -2249, -7618, 88479745}, seen{-2302, -2353, -14, 0, 0, -287045, -13965179}},
		{false, 3, seen{-25, -73, 4008, 4026, -756, 327764, 103976329}, seen{-842, -928, -5, 0, 0, -246179, -12715595}},
		{false, 4, seen{25, 75, -4028, -4006, 855, 57817, 68630650}, seen{744, 632, 5, 0, 0, -197335, -11175217}},
		{false, 255, seen{21, 42, -3402, 2270, -3409, -558, -287185}, seen{-2281, 3395, -14, 0, 0, 587, 3740}},
		{false, 511, seen{25, -74, -4018, 4016, -805, -391, -200893}, seen{793, -780, 5, 0, 0, 408, 474}},
		{true, 0, seen{35, 105, -5757, -5828, 0, -741453, -124745694}, seen{}},
		{true, 1, seen{0, 0, 0, 35, 0, -741453, -219651678}, seen{}},
		{true, 2, seen{0, 0, 0, 0, -36, -741453, -314557662}, seen{}},
		{true, 3, seen{0, 0, 0, 0, -5757, -134710, -69898563}, seen{-5828, -5897, -36, 0, 0, -606743, -28912667}},
		{true, 4, seen{-36, -112, 5898, 5685, 0, 11, -15102399}, seen{}},
		{true, 255, seen{0, 0, 0, 0, -8192, -4146, -2119524}, seen{-50, 8189, 0, 0, 0, 4152, 3617}},
		{true, 511, seen{0, 0, 0, 0, -5828, -2893, -1480102}, seen{5757, -5684, 35, 0, 0, 2901, -1315}},
	} {
		l := make([]int32, 512)
		l[c.at] = 1 << 20
		s := overlap.NewSynth()
		if got := seenSamples(samples(t, s, l, c.brief)); got != c.it {
			t.Errorf("brief %t, a line at %d: %v, not %v", c.brief, c.at, got, c.it)
		}
		// What is left comes with long and with brief frames.
		other := s.Clone()
		if got := seenSamples(samples(t, s, make([]int32, 512), false)); got != c.behind {
			t.Errorf("brief %t, a line at %d: %v behind, not %v", c.brief, c.at, got, c.behind)
		}
		if got := seenSamples(samples(t, other, make([]int32, 512), true)); got != c.behind {
			t.Errorf("brief %t, a line at %d: %v in a brief frame behind, not %v", c.brief, c.at, got, c.behind)
		}
		if got := seenSamples(samples(t, s, make([]int32, 512), c.brief)); got != (seen{}) {
			t.Errorf("brief %t, a line at %d: %v two frames behind", c.brief, c.at, got)
		}
	}
}

// P9.2: two frames of any lines, and silence behind them; some samples are held.
func TestSamplesOfTwoFrames(t *testing.T) {
	l := told[int32](1024, 20)
	for _, c := range []struct {
		brief [2]bool
		want  [3]seen
	}{
		{[2]bool{false, false}, [3]seen{{-30, 468, 4863, 6382, -15154, 213559, 103223438}, {6584, -7290, -15892, -9761, -32768, -3909, -142322027}, {-16675, 13131, -102, 0, 0, -37281, -354712}}},
		{[2]bool{false, true}, [3]seen{{-30, 468, 4863, 6382, -15154, 213559, 103223438}, {6503, -7514, -2792, -30011, -9755, -248510, -154992389}, {25090, 16018, 154, 0, 0, 204629, 5238260}}},
		{[2]bool{true, false}, [3]seen{{-17, -455, 2792, -18389, -16900, 765905, 214992300}, {-15619, -18586, -16029, -9761, -32768, -247354, -147254135}, {-16675, 13131, -102, 0, 0, -37281, -354712}}},
		{[2]bool{true, true}, [3]seen{{-17, -455, 2792, -18389, -16900, 765905, 214992300}, {-15699, -18810, -2928, -30011, -9755, -464391, -157956399}, {25090, 16018, 154, 0, 0, 204629, 5238260}}},
	} {
		s := overlap.NewSynth()
		for i, brief := range c.brief {
			if got := seenSamples(samples(t, s, l[512*i:512*i+512], brief)); got != c.want[i] {
				t.Errorf("brief %v, frame %d: %v, not %v", c.brief, i, got, c.want[i])
			}
		}
		if got := seenSamples(samples(t, s, make([]int32, 512), false)); got != c.want[2] {
			t.Errorf("brief %v, behind: %v, not %v", c.brief, got, c.want[2])
		}
	}
}

// streams are sounds of so many samples: at the edges, single samples, loud and quiet ones.
func streams(r *rand.Rand, count int) [][]int16 {
	of := func(at func(i int) int) []int16 {
		l := make([]int16, count)
		for i := range l {
			l[i] = int16(at(i))
		}
		return l
	}
	edge := func(n int) int { return []int{leastSample, greatestSample}[n%2] }
	return [][]int16{
		of(func(int) int { return 0 }),
		of(func(int) int { return leastSample }),
		of(func(int) int { return greatestSample }),
		of(func(i int) int { return edge(i) }),
		of(func(i int) int { return edge(i / 128) }),
		of(func(i int) int { return edge(i / 512) }),
		of(func(int) int { return edge(r.Intn(2)) }),
		of(func(int) int { return leastSample + r.Intn(1<<16) }),
		of(func(int) int { return r.Intn(2001) - 1000 }),
		of(func(int) int { return r.Intn(5) - 2 }),
		of(func(int) int { return edge(r.Intn(2)) * (r.Intn(200) / 199) }),
		of(func(i int) int { return int(32767 * math.Sin(float64(i*i)/30000)) }),
	}
}

// spectra are so many lines of frames: at the edges, single ones, wide and narrow ones.
func spectra(r *rand.Rand, count int) [][]int32 {
	of := func(at func(i int) int) []int32 {
		l := make([]int32, count)
		for i := range l {
			l[i] = int32(at(i))
		}
		return l
	}
	edge := func(n int) int { return []int{leastLine, greatestLine}[n%2] }
	return [][]int32{
		of(func(int) int { return 0 }),
		of(func(int) int { return 1 }),
		of(func(int) int { return leastLine }),
		of(func(int) int { return greatestLine }),
		of(func(i int) int { return edge(i) }),
		of(func(i int) int { return edge(i / 4) }),
		of(func(int) int { return edge(r.Intn(2)) }),
		of(func(int) int { return leastLine + r.Intn(1<<26) }),
		of(func(int) int { return r.Intn(1<<20) - 1<<19 }),
		of(func(int) int { return r.Intn(1<<15) - 1<<14 }),
		of(func(int) int { return r.Intn(41) - 20 }),
		of(func(int) int { return edge(r.Intn(2)) * (r.Intn(100) / 99) }),
	}
}

// mixes are all of so many long and brief frames.
func mixes(frames int) [][]bool {
	l := make([][]bool, 1<<frames)
	for n := range l {
		for i := range frames {
			l[n] = append(l[n], n>>i&1 == 1)
		}
	}
	return l
}

// P9.1: lines of sounds of all kinds, frame by frame.
func TestLines(t *testing.T) {
	r := rand.New(rand.NewSource(1))
	for kind, pcm := range streams(r, 512*3) {
		for _, mix := range mixes(3) {
			a, chapter := overlap.NewAnalyser(), newChapterAnalyser()
			for i, brief := range mix {
				frame := pcm[512*i : 512*i+512]
				if got, want := lines(t, a, frame, brief), chapter.lines(frame, brief); !slices.Equal(got, want) {
					t.Fatalf("kind %d, brief %v, frame %d: %v, not %v", kind, mix, i, got, want)
				}
			}
		}
	}
}

// P9.2: samples of lines of all kinds, frame by frame.
func TestSamples(t *testing.T) {
	r := rand.New(rand.NewSource(2))
	for kind, l := range spectra(r, 512*3) {
		for _, mix := range mixes(3) {
			s, chapter := overlap.NewSynth(), &chapterSynth{}
			for i, brief := range mix {
				frame := l[512*i : 512*i+512]
				if got, want := samples(t, s, frame, brief), chapter.samples(frame, brief); !slices.Equal(got, want) {
					t.Fatalf("kind %d, brief %v, frame %d: %v, not %v", kind, mix, i, got, want)
				}
			}
		}
	}
}

// P9.1: at two places of a slope (13 and 31) there are products with a half; it goes upwards, whichever sign.
func TestHalvesOfLinesGoUpwards(t *testing.T) {
	c := bands.New()
	for _, h := range []struct {
		place  int
		sample int16
	}{{13, 8192}, {13, -8192}, {13, 3 * 8192}, {13, -3 * 8192}, {31, -32768}} {
		if product := 16 * int64(h.sample) * int64(c.Rise(h.place)); product&(1<<24-1) != 1<<23 {
			t.Fatalf("%d at %d has no half", h.sample, h.place)
		}
		// Rising in the second frame, and falling in it.
		for _, at := range []int{512 - 128 + h.place, 1024 - 1 - h.place} {
			pcm := make([]int16, 1024)
			pcm[at] = h.sample
			for _, brief := range kinds {
				a, chapter := overlap.NewAnalyser(), newChapterAnalyser()
				for i := range 2 {
					frame := pcm[512*i : 512*i+512]
					if got, want := lines(t, a, frame, brief), chapter.lines(frame, brief); !slices.Equal(got, want) {
						t.Errorf("brief %t, %d at %d: %v, not %v", brief, h.sample, at, got, want)
					}
				}
			}
		}
	}
}

// P9.2: numbers of 16 n + 8 become n + 1, those of 16 n + 7 n, whichever sign.
func TestHalvesOfSamplesGoUpwards(t *testing.T) {
	up, down := 0, 0
	for _, brief := range kinds {
		for _, n := range []int32{-7000, -700, 700, 7000} {
			l := make([]int32, 512)
			l[100] = n
			sound := chapterSound(l, brief)
			got := samples(t, overlap.NewSynth(), l, brief)
			for i, pcm := range got {
				switch floor := sound[i] >> 4; {
				case sound[i]&15 == 8:
					up++
					if int64(pcm) != floor+1 {
						t.Errorf("brief %t: %d becomes %d", brief, sound[i], pcm)
					}
				case sound[i]&15 == 7:
					down++
					if int64(pcm) != floor {
						t.Errorf("brief %t: %d becomes %d", brief, sound[i], pcm)
					}
				}
			}
		}
	}
	if up < 50 || down < 50 {
		t.Error("too few halves:", up, down)
	}
}

// along are lines of a frame, the greatest or the least ones, that all go along with the sound at a place (0 to 639), above 0 or below it.
func along(brief bool, place int, below bool) []int32 {
	c, l := bands.New(), make([]int32, 512)
	n, blocks := 512, 1
	if brief {
		n, blocks = 128, 4
	}
	for m := range blocks {
		q := place - 128*m
		if !brief {
			q += 192
		}
		if q < 0 || q >= 2*n {
			continue
		}
		for j := range n {
			comes := back(c, n, j, q)
			l[blocks*j+m] = greatestLine
			if comes < 0 != below {
				l[blocks*j+m] = leastLine
			}
		}
	}
	return l
}

// back is how much of line j comes to the place q of n lines turned and unfolded.
func back(c *bands.Circle, n, j, q int) int32 {
	h := n / 2
	turned := func(k int) int32 { return c.Cos((2*j + 1) * (2*k + 1) * (512 / n)) }
	switch {
	case q < h:
		return turned(h + q)
	case q < n:
		return -turned(h + n - 1 - q)
	case q < 3*h:
		return -turned(3*h - 1 - q)
	}
	return -turned(q - 3*h)
}

// P9.2: what is left, and the first numbers of a frame, as great as they may be, don't go over, but are held.
func TestGreatestSounds(t *testing.T) {
	for _, mix := range mixes(2) {
		for _, place := range []int{0, 1, 40, 63, 64, 90, 126, 127} {
			for _, below := range []bool{false, true} {
				s, chapter := overlap.NewSynth(), &chapterSynth{}
				first, second := along(mix[0], 512+place, below), along(mix[1], place, below)
				got, want := samples(t, s, first, mix[0]), chapter.samples(first, mix[0])
				more, wanted := samples(t, s, second, mix[1]), chapter.samples(second, mix[1])
				if !slices.Equal(got, want) || !slices.Equal(more, wanted) {
					t.Errorf("brief %v, greatest at %d: %v, %v, not %v, %v", mix, place, got, more, want, wanted)
				}
				edge := int16(greatestSample)
				if below {
					edge = leastSample
				}
				if more[place] != edge {
					t.Errorf("brief %v, greatest at %d: %d", mix, place, more[place])
				}
			}
		}
	}
	// Amid a frame, too, where two blocks come together.
	for _, brief := range kinds {
		for place := 0; place < 512; place += 37 {
			for _, below := range []bool{false, true} {
				l := along(brief, place, below)
				if got, want := samples(t, overlap.NewSynth(), l, brief), (&chapterSynth{}).samples(l, brief); !slices.Equal(got, want) {
					t.Errorf("brief %t, greatest at %d: %v, not %v", brief, place, got, want)
				}
			}
		}
	}
}

// The chapter's example: silence is silence.
func TestSilence(t *testing.T) {
	for _, mix := range mixes(3) {
		a, s := overlap.NewAnalyser(), overlap.NewSynth()
		for _, brief := range mix {
			l := lines(t, a, make([]int16, 512), brief)
			if !slices.Equal(l, make([]int32, 512)) {
				t.Error("lines of silence:", l)
			}
			if pcm := samples(t, s, l, brief); !slices.Equal(pcm, make([]int16, 512)) {
				t.Error("samples of silence:", pcm)
			}
		}
	}
}

// refused tells whether an answer is ErrArg and nothing else.
func refused[T any](l []T, err api.Errno) bool { return len(l) == 0 && err == api.ErrArg }

// P9.1: another number of samples; the analyser is where it was.
func TestOtherNumbersOfSamples(t *testing.T) {
	pcm := told[int16](1500, 16)
	for _, brief := range kinds {
		a, other := overlap.NewAnalyser(), overlap.NewAnalyser()
		lines(t, a, pcm[:512], brief)
		lines(t, other, pcm[:512], brief)
		for count := range 1500 {
			if count != 512 && !refused(a.Lines(pcm[:count], brief)) {
				t.Errorf("brief %t: Lines takes %d samples", brief, count)
			}
		}
		if !refused(a.Lines(nil, brief)) || !refused(a.Lines(make([]int16, 1<<20), brief)) {
			t.Errorf("brief %t: Lines takes none, or many", brief)
		}
		if !slices.Equal(lines(t, a, pcm[512:1024], brief), lines(t, other, pcm[512:1024], brief)) {
			t.Errorf("brief %t: what was refused is kept", brief)
		}
	}
}

// P9.2: another number of lines; the synth is where it was.
func TestOtherNumbersOfLines(t *testing.T) {
	l := told[int32](1500, 20)
	for _, brief := range kinds {
		s := overlap.NewSynth()
		samples(t, s, l[:512], brief)
		other := s.Clone()
		for count := range 1500 {
			if count != 512 && !refused(s.Samples(l[:count], brief)) {
				t.Errorf("brief %t: Samples takes %d lines", brief, count)
			}
		}
		if !refused(s.Samples(nil, brief)) || !refused(s.Samples(make([]int32, 1<<20), brief)) {
			t.Errorf("brief %t: Samples takes none, or many", brief)
		}
		if !slices.Equal(samples(t, s, l[512:1024], brief), samples(t, other, l[512:1024], brief)) {
			t.Errorf("brief %t: what was refused is kept", brief)
		}
	}
}

// P9.2: at each place lines that are too wide, among loud ones, of which nothing is kept; and the widest that aren't.
func TestWideLines(t *testing.T) {
	l := told[int32](1024, 20)
	for _, brief := range kinds {
		s := overlap.NewSynth()
		samples(t, s, l[:512], brief)
		other := s.Clone()
		for at := range 512 {
			for _, wide := range []int32{leastLine - 1, greatestLine + 1, 2 * leastLine, 2 * greatestLine, math.MinInt32, math.MaxInt32} {
				wrong := slices.Clone(l[:512])
				wrong[at] = wide
				if !refused(s.Samples(wrong, brief)) {
					t.Fatalf("brief %t: %d at %d is taken", brief, wide, at)
				}
			}
		}
		if !slices.Equal(samples(t, s, l[512:], brief), samples(t, other, l[512:], brief)) {
			t.Errorf("brief %t: what was refused is kept", brief)
		}
		for _, at := range []int{0, 1, 2, 3, 4, 255, 256, 508, 511} {
			for _, n := range []int32{leastLine, greatestLine} {
				most := make([]int32, 512)
				most[at] = n
				if pcm, err := s.Samples(most, brief); len(pcm) != 512 || err != api.OK {
					t.Errorf("brief %t: %d at %d isn't taken: %d", brief, n, at, err)
				}
			}
		}
	}
}

// P9.2: a clone has as much left, and goes on by itself.
func TestClone(t *testing.T) {
	r := rand.New(rand.NewSource(3))
	l := spectra(r, 512*3)
	for _, mix := range mixes(2) {
		loud, other := l[7], l[8]
		s := overlap.NewSynth()
		if c := s.Clone(); c == nil || c == s {
			t.Fatal("no other one:", c)
		} else if pcm := samples(t, c, make([]int32, 512), mix[1]); !slices.Equal(pcm, make([]int16, 512)) {
			t.Error("a new one's clone has something left:", pcm)
		}
		samples(t, s, loud[:512], mix[0])
		chapter := &chapterSynth{}
		chapter.samples(loud[:512], mix[0])
		first, second := s.Clone(), s.Clone()
		// The first clone goes another way; the second one, and the synth, don't notice.
		otherChapter := *chapter
		for i := range 3 {
			frame := other[512*i : 512*i+512]
			if got, want := samples(t, first, frame, !mix[1]), otherChapter.samples(frame, !mix[1]); !slices.Equal(got, want) {
				t.Errorf("brief %v: a clone's frame %d is %v, not %v", mix, i, got, want)
			}
		}
		for i := range 2 {
			frame := loud[512*(i+1) : 512*(i+2)]
			want := chapter.samples(frame, mix[1])
			if got := samples(t, s, frame, mix[1]); !slices.Equal(got, want) {
				t.Errorf("brief %v: frame %d is %v, not %v", mix, i, got, want)
			}
			if got := samples(t, second, frame, mix[1]); !slices.Equal(got, want) {
				t.Errorf("brief %v: the other clone's frame %d is %v, not %v", mix, i, got, want)
			}
		}
	}
}

// P9.2: of nil ones ErrArg, and nil.
func TestNilOnes(t *testing.T) {
	var a *overlap.Analyser
	var s *overlap.Synth
	for _, brief := range kinds {
		for _, count := range []int{0, 1, 128, 511, 512, 513} {
			if !refused(a.Lines(make([]int16, count), brief)) || !refused(s.Samples(make([]int32, count), brief)) {
				t.Errorf("brief %t: nil ones take %d", brief, count)
			}
		}
		if !refused(a.Lines(nil, brief)) || !refused(s.Samples(nil, brief)) || !refused(s.Samples(slices.Repeat([]int32{math.MinInt32}, 512), brief)) {
			t.Errorf("brief %t: nil ones take what may not be", brief)
		}
	}
	if c := s.Clone(); c != nil {
		t.Error("a nil synth's clone:", c)
	}
}

// aFew is how far off samples may be here: none were found to be; the chapter allows 600.
const aFew = 1

// P9.3: frames there and back are the samples, 128 of them late, in all mixes of long and brief ones.
func TestThereAndBack(t *testing.T) {
	const frames = 4
	r := rand.New(rand.NewSource(4))
	for kind, pcm := range streams(r, 512*frames) {
		late := append(make([]int16, 128), pcm...)
		for _, mix := range mixes(frames) {
			a, s := overlap.NewAnalyser(), overlap.NewSynth()
			for i, brief := range mix {
				for k, n := range samples(t, s, lines(t, a, pcm[512*i:512*i+512], brief), brief) {
					if off := int(n) - int(late[512*i+k]); off > aFew || off < -aFew {
						t.Fatalf("kind %d, brief %v, frame %d, sample %d: %d off", kind, mix, i, k, off)
					}
				}
			}
		}
	}
}

// P1: of any numbers each call ends, and none panics, also of those that New didn't make, which have no lines.
func TestNothingPanics(t *testing.T) {
	r := rand.New(rand.NewSource(5))
	for _, brief := range kinds {
		for _, count := range []int{0, 1, 2, 127, 128, 129, 511, 512, 513, 640, 1024, 4096} {
			a, s := overlap.NewAnalyser(), overlap.NewSynth()
			for _, n := range []int32{0, 1, -1, leastLine - 1, leastLine, greatestLine, greatestLine + 1, math.MinInt32, math.MaxInt32} {
				s.Samples(slices.Repeat([]int32{n}, count), brief)
				a.Lines(slices.Repeat([]int16{int16(n)}, count), brief)
			}
			pcm, l := make([]int16, count), make([]int32, count)
			for i := range count {
				pcm[i], l[i] = int16(r.Uint32()), int32(r.Uint32())
			}
			a.Lines(pcm, brief)
			s.Samples(l, brief)
			unmade, empty := &overlap.Analyser{}, &overlap.Synth{}
			if !refused(unmade.Lines(pcm, brief)) || !refused(empty.Samples(make([]int32, count), brief)) || !refused(empty.Clone().Samples(l, brief)) {
				t.Errorf("brief %t: ones that New didn't make take %d", brief, count)
			}
		}
	}
}

// checkApart holds two objects that are alike against each other: one is handed a list that is changed behind the call, as its answer is, the other one a list that ends at its length.
func checkApart[In, Out int16 | int32](t *testing.T, room []In, one, other func([]In) []Out) {
	t.Helper()
	kept := slices.Clone(room)
	first := one(room[:512])
	want := slices.Clone(first)
	if !slices.Equal(room, kept) {
		t.Fatal("what is handed in is changed")
	}
	clear(room)
	if !slices.Equal(first, want) || !slices.Equal(other(kept[:512:512]), want) {
		t.Error("an answer is shared with what is handed in, or hangs on what lies behind it")
	}
	clear(first[:cap(first)])
	if !slices.Equal(one(kept[512:]), other(kept[512:])) {
		t.Error("what was handed in, or answered, is kept")
	}
}

// The document's third rule: what is handed in isn't changed or kept, what lies behind its length isn't read, and nothing is shared.
func TestListsAreApart(t *testing.T) {
	for _, brief := range kinds {
		analyse := func(a *overlap.Analyser) func([]int16) []int32 {
			return func(pcm []int16) []int32 { return lines(t, a, pcm, brief) }
		}
		checkApart(t, told[int16](1024, 16), analyse(overlap.NewAnalyser()), analyse(overlap.NewAnalyser()))
		hear := func(s *overlap.Synth) func([]int32) []int16 {
			return func(l []int32) []int16 { return samples(t, s, l, brief) }
		}
		checkApart(t, told[int32](1024, 20), hear(overlap.NewSynth()), hear(overlap.NewSynth()))
	}
}

// answers are those of an analyser, and of a synth, of some frames.
func answers(a *overlap.Analyser, s *overlap.Synth) []int32 {
	pcm, l := told[int16](512*4, 16), told[int32](512*4, 21)
	var all []int32
	for i, brief := range []bool{true, false, false, true} {
		lines, wrong := a.Lines(pcm[512*i:512*i+512], brief)
		heard, err := s.Samples(l[512*i:512*i+512], !brief)
		all = append(append(all, int32(wrong), int32(err)), lines...)
		for _, n := range heard {
			all = append(all, int32(n))
		}
	}
	return all
}

// P2: an answer hangs on nothing but what its object was told: neither on others ahead of it nor on those beside it, clones among them.
func TestAnswersStayTheSame(t *testing.T) {
	want := answers(overlap.NewAnalyser(), overlap.NewSynth())
	if !slices.Equal(answers(overlap.NewAnalyser(), overlap.NewSynth()), want) {
		t.Error("another answer behind the first one")
	}
	s := overlap.NewSynth()
	var got [8][]int32
	var all sync.WaitGroup
	for i := range got {
		clone := s.Clone()
		all.Go(func() { got[i] = answers(overlap.NewAnalyser(), clone) })
	}
	all.Wait()
	for i := range got {
		if !slices.Equal(got[i], want) {
			t.Error("another answer", i)
		}
	}
	// One by one, frame by frame, two of each don't mix.
	pcm := told[int16](1024, 16)
	a, b := overlap.NewAnalyser(), overlap.NewAnalyser()
	lines(t, a, pcm[:512], false)
	lines(t, b, make([]int16, 512), false)
	alone := overlap.NewAnalyser()
	lines(t, alone, pcm[:512], true) // what a frame was doesn't hang on how the one ahead was turned
	if !slices.Equal(lines(t, a, pcm[512:], false), lines(t, alone, pcm[512:], false)) {
		t.Error("an analyser hangs on another one, or on how the frame ahead was turned")
	}
}

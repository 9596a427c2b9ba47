package quant_test

import (
	"bytes"
	"encoding/hex"
	"math"
	"math/big"
	"math/rand"
	"slices"
	"strconv"
	"strings"
	"sync"
	"testing"

	"sideband/api"
	"sideband/energy"
	"sideband/mask"
	"sideband/model"
	"sideband/quant"
	"sideband/rangedec"
	"sideband/rangeenc"
)

// chapterEdges is where layer 4's bands begin, and the last one ends.
var chapterEdges = []int{0, 4, 8, 12, 16, 20, 24, 28, 32, 40, 48, 56, 64, 80, 96, 112, 128, 160, 192, 256, 352, 512}

// Ceilings, and steps that may be with them: some of each kind, below them, at them and above them.
var (
	some   = []int{26, 25, 20, 13, 12, 12, 11, 9, 9, 8, 8, 7, 6, 7, 5, 3, 2, 2, 1, 1, 0}
	bySome = []int{14, 13, 15, 13, 9, 6, 0, 4, 5, 6, 7, 7, 3, 4, 2, 3, 2, 0, 1, 1, 0}
	none   = slices.Repeat([]int{0}, 21)
	ones   = slices.Repeat([]int{1}, 21)
	dozen  = slices.Repeat([]int{12}, 21)
	most   = slices.Repeat([]int{26}, 21)
	byMost = slices.Repeat([]int{14}, 21)
)

// odd are numbers that are neither ceilings nor steps.
var odd = []int{-1, 27, 28, 31, 32, -26, -27, 256, 1 << 32, -1 << 32, 1<<32 + 5, math.MinInt, math.MaxInt}

// seeds are those at which something turns over, and others.
var seeds = []uint32{0, 1, 2, 77, 4242, 12345, 1<<31 - 1, 1 << 31, 1<<31 + 1, math.MaxUint32 - 1, math.MaxUint32}

// wrongs are lists that are neither ceilings nor steps: of other lengths, and with an odd number at each place.
func wrongs() [][]int {
	l := [][]int{nil, {}, make([]int, 20, 21), make([]int, 512), make([]int, 1<<16)}
	for count := 1; count <= 70; count++ {
		if count != 21 {
			l = append(l, make([]int, count))
		}
	}
	for place := range 21 {
		for _, n := range odd {
			wrong := slices.Clone(dozen)
			wrong[place] = n
			l = append(l, wrong)
		}
	}
	return l
}

// with is a list, with another number at a place.
func with(l []int, place, n int) []int {
	l = slices.Clone(l)
	l[place] = n
	return l
}

// anyPair are ceilings and steps that may be, of any kind.
func anyPair(r *rand.Rand) (l, steps []int) {
	l, steps = make([]int, 21), make([]int, 21)
	kind, bound := r.Intn(3), 1+r.Intn(27)
	for band := range l {
		l[band] = r.Intn(bound)
		least := max(0, l[band]-12)
		switch kind {
		case 0:
			steps[band] = least + r.Intn(27-least)
		case 1:
			steps[band] = least + r.Intn(l[band]-least+1)
		case 2:
			steps[band] = min(26, least+r.Intn(3))
		}
	}
	return l, steps
}

// linesOf are lines of no more bits than the ceilings, with one at least of so many in each band, whichever sign.
func linesOf(r *rand.Rand, l []int) []int32 {
	lines := make([]int32, 512)
	for band, n := range l {
		first, end := chapterEdges[band], chapterEdges[band+1]
		for i := first; i < end; i++ {
			lines[i] = int32(r.Int63n(1<<(n+1)-1) - (1<<n - 1))
			if r.Intn(4) == 0 {
				lines[i] >>= r.Intn(n + 1)
			}
		}
		if n > 0 {
			lines[first+r.Intn(end-first)] = int32(1<<n-1-r.Int63n(1<<(n-1))) * int32(1-2*r.Intn(2))
		}
	}
	return lines
}

// anyLines are of any 32 bits, of all sizes, with the least and the greatest one amid.
func anyLines(r *rand.Rand) []int32 {
	lines := make([]int32, 512)
	for i := range lines {
		lines[i] = int32(r.Uint32()) >> r.Intn(32)
		if r.Intn(20) == 0 {
			lines[i] = []int32{math.MinInt32, math.MaxInt32, math.MinInt32 + 1, 1 << 26, -1 << 26}[r.Intn(5)]
		}
	}
	return lines
}

// evenLines are lines by a rule, of no more bits than the ceilings.
func evenLines(l []int) []int32 {
	lines := make([]int32, 512)
	for band, n := range l {
		for i := chapterEdges[band]; i < chapterEdges[band+1]; i++ {
			mixed := uint32(i)*2654435761 + 97
			lines[i] = int32(mixed%(1<<(n+1)-1)) - (1<<n - 1)
		}
	}
	return lines
}

func power(n int) *big.Int { return new(big.Int).Lsh(big.NewInt(1), uint(n)) }

// chapterNumber is a line as a number of steps, in numbers without end: of the floor and the one above it the nearer one, of two the greater; held.
func chapterNumber(line int32, n, s int) int64 {
	number, rest := new(big.Int).DivMod(big.NewInt(int64(line)), power(s), new(big.Int))
	if rest.Add(rest, rest).Cmp(power(s)) >= 0 {
		number.Add(number, big.NewInt(1))
	}
	greatest := power(n - s)
	greatest.Sub(greatest, big.NewInt(1))
	if number.CmpAbs(greatest) <= 0 {
		return number.Int64()
	}
	return greatest.Int64() * int64(number.Sign())
}

// chapterNoise reckons in numbers without end, and loses what is over at last.
func chapterNoise(seed uint32, i, n int) int32 {
	if n < 3 || n > 26 {
		return 0
	}
	all := new(big.Int).Mul(big.NewInt(int64(seed)), big.NewInt(2654435761))
	all.Add(all, new(big.Int).Mul(big.NewInt(int64(i)), big.NewInt(40503)))
	all.Add(all, big.NewInt(12345))
	all.Mul(all, big.NewInt(1664525))
	size := int32(math.Pow(2, float64(n-2)))
	if all.Mod(all, power(32)).Cmp(power(31)) >= 0 {
		return -size
	}
	return size
}

// chapterHeard goes line by line.
func chapterHeard(lines []int32, l, steps []int, seed uint32) []int32 {
	heard, band := make([]int32, 512), 0
	for i := range heard {
		for i >= chapterEdges[band+1] {
			band++
		}
		n, s := l[band], steps[band]
		if s < n {
			heard[i] = int32(chapterNumber(lines[i], n, s) * power(s).Int64())
		} else {
			heard[i] = chapterNoise(seed, i, n)
		}
	}
	return heard
}

// chapterPut puts the digits, to the base of two, that numbers are written with.
func chapterPut(t *testing.T, e *rangeenc.Encoder, lines []int32, l, steps []int) {
	t.Helper()
	m, _ := model.New(13)
	for band, n := range l {
		for i := chapterEdges[band]; i < chapterEdges[band+1] && steps[band] < n; i++ {
			digits := strconv.FormatInt(chapterNumber(lines[i], n, steps[band]), 2)
			lower, below := strings.CutPrefix(digits, "-")
			sign := uint32(0)
			if below {
				sign = 1
			}
			if digits == "0" {
				e.Symbol(m, 0)
				continue
			}
			e.Symbol(m, len(lower))
			e.Bits(sign, 1)
			rest, _ := strconv.ParseUint("0"+lower[1:], 2, 32)
			if err := e.Bits(uint32(rest), len(lower)-1); err != api.OK {
				t.Fatal(err)
			}
		}
	}
}

// chapterGet gets what comes, ErrForm of a number of too many bits.
func chapterGet(d *rangedec.Decoder, l, steps []int, seed uint32) ([]int32, api.Errno) {
	m, _ := model.New(13)
	lines := make([]int32, 512)
	for band, n := range l {
		for i := chapterEdges[band]; i < chapterEdges[band+1]; i++ {
			if steps[band] >= n {
				lines[i] = chapterNoise(seed, i, n)
				continue
			}
			k, _ := d.Symbol(m)
			if k > n-steps[band] {
				return nil, api.ErrForm
			}
			if k == 0 {
				continue
			}
			sign, _ := d.Bits(1)
			lower, _ := d.Bits(k - 1)
			size := (math.Pow(2, float64(k-1)) + float64(lower)) * math.Pow(2, float64(steps[band]))
			lines[i] = int32(size * (1 - 2*float64(sign)))
		}
	}
	return lines, api.OK
}

func put(t *testing.T, e *rangeenc.Encoder, lines []int32, l, steps []int) {
	t.Helper()
	if err := quant.Put(e, lines, l, steps); err != api.OK {
		t.Fatalf("Put by %v, %v: %d", l, steps, err)
	}
}

func get(t *testing.T, d *rangedec.Decoder, l, steps []int, seed uint32) []int32 {
	t.Helper()
	lines, err := quant.Get(d, l, steps, seed)
	if err != api.OK || len(lines) != 512 {
		t.Fatalf("Get by %v, %v: %d lines, %d", l, steps, len(lines), err)
	}
	return lines
}

func heard(t *testing.T, lines []int32, l, steps []int, seed uint32) []int32 {
	t.Helper()
	x, err := quant.Heard(lines, l, steps, seed)
	if err != api.OK || len(x) != 512 {
		t.Fatalf("Heard by %v, %v: %d lines, %d", l, steps, len(x), err)
	}
	return x
}

// same tells of lines where they are not as they should be.
func same(t *testing.T, what string, got, want []int32) {
	t.Helper()
	for i := range want {
		if got[i] != want[i] {
			t.Fatalf("%s: line %d is %d, not %d", what, i, got[i], want[i])
		}
	}
}

// bytesOf are those of one frame.
func bytesOf(t *testing.T, lines []int32, l, steps []int) []byte {
	t.Helper()
	e := rangeenc.New()
	put(t, e, lines, l, steps)
	return e.Bytes()
}

// refused tells of an answer whether it is an error, and nothing else.
func refused(t *testing.T, what string, lines []int32, err, want api.Errno) {
	t.Helper()
	if len(lines) != 0 || err != want {
		t.Errorf("%s: %d lines, %d, not %d", what, len(lines), err, want)
	}
}

// refuses tells that ceilings and steps are ErrArg everywhere, and nothing comes of it.
func refuses(t *testing.T, l, steps []int) {
	t.Helper()
	e := rangeenc.New()
	e.Bits(200, 8)
	ahead := e.Bytes()
	if err := quant.Put(e, make([]int32, 512), l, steps); err != api.ErrArg {
		t.Errorf("Put by %v, %v: %d", l, steps, err)
	}
	if !bytes.Equal(e.Bytes(), ahead) || e.Len() != rangeenc.New().Len()+1 {
		t.Errorf("Put by %v, %v: %x", l, steps, e.Bytes())
	}
	d := rangedec.New(ahead)
	lines, err := quant.Get(d, l, steps, 1)
	refused(t, "Get", lines, err, api.ErrArg)
	if n, err := d.Bits(8); n != 200 || err != api.OK {
		t.Errorf("Get by %v, %v takes of it", l, steps)
	}
	lines, err = quant.Heard(make([]int32, 512), l, steps, 1)
	refused(t, "Heard", lines, err, api.ErrArg)
}

// The chapter's example: in each band.
func TestTheExample(t *testing.T) {
	for band := range 21 {
		lines, l, steps := make([]int32, 512), with(none, band, 5), with(none, band, 2)
		lines[chapterEdges[band]] = 21
		want := make([]int32, 512)
		want[chapterEdges[band]] = 20
		same(t, "heard", heard(t, lines, l, steps, 1), want)
		b := bytesOf(t, lines, l, steps)
		same(t, "got", get(t, rangedec.New(b), l, steps, 1), want)
		// Five is a number of three bits, above 0, with 01 below the highest.
		d := rangedec.New(b)
		m, _ := model.New(13)
		k, _ := d.Symbol(m)
		sign, _ := d.Bits(1)
		lower, _ := d.Bits(2)
		if k != 3 || sign != 0 || lower != 1 {
			t.Error(band, k, sign, lower)
		}
	}
}

// P12.1: noise that was reckoned elsewhere.
func TestNoiseIsAsReckoned(t *testing.T) {
	for seed, want := range map[uint32]string{
		0:              "100110110010011011001001",
		1:              "110110110010011011001001",
		2:              "110110010010011011001001",
		77:             "001101100100110110010010",
		1 << 31:        "011001001101100100110110",
		math.MaxUint32: "100110110010011011001001",
	} {
		for i, below := range want {
			for n, size := range map[int]int32{3: 2, 4: 4, 5: 8, 20: 1 << 18, 26: 1 << 24} {
				if below == '1' {
					size = -size
				}
				if got := quant.Noise(seed, i, n); got != size {
					t.Errorf("Noise(%d, %d, %d): %d, not %d", seed, i, n, got, size)
				}
			}
		}
	}
}

// P12.1: each line, each ceiling, ones that are none, too.
func TestNoise(t *testing.T) {
	r := rand.New(rand.NewSource(1))
	all := append([]uint32{r.Uint32(), r.Uint32(), r.Uint32()}, seeds...)
	for _, seed := range all {
		for i := range 512 {
			for n := -3; n <= 35; n++ {
				if got, want := quant.Noise(seed, i, n), chapterNoise(seed, i, n); got != want {
					t.Fatalf("Noise(%d, %d, %d): %d, not %d", seed, i, n, got, want)
				}
			}
		}
	}
}

// P12.1: ceilings far off have none; a line may be any number.
func TestNoiseFarOff(t *testing.T) {
	for _, seed := range seeds {
		for _, n := range append([]int{0, 1, 2, 29, 30, 33, 34, 63, 64, 65, 66, 1<<32 + 10, -1<<32 + 10}, odd...) {
			if got := quant.Noise(seed, 5, n); got != 0 {
				t.Errorf("Noise(%d, 5, %d): %d", seed, n, got)
			}
		}
		for _, i := range append([]int{512, 513, 1 << 20, 1<<31 - 1, 1 << 31, -1 << 31, 1<<62 + 3, -2, -511}, odd...) {
			for _, n := range []int{2, 3, 26, 27} {
				if got, want := quant.Noise(seed, i, n), chapterNoise(seed, i, n); got != want {
					t.Errorf("Noise(%d, %d, %d): %d, not %d", seed, i, n, got, want)
				}
			}
		}
	}
}

// P12.1, P12.2: bytes, and lines, that were reckoned elsewhere.
func TestBytesAreAsReckoned(t *testing.T) {
	lines := evenLines(some)
	want := "ffff1fe6b2489f666c9226ec81da342d4c3acc54c2fc4120d8d370af656d382bc521010034df9ccb9d08f2fde9f149b94ab7d1deeefc" +
		"da9891e3b7d44baa7ba567a22fd998000000007071f4ef412d21daec54f1c0435254af509d9790e51359302c7bcd2ed9"
	if got := hex.EncodeToString(bytesOf(t, lines, some, bySome)); got != want {
		t.Error(got)
	}
	x := heard(t, lines, some, bySome, 4242)
	same(t, "the first ones", x, []int32{
		-67092480, 37191680, 7274496, -22642688, -19013632, 18178048, -11739136, 25452544, 786432, 229376,
		-327680, -884736, -2048, 2048, 2048, -2048, 2048, -3584, -512, 2560, -2816, 128, 3072, -2240, 1285, 460,
		-365, -934, -272, 112, 480, -176, 192, -448, -96, 288, -384, 0, 384, -288,
	})
	same(t, "those from 120 on", x[120:], []int32{
		2, -2, 2, 2, -2, -2, 2, -2, 0, 0, 0, 0, 0, 0, 0, 0, 0, 0, 0, 0, 0, 0, 0, 0, 0, 0, 0, 0, 0, 0, 0, 0, 0, 0, 0, 0, 0, 0, 0, 0,
		-2, -1, 0, -2, -1, -3, -2, -1, -3, -2, -1, -3, -2, 3, -3, -2, 3, -3, -2, 3, -3, 2, 3, -3, 2, 3, 1, 2, 3, 1, 2, 3, 0,
	})
	var sum, sizes int64
	for _, n := range x {
		sum += int64(n)
		sizes += max(int64(n), -int64(n))
	}
	if sum != -32588218 || sizes != 210847402 {
		t.Error(sum, sizes)
	}

	lines, l, steps := make([]int32, 512), with(none, 3, 5), with(none, 3, 2)
	copy(lines[12:], []int32{21, -22, -31, 1})
	if got := hex.EncodeToString(bytesOf(t, lines, l, steps)); got != "3f01981580" {
		t.Error(got)
	}
	same(t, "of one band", heard(t, lines, l, steps, 1)[12:], []int32{20, -20, -28, 0, 0})
}

// P12.1: many bytes of numbers of twelve bits, as they were reckoned elsewhere.
func TestLoudBytesAreAsReckoned(t *testing.T) {
	lines := make([]int32, 512)
	for i := range lines {
		lines[i] = 1<<26 - 1
		if i%3 == 0 {
			lines[i] = -lines[i]
		}
		if i%7 == 0 {
			lines[i] = 0
		}
	}
	b := bytesOf(t, lines, most, byMost)
	if len(b) != 699 || hex.EncodeToString(b[:40]) != "137935ffdfdb5f3cc439797ccf9fa88b71b31d2a92fb583924ddddd598ddc25bed2a96310ab4eb3d" || hex.EncodeToString(b[691:]) != "6388440d91db3054" {
		t.Error(len(b), hex.EncodeToString(b))
	}
}

// P12.2: each number of steps, about each half of a step, of each ceiling and step of a band.
func TestHeardOfOneBand(t *testing.T) {
	r := rand.New(rand.NewSource(2))
	for n := range 27 {
		for s := max(0, n-12); s <= 26; s++ {
			l, steps := slices.Repeat([]int{n}, 21), slices.Repeat([]int{s}, 21)
			lines := linesOf(r, l)
			for i := range lines {
				if i%2 == 0 {
					// A half of a step, and what is beside it.
					lines[i] = int32(i/2%(1<<max(0, n-s))<<s+1<<s/2+i/2%3-1) * int32(1-i/2%2*2)
				}
			}
			want := chapterHeard(lines, l, steps, uint32(s))
			same(t, "heard", heard(t, lines, l, steps, uint32(s)), want)
			same(t, "got", get(t, rangedec.New(bytesOf(t, lines, l, steps)), l, steps, uint32(s)), want)
		}
	}
}

// P12.2: numbers are rounded, halves upwards, whichever sign, and held to what the ceiling leaves.
func TestNumbersAreRoundedAndHeld(t *testing.T) {
	for _, c := range []struct {
		n, s       int
		line, want int32
	}{
		{4, 1, 0, 0}, {4, 1, 1, 2}, {4, 1, -1, 0}, {4, 1, 3, 4}, {4, 1, -3, -2}, {4, 1, -4, -4},
		{5, 2, 1, 0}, {5, 2, 2, 4}, {5, 2, -2, 0}, {5, 2, -3, -4}, {5, 2, 29, 28}, {5, 2, 30, 28}, {5, 2, 31, 28}, {5, 2, -31, -28},
		{5, 2, 32, 28}, {5, 2, -32, -28}, {5, 2, 1 << 20, 28}, {5, 2, math.MinInt32, -28}, {5, 2, math.MaxInt32, 28},
		{1, 0, 1, 1}, {1, 0, -1, -1}, {1, 0, 2, 1}, {1, 0, -7, -1}, {1, 0, math.MinInt32, -1}, {12, 0, 4095, 4095}, {12, 0, 4096, 4095}, {12, 0, -4096, -4095},
		{26, 14, 1<<26 - 1, 4095 << 14}, {26, 14, 4095<<14 + 1<<13, 4095 << 14}, {26, 14, 4094<<14 + 1<<13, 4095 << 14}, {26, 14, 4094<<14 + 1<<13 - 1, 4094 << 14},
		{26, 14, math.MaxInt32, 4095 << 14}, {26, 14, math.MinInt32, -4095 << 14}, {26, 25, 1 << 24, 1 << 25}, {26, 25, 1<<24 - 1, 0},
		{26, 25, -1 << 24, 0}, {26, 25, -1<<24 - 1, -1 << 25}, {26, 25, 1<<26 - 1, 1 << 25}, {26, 25, math.MinInt32, -1 << 25},
	} {
		for band := range 21 {
			for _, line := range []int{chapterEdges[band], chapterEdges[band+1] - 1} {
				lines, want := make([]int32, 512), make([]int32, 512)
				lines[line], want[line] = c.line, c.want
				l, steps := with(none, band, c.n), with(none, band, c.s)
				same(t, "heard", heard(t, lines, l, steps, 9), want)
				same(t, "got", get(t, rangedec.New(bytesOf(t, lines, l, steps)), l, steps, 9), want)
			}
		}
	}
}

// P12.1, P12.2: any lines, of more bits than their ceilings, too, with any ceilings and steps that may be.
func TestAnyFrames(t *testing.T) {
	r := rand.New(rand.NewSource(3))
	for i := range 600 {
		l, steps := anyPair(r)
		lines, seed := linesOf(r, l), r.Uint32()
		if i%2 == 0 {
			lines = anyLines(r)
		}
		want := chapterHeard(lines, l, steps, seed)
		same(t, "heard", heard(t, lines, l, steps, seed), want)
		e := rangeenc.New()
		chapterPut(t, e, lines, l, steps)
		b := bytesOf(t, lines, l, steps)
		if !bytes.Equal(b, e.Bytes()) {
			t.Fatalf("%d: Put by %v, %v: other bytes", i, l, steps)
		}
		same(t, "got", get(t, rangedec.New(b), l, steps, seed), want)
	}
}

// P12.1: of any bytes come the lines of their symbols, or ErrForm.
func TestGetOfAnyBytes(t *testing.T) {
	r := rand.New(rand.NewSource(4))
	errs := map[api.Errno]int{}
	for i := range 1500 {
		l, steps := anyPair(r)
		if i%3 == 0 {
			l, steps = most, byMost // numbers may have all bits that there are
		}
		b := make([]byte, r.Intn(300))
		r.Read(b)
		seed := r.Uint32()
		want, wanted := chapterGet(rangedec.New(b), l, steps, seed)
		got, err := quant.Get(rangedec.New(b), l, steps, seed)
		if err != wanted || !slices.Equal(got, want) {
			t.Fatalf("%d: Get by %v, %v: %d, not %d", i, l, steps, err, wanted)
		}
		errs[err]++
	}
	if errs[api.OK] < 500 || errs[api.ErrForm] < 300 {
		t.Error(errs)
	}
}

// P12.1: of no bytes come noughts, and noise.
func TestGetOfNothing(t *testing.T) {
	want := make([]int32, 512)
	same(t, "of no bytes", get(t, rangedec.New(nil), most, byMost, 5), want)
	same(t, "of a decoder as it is declared", get(t, new(rangedec.Decoder), ones, none, 5), want)
	same(t, "where nothing is told", get(t, rangedec.New([]byte{255, 255}), dozen, dozen, 5), chapterHeard(want, dozen, dozen, 5))
}

// P12.1: a number of a bit too many is ErrForm, at the first line and at later ones, whatever comes behind; one of all bits isn't.
func TestGetRefusesTooManyBits(t *testing.T) {
	for band := range 21 {
		for _, c := range []struct{ n, s int }{{1, 0}, {11, 0}, {2, 1}, {5, 2}, {26, 25}, {26, 15}, {14, 13}} {
			l, steps := with(none, band, c.n), with(none, band, c.s)
			for place := range chapterEdges[band+1] - chapterEdges[band] {
				for k := c.n - c.s; k <= 12; k++ {
					e := rangeenc.New()
					m, _ := model.New(13)
					for range place {
						e.Symbol(m, 0)
					}
					e.Symbol(m, k)
					e.Bits(0, 1)
					e.Bits(0, k-1)
					lines, err := quant.Get(rangedec.New(e.Bytes()), l, steps, 1)
					if k > c.n-c.s {
						refused(t, "Get", lines, err, api.ErrForm)
					} else if err != api.OK || lines[chapterEdges[band]+place] != 1<<(c.n-1) {
						t.Errorf("line %d of band %d, %v, %d bits: %d", place, band, c, k, err)
					}
				}
				if place > 40 {
					break // enough of the wide bands
				}
			}
		}
	}
}

// P12.1: the bits of each band are its own: those that are too many in one aren't in a wider one.
func TestEachBandHasItsOwnBits(t *testing.T) {
	l, steps := slices.Clone(dozen), slices.Clone(dozen)
	steps[4], steps[9], steps[20] = 0, 7, 11
	lines := make([]int32, 512)
	lines[16], lines[40], lines[511] = 4095, 31<<7, -1<<11
	b := bytesOf(t, lines, l, steps)
	same(t, "got", get(t, rangedec.New(b), l, steps, 3), chapterHeard(lines, l, steps, 3))
	for _, band := range []int{4, 9} {
		got, err := quant.Get(rangedec.New(b), l, with(steps, band, steps[band]+1), 3)
		refused(t, "Get", got, err, api.ErrForm)
	}
	got, err := quant.Get(rangedec.New(b), with(l, 20, 11), with(steps, 20, 11), 3)
	if err != api.OK || got[511] != chapterNoise(3, 511, 11) {
		t.Error(got, err)
	}
}

// P12.3: what is put is got as it is heard, by any seed, frame behind frame, with others' symbols amid.
func TestFramesFollow(t *testing.T) {
	r := rand.New(rand.NewSource(5))
	type frame struct {
		lines    []int32
		l, steps []int
	}
	frames := make([]frame, 40)
	e := rangeenc.New()
	e.Bits(12345, 20)
	for i := range frames {
		f := &frames[i]
		f.l, f.steps = anyPair(r)
		f.lines = anyLines(r)
		put(t, e, f.lines, f.l, f.steps)
		if i%5 == 0 {
			e.Bits(uint32(i), 7)
		}
	}
	d := rangedec.New(e.Bytes())
	if n, err := d.Bits(20); n != 12345 || err != api.OK {
		t.Fatal(n, err)
	}
	for i, f := range frames {
		seed := seeds[i%len(seeds)]
		same(t, "got", get(t, d, f.l, f.steps, seed), heard(t, f.lines, f.l, f.steps, seed))
		if i%5 == 0 {
			if n, err := d.Bits(7); n != uint32(i) || err != api.OK {
				t.Fatal(i, n, err)
			}
		}
	}
}

// P12.3: with a frame's own ceilings each line is near to what is heard.
func TestNearness(t *testing.T) {
	r := rand.New(rand.NewSource(6))
	for i := range 400 {
		wide, _ := anyPair(r)
		if i%10 == 0 {
			wide = most
		}
		lines := linesOf(r, wide)
		l, err := energy.Ceilings(lines)
		if err != api.OK || !slices.Equal(l, wide) {
			t.Fatal(l, err, wide)
		}
		steps, err := mask.Steps(l, 1+r.Intn(10), r.Intn(32))
		if err != api.OK {
			t.Fatal(err)
		}
		if i%3 == 0 {
			for band, n := range l {
				steps[band] = max(0, n-12) + r.Intn(min(n, 12)+1)
			}
		}
		x, all, band := heard(t, lines, l, steps, r.Uint32()), int64(0), 0
		for i, n := range lines {
			for i >= chapterEdges[band+1] {
				band++
			}
			apart, bound := int64(n)-int64(x[i]), int64(1)<<(l[band]+1)
			if steps[band] < l[band] {
				bound = 1 << steps[band]
			}
			if max(apart, -apart) > bound {
				t.Fatalf("line %d: %d, not %d; %d, %d", i, x[i], n, l[band], steps[band])
			}
			all += max(apart, -apart)
		}
		if far, err := mask.Reach(l, steps); err != api.OK || all > far {
			t.Fatal(all, far, err)
		}
	}
}

// P12.1: what learns is a frame's own: the bytes of a frame that follows are those of a new model.
func TestEachFrameHasItsOwnModel(t *testing.T) {
	lines := evenLines(some)
	e, f := rangeenc.New(), rangeenc.New()
	for range 3 {
		put(t, e, lines, some, bySome)
		chapterPut(t, f, lines, some, bySome)
	}
	if !bytes.Equal(e.Bytes(), f.Bytes()) {
		t.Error("other bytes")
	}
}

// P12.1: where nothing is told nothing is put, and nothing is got.
func TestNothingIsTold(t *testing.T) {
	r := rand.New(rand.NewSource(7))
	for range 100 {
		l, steps := anyPair(r)
		for band, n := range l {
			steps[band] = max(steps[band], n)
		}
		e := rangeenc.New()
		put(t, e, anyLines(r), l, steps)
		if e.Len() != 4 || len(e.Bytes()) != 0 {
			t.Fatalf("Put by %v, %v: %x", l, steps, e.Bytes())
		}
		d := rangedec.New([]byte{1, 2, 3, 4, 5})
		get(t, d, l, steps, 1)
		if n, _ := d.Bits(8); n != 1 || d.Over() != 0 {
			t.Fatalf("Get by %v, %v takes of it", l, steps)
		}
	}
}

// P12.1, P12.2: ceilings and steps that may not be.
func TestWrongCeilingsAndSteps(t *testing.T) {
	for _, wrong := range wrongs() {
		refuses(t, wrong, dozen)
		refuses(t, dozen, wrong)
		refuses(t, wrong, wrong)
	}
	for band := range 21 {
		for n := range 27 {
			for s := range 27 {
				l, steps := with(none, band, n), with(none, band, s)
				if n-s > 12 {
					refuses(t, l, steps)
					continue
				}
				lines := make([]int32, 512)
				lines[chapterEdges[band]] = 1
				want := chapterHeard(lines, l, steps, 1)
				same(t, "heard", heard(t, lines, l, steps, 1), want)
				same(t, "got", get(t, rangedec.New(bytesOf(t, lines, l, steps)), l, steps, 1), want)
			}
		}
	}
}

// P12.1, P12.2: other than 512 lines; none at all to put to, or to get from.
func TestWrongLinesAndNone(t *testing.T) {
	for _, count := range []int{0, 1, 21, 256, 511, 513, 1024, 1 << 16} {
		lines := make([]int32, count, count+600)
		e := rangeenc.New()
		if err := quant.Put(e, lines, dozen, none); err != api.ErrArg || e.Len() != 4 {
			t.Error("Put of", count, err, e.Len())
		}
		x, err := quant.Heard(lines, dozen, none, 1)
		refused(t, "Heard", x, err, api.ErrArg)
		x, err = quant.Heard(lines, most, none, 1)
		refused(t, "Heard", x, err, api.ErrArg)
	}
	if err := quant.Put(rangeenc.New(), nil, dozen, none); err != api.ErrArg {
		t.Error("Put of nil:", err)
	}
	x, err := quant.Heard(nil, dozen, none, 1)
	refused(t, "Heard", x, err, api.ErrArg)
	for _, l := range [][]int{dozen, none, most, nil} {
		if err := quant.Put(nil, make([]int32, 512), l, none); err != api.ErrArg {
			t.Error("Put to nil:", err)
		}
		x, err := quant.Get(nil, l, none, 1)
		refused(t, "Get", x, err, api.ErrArg)
	}
}

// An encoder as it is declared is a new one.
func TestAnEncoderAsItIsDeclared(t *testing.T) {
	lines := evenLines(some)
	var e rangeenc.Encoder
	put(t, &e, lines, some, bySome)
	if !bytes.Equal(e.Bytes(), bytesOf(t, lines, some, bySome)) {
		t.Error("other bytes")
	}
}

// P1: of any numbers each call ends, and none panics.
func TestNothingPanics(t *testing.T) {
	r := rand.New(rand.NewSource(8))
	for _, count := range []int{0, 1, 20, 21, 22, 512, 4096} {
		for range 60 {
			l, steps := make([]int, count), make([]int, count)
			for i := range l {
				l[i], steps[i] = int(r.Uint64()), int(r.Uint64())
				if r.Intn(3) > 0 {
					l[i], steps[i] = r.Intn(29)-1, r.Intn(29)-1
				}
			}
			lines := make([]int32, 511+r.Intn(3))
			for i := range lines {
				lines[i] = int32(r.Uint32())
			}
			for _, n := range []int{int(r.Uint64()), r.Intn(30)} {
				quant.Noise(r.Uint32(), int(r.Uint64()), n)
			}
			quant.Put(rangeenc.New(), lines, l, steps)
			quant.Put(nil, lines, l, steps)
			quant.Heard(lines, l, steps, r.Uint32())
			quant.Get(nil, l, steps, r.Uint32())
			b := make([]byte, r.Intn(100))
			r.Read(b)
			quant.Get(rangedec.New(b), l, steps, r.Uint32())
			right, bySteps := anyPair(r)
			quant.Get(rangedec.New(b), right, bySteps, r.Uint32())
			quant.Put(rangeenc.New(), lines, right, bySteps)
			quant.Heard(lines, right, bySteps, r.Uint32())
		}
	}
}

// roomy is a list, with 99 behind its length.
func roomy[T int | int32](l []T) []T {
	return append(slices.Clone(l), 99, 99, 99)[:len(l)]
}

// checkRoom tells of a roomy list whether it is as it was.
func checkRoom[T int | int32](t *testing.T, l, want []T) {
	t.Helper()
	if !slices.Equal(l, want) || !slices.Equal(l[:len(l)+3][len(l):], []T{99, 99, 99}) {
		t.Error("a list is changed:", l[:len(l)+3])
	}
}

// The document's third rule: what is handed in isn't changed or kept, what lies behind its length is neither read nor written, and nothing is shared.
func TestListsAreApart(t *testing.T) {
	plain := evenLines(some)
	want := chapterHeard(plain, some, bySome, 8)
	bytesWant := bytesOf(t, plain, some, bySome)
	for range 2 {
		lines, l, steps := roomy(plain), roomy(some), roomy(bySome)
		e := rangeenc.New()
		put(t, e, lines, l, steps)
		x := heard(t, lines, l, steps, 8)
		d := rangedec.New(bytesWant)
		y := get(t, d, l, steps, 8)
		checkRoom(t, lines, plain)
		checkRoom(t, l, some)
		checkRoom(t, steps, bySome)
		clear(lines)
		clear(l)
		clear(steps)
		if !bytes.Equal(e.Bytes(), bytesWant) {
			t.Error("Put keeps its lists")
		}
		same(t, "heard", x, want)
		same(t, "got", y, want)
		clear(x[:cap(x)])
		same(t, "got", y, want)
		clear(y[:cap(y)])
	}
	lines, l, steps := roomy(plain), roomy(some), roomy(bySome)
	refuses(t, l[:22], steps)
	refuses(t, l, steps[:22])
	refuses(t, l[:20], steps)
	if err := quant.Put(rangeenc.New(), lines[:513], l, steps); err != api.ErrArg {
		t.Error(err)
	}
	// Nothing is told: what comes is none of what is handed in.
	x := heard(t, lines, none, none, 8)
	clear(x[:cap(x)])
	checkRoom(t, lines, plain)
	checkRoom(t, l, some)
	checkRoom(t, steps, bySome)
}

// answers are those of all calls, of some frames.
func answers() []int32 {
	r := rand.New(rand.NewSource(9))
	var all []int32
	for range 40 {
		l, steps := anyPair(r)
		lines, seed := anyLines(r), r.Uint32()
		e := rangeenc.New()
		all = append(all, int32(quant.Put(e, lines, l, steps)))
		for _, n := range e.Bytes() {
			all = append(all, int32(n))
		}
		x, err := quant.Heard(lines, l, steps, seed)
		all = append(append(all, int32(err)), x...)
		x, err = quant.Get(rangedec.New(e.Bytes()), l, steps, seed)
		all = append(append(all, int32(err)), x...)
		b := make([]byte, 50)
		r.Read(b)
		x, err = quant.Get(rangedec.New(b), l, steps, seed)
		all = append(append(all, int32(err)), x...)
		all = append(all, quant.Noise(seed, int(lines[0]), r.Intn(30)))
	}
	return all
}

// P2: an answer hangs on nothing but what was given: neither on others ahead of it nor on those beside it.
func TestAnswersStayTheSame(t *testing.T) {
	want := answers()
	if !slices.Equal(answers(), want) {
		t.Error("another answer behind the first one")
	}
	var got [8][]int32
	var all sync.WaitGroup
	for i := range got {
		all.Go(func() { got[i] = answers() })
	}
	all.Wait()
	for i := range got {
		if !slices.Equal(got[i], want) {
			t.Error("another answer", i)
		}
	}
}

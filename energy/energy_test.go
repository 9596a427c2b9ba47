package energy_test

import (
	"bytes"
	"encoding/hex"
	"math"
	"math/big"
	"math/rand"
	"slices"
	"sync"
	"testing"

	"sideband/api"
	"sideband/bands"
	"sideband/energy"
	"sideband/model"
	"sideband/rangedec"
	"sideband/rangeenc"
)

// chapterOften is how often differences come, as the chapter says it: together 7270 times.
var chapterOften = []uint32{
	3000, 1500, 500,
	10, 10, 10, 10, 10, 10, 10, 10, 10, 10, 10, 10, 10, 10, 10, 10, 10, 10, 10, 10, 10, 10, 10, 10, 10, 10, 10,
	500, 1500,
}

// chapterEdges is where layer 4's bands begin, and the last one ends.
var chapterEdges = []int{0, 4, 8, 12, 16, 20, 24, 28, 32, 40, 48, 56, 64, 80, 96, 112, 128, 160, 192, 256, 352, 512}

// Ceilings of frames: some, some that are near to them, and those at the edges.
var (
	some = []int{26, 25, 20, 13, 12, 12, 11, 9, 9, 8, 8, 7, 6, 7, 5, 3, 2, 2, 1, 1, 0}
	near = []int{25, 25, 21, 12, 14, 12, 10, 9, 7, 8, 10, 6, 6, 8, 5, 4, 2, 0, 1, 2, 1}
	none = slices.Repeat([]int{0}, 21)
	most = slices.Repeat([]int{26}, 21)
	up   = []int{0, 1, 2, 3, 4, 5, 6, 7, 8, 9, 10, 11, 12, 13, 14, 15, 16, 17, 18, 19, 20}
	down = []int{26, 25, 24, 23, 22, 21, 20, 19, 18, 17, 16, 15, 14, 13, 12, 11, 10, 9, 8, 7, 6}
)

// wrongs are lists that are not right, but not empty: of other lengths, and with one number at each place.
func wrongs() [][]int {
	var l [][]int
	for count := 1; count <= 70; count++ {
		if count != 21 {
			l = append(l, make([]int, count))
		}
	}
	for place := range 21 {
		for _, n := range []int{-1, 27, 31, 32, -26, -32, 256, 1 << 32, -1 << 32, math.MinInt, math.MaxInt} {
			wrong := slices.Clone(some)
			wrong[place] = n
			l = append(l, wrong)
		}
	}
	return l
}

// anyRight are right ceilings of any kind: far apart ones, or near to others.
func anyRight(r *rand.Rand, to []int) []int {
	l := make([]int, 21)
	kind := r.Intn(3)
	for band := range l {
		switch kind {
		case 0:
			l[band] = r.Intn(27)
		case 1:
			l[band] = 26 * r.Intn(2)
		case 2:
			l[band] = max(0, min(to[band]+r.Intn(5)-2, 26))
		}
	}
	return l
}

// chapterCeiling goes the powers of two through, in numbers without end.
func chapterCeiling(n int32) int {
	size, power, ceiling := new(big.Int).Abs(big.NewInt(int64(n))), big.NewInt(1), 0
	for power.Cmp(size) <= 0 {
		power.Lsh(power, 1)
		ceiling++
	}
	return ceiling
}

func ceilings(t *testing.T, lines []int32) []int {
	t.Helper()
	l, err := energy.Ceilings(lines)
	if err != api.OK || len(l) != 21 {
		t.Fatalf("Ceilings: %v, %d", l, err)
	}
	return l
}

func put(t *testing.T, e *rangeenc.Encoder, l []int, ahead ...int) {
	t.Helper()
	if err := energy.Put(e, l, ahead...); err != api.OK {
		t.Fatalf("Put(%v, %v): %d", l, ahead, err)
	}
}

func get(t *testing.T, d *rangedec.Decoder, ahead ...int) []int {
	t.Helper()
	l, err := energy.Get(d, ahead...)
	if err != api.OK {
		t.Fatalf("Get(%v): %v, %d", ahead, l, err)
	}
	return l
}

// refused tells whether an answer is an error, and nothing else.
func refused(want api.Errno) func(l []int, err api.Errno) bool {
	return func(l []int, err api.Errno) bool { return len(l) == 0 && err == want }
}

// powers are numbers about each power of two, and the least and the greatest one, with their ceilings.
var powers = []struct {
	n       int32
	ceiling int
}{
	{0, 0}, {1, 1}, {2, 2}, {3, 2}, {4, 3}, {7, 3}, {8, 4}, {15, 4}, {16, 5}, {31, 5}, {32, 6}, {63, 6}, {64, 7}, {127, 7}, {128, 8},
	{255, 8}, {256, 9}, {1000, 10}, {1023, 10}, {1024, 11}, {32767, 15}, {32768, 16}, {65535, 16}, {65536, 17}, {1<<20 - 1, 20}, {1 << 20, 21},
	{1<<24 - 1, 24}, {1 << 24, 25}, {1<<25 - 1, 25}, {1 << 25, 26}, {1<<26 - 1, 26}, {1 << 26, 27}, {1<<30 - 1, 30}, {1 << 30, 31},
	{math.MaxInt32, 31}, {-math.MaxInt32, 31}, {math.MinInt32, 32},
}

// P10.1: a frame of one line that isn't 0, at each place, and whichever sign.
func TestCeilingsOfOneLine(t *testing.T) {
	for band := range 21 {
		for line := chapterEdges[band]; line < chapterEdges[band+1]; line++ {
			for _, p := range powers {
				for _, n := range []int32{p.n, -p.n} {
					lines, want := make([]int32, 512), make([]int, 21)
					lines[line], want[band] = n, p.ceiling
					if got := ceilings(t, lines); !slices.Equal(got, want) {
						t.Fatalf("%d at %d: %v, not %v", n, line, got, want)
					}
				}
			}
		}
	}
}

// P10.1: the greatest line of a band decides, wherever it is, and whichever sign; others' bits are not laid together with its own.
func TestTheGreatestLineDecides(t *testing.T) {
	for band := range 21 {
		first, end := chapterEdges[band], chapterEdges[band+1]
		for _, line := range []int{first, first + 1, end - 2, end - 1} {
			for _, c := range []struct {
				greatest, others int32
				ceiling          int
			}{{4, 3, 3}, {-4, 3, 3}, {4, -3, 3}, {-4, -3, 3}, {5, 2, 3}, {-8, 7, 4}, {8, -7, 4}, {1, 0, 1}, {-1, 0, 1}, {1 << 25, 1<<25 - 1, 26}, {-1 << 25, 1<<25 - 1, 26}, {-1, -1, 1}} {
				lines, want := make([]int32, 512), make([]int, 21)
				for i := first; i < end; i++ {
					lines[i] = c.others
				}
				lines[line], want[band] = c.greatest, c.ceiling
				if got := ceilings(t, lines); !slices.Equal(got, want) {
					t.Fatalf("%d at %d amid %d: %v, not %v", c.greatest, line, c.others, got, want)
				}
			}
		}
	}
}

// P10.1: lines of all kinds; of up to 26 bits ceilings are right, of more they are what they are.
func TestCeilings(t *testing.T) {
	r := rand.New(rand.NewSource(1))
	for range 3000 {
		lines := make([]int32, 512)
		most := 1 + r.Intn(32)
		for i := range lines {
			lines[i] = int32(r.Uint32()) >> (32 - 1 - r.Intn(most))
		}
		want := make([]int, 21)
		for band := range want {
			for i := chapterEdges[band]; i < chapterEdges[band+1]; i++ {
				want[band] = max(want[band], chapterCeiling(lines[i]))
			}
		}
		got := ceilings(t, lines)
		if !slices.Equal(got, want) {
			t.Fatalf("%v: %v, not %v", lines, got, want)
		}
		if energy.Right(got) != (slices.Max(want) <= 26) {
			t.Fatalf("%v: Right is %t", got, energy.Right(got))
		}
	}
}

// P10.1: the widest lines of 26 bits, and wider ones; nothing is held.
func TestCeilingsOfWideLines(t *testing.T) {
	for _, c := range []struct {
		n       int32
		ceiling int
		right   bool
	}{{1<<25 - 1, 25, true}, {-1 << 25, 26, true}, {1<<26 - 1, 26, true}, {1 << 26, 27, false}, {-1 << 26, 27, false}, {math.MaxInt32, 31, false}, {math.MinInt32, 32, false}} {
		got := ceilings(t, slices.Repeat([]int32{c.n}, 512))
		if !slices.Equal(got, slices.Repeat([]int{c.ceiling}, 21)) || energy.Right(got) != c.right {
			t.Errorf("%d everywhere: %v, right: %t", c.n, got, energy.Right(got))
		}
	}
}

// The chapter's example: of silence all ceilings are 0.
func TestSilence(t *testing.T) {
	if got := ceilings(t, make([]int32, 512)); !slices.Equal(got, none) || !energy.Right(got) {
		t.Error(got)
	}
}

// P10.1: another number of lines.
func TestOtherNumbersOfLines(t *testing.T) {
	for count := range 1500 {
		if count != 512 && !refused(api.ErrArg)(energy.Ceilings(make([]int32, count, 2000))) {
			t.Errorf("Ceilings takes %d lines", count)
		}
	}
	if !refused(api.ErrArg)(energy.Ceilings(nil)) || !refused(api.ErrArg)(energy.Ceilings(make([]int32, 1<<20))) {
		t.Error("Ceilings takes none, or many")
	}
}

// P10.1: each number at each place, and other lengths.
func TestRight(t *testing.T) {
	for _, l := range [][]int{some, near, none, most, up, down} {
		if !energy.Right(l) {
			t.Error("not right:", l)
		}
	}
	for place := range 21 {
		for n := -100; n <= 100; n++ {
			l := slices.Clone(some)
			l[place] = n
			if energy.Right(l) != (0 <= n && n <= 26) {
				t.Errorf("%d at %d: %t", n, place, energy.Right(l))
			}
		}
	}
	for _, l := range append(wrongs(), nil, []int{}, make([]int, 20, 21), make([]int, 512)) {
		if energy.Right(l) {
			t.Error("right:", l)
		}
	}
}

// P10.2: ceilings by themselves, by those ahead, and both behind each other. These bytes were reckoned apart from this program.
func TestBytes(t *testing.T) {
	type frame struct{ l, ahead []int }
	for i, c := range []struct {
		want   string
		frames []frame
	}{
		{"", []frame{{none, nil}}},
		{"d6b5ad366fffffffffffffffff94a530", []frame{{most, nil}}},
		{"00443213b42108421084210841b9ac60", []frame{{up, nil}}},
		{"d6717b22bbdef7bdef7bdef7bddaf8d0", []frame{{down, nil}}},
		{"d668d5fdbbe6f9de7b9bdeb7def7df", []frame{{some, nil}}},
		{"", []frame{{none, none}}},
		{"", []frame{{most, most}}},
		{"b15dc10fdd2d8a8c40eb8ed47383d28a53dea566ee0937c220a380", []frame{{none, most}}},
		{"b86b26e4b9b1a46a21e937e17aa71779f16a4c4bfa0b9ebf288d80", []frame{{most, none}}},
		{"b15e00b92ac659df89a2d1b4534b92d470f79194f0cddb61c8", []frame{{up, down}}},
		{"b86ae73b6c18d516d931f5019adf5573c7bd5e08d03fb202a8", []frame{{down, up}}},
		{"d8571af59bcc1c95c8", []frame{{near, some}}},
		{"7d7a9b0234e46df016", []frame{{some, near}}},
		{"d668d5fdbbe6f9de7b9bdeb7df640a61fbaf8861f1d0f56f48dedf9e658c52bd90a0d970d2e89538d4177b6c", []frame{{some, nil}, {near, some}, {down, near}}},
	} {
		e := rangeenc.New()
		for _, f := range c.frames {
			put(t, e, f.l, f.ahead...)
		}
		if got := hex.EncodeToString(e.Bytes()); got != c.want {
			t.Errorf("%d: %s, not %s", i, got, c.want)
		}
		b, _ := hex.DecodeString(c.want)
		d := rangedec.New(b)
		for _, f := range c.frames {
			if got := get(t, d, f.ahead...); !slices.Equal(got, f.l) {
				t.Errorf("%d: %v, not %v", i, got, f.l)
			}
		}
	}
}

// chapterModel is the model of differences.
func chapterModel(t *testing.T) *model.Model {
	t.Helper()
	m, err := model.Fixed(chapterOften...)
	if err != api.OK {
		t.Fatal(err)
	}
	return m
}

// chapterPut puts ceilings as the chapter says it, by layer 6's Put alone.
func chapterPut(e *rangeenc.Encoder, l, ahead []int) {
	for band, n := range l {
		if len(ahead) == 0 {
			e.Put(model.Part{Low: uint32(n), Own: 1, All: 32})
			continue
		}
		symbol := ((n-ahead[band])%32 + 32) % 32
		p := model.Part{Own: chapterOften[symbol]}
		for other, often := range chapterOften {
			p.All += often
			if other < symbol {
				p.Low += often
			}
		}
		e.Put(p)
	}
}

// follow asks decoder and other for what follows: both must stand alike.
func follow(t *testing.T, d, other *rangedec.Decoder) {
	t.Helper()
	for wide := range 25 {
		n, err := d.Bits(wide)
		if want, _ := other.Bits(wide); n != want || err != api.OK || d.Over() != other.Over() {
			t.Fatalf("%d bits that follow: %d, %d, not %d; %d over, not %d", wide, n, err, want, d.Over(), other.Over())
		}
	}
}

// P10.2: frame by frame, other numbers ahead, between and behind; all is put, and got, as the chapter says.
func TestPutAndGet(t *testing.T) {
	r := rand.New(rand.NewSource(2))
	for range 400 {
		e, other := rangeenc.New(), rangeenc.New()
		var frames, aheads [][]int
		last := some
		for range 1 + r.Intn(6) {
			l := anyRight(r, last)
			var ahead []int
			if r.Intn(3) > 0 {
				ahead = last
			}
			for _, x := range []*rangeenc.Encoder{e, other} {
				x.Bits(uint32(len(frames)), 7)
			}
			put(t, e, l, ahead...)
			chapterPut(other, l, ahead)
			if !bytes.Equal(e.Bytes(), other.Bytes()) || e.Len() != other.Len() {
				t.Fatalf("Put(%v, %v): %x, not %x", l, ahead, e.Bytes(), other.Bytes())
			}
			frames, aheads, last = append(frames, l), append(aheads, ahead), l
		}
		e.Bits(12345, 24)
		d := rangedec.New(e.Bytes())
		for i, l := range frames {
			if n, _ := d.Bits(7); n != uint32(i) {
				t.Fatalf("frame %d: %d ahead", i, n)
			}
			if got := get(t, d, aheads[i]...); !slices.Equal(got, l) {
				t.Fatalf("Get(%v): %v, not %v", aheads[i], got, l)
			}
		}
		if n, _ := d.Bits(24); n != 12345 {
			t.Fatal("behind:", n)
		}
	}
}

// P10.3: each ceiling behind each, in each band, by itself and by the one ahead.
func TestWhatIsPutIsGot(t *testing.T) {
	for n := range 27 {
		for before := range 27 {
			for band := range 21 {
				l, ahead := slices.Clone(some), slices.Clone(near)
				l[band], ahead[band] = n, before
				e := rangeenc.New()
				put(t, e, l)
				put(t, e, ahead, l...)
				put(t, e, l, ahead...)
				d := rangedec.New(e.Bytes())
				for i, want := range []struct{ l, ahead []int }{{l, nil}, {ahead, l}, {l, ahead}} {
					if got := get(t, d, want.ahead...); !slices.Equal(got, want.l) {
						t.Fatalf("%d: Get(%v): %v, not %v", i, want.ahead, got, want.l)
					}
				}
			}
		}
	}
}

// P10.2: without ahead a list may be nil, or empty.
func TestNoneAhead(t *testing.T) {
	e := rangeenc.New()
	put(t, e, some)
	want := e.Bytes()
	for _, ahead := range [][]int{nil, {}, make([]int, 0, 21)} {
		e := rangeenc.New()
		put(t, e, some, ahead...)
		if !bytes.Equal(e.Bytes(), want) {
			t.Errorf("%v ahead: %x, not %x", ahead, e.Bytes(), want)
		}
		if got := get(t, rangedec.New(want), ahead...); !slices.Equal(got, some) {
			t.Errorf("%v ahead: %v", ahead, got)
		}
	}
}

// P10.2: differences cost what the model says, however often they came; it never learns.
func TestTheModelNeverLearns(t *testing.T) {
	e, other := rangeenc.New(), rangeenc.New()
	for range 300 {
		put(t, e, some, some...)
		put(t, e, near, some...)
		put(t, e, down, up...)
		chapterPut(other, some, some)
		chapterPut(other, near, some)
		chapterPut(other, down, up)
	}
	if !bytes.Equal(e.Bytes(), other.Bytes()) {
		t.Fatal("other bytes")
	}
	d := rangedec.New(e.Bytes())
	for i := range 300 {
		if !slices.Equal(get(t, d, some...), some) || !slices.Equal(get(t, d, some...), near) || !slices.Equal(get(t, d, up...), down) {
			t.Fatal("others are got, in turn", i)
		}
	}
}

// P10.2: what Put refuses; nothing is put then.
func TestPutRefuses(t *testing.T) {
	e := rangeenc.New()
	put(t, e, near)
	want, long := e.Bytes(), e.Len()
	refuses := func(l []int, ahead ...int) {
		t.Helper()
		if err := energy.Put(e, l, ahead...); err != api.ErrArg {
			t.Errorf("Put(%v, %v): %d", l, ahead, err)
		}
		if !bytes.Equal(e.Bytes(), want) || e.Len() != long {
			t.Fatalf("Put(%v, %v) puts: %x, not %x", l, ahead, e.Bytes(), want)
		}
	}
	refuses(nil)
	refuses([]int{})
	refuses(nil, some...)
	refuses([]int{}, some...)
	for _, wrong := range wrongs() {
		refuses(wrong)
		refuses(wrong, some...)
		refuses(some, wrong...)
		refuses(wrong, wrong...)
	}
	put(t, e, some, near...)
	d := rangedec.New(e.Bytes())
	if !slices.Equal(get(t, d), near) || !slices.Equal(get(t, d, near...), some) {
		t.Error("it doesn't go on where it was")
	}
}

// P10.2: what Get refuses; nothing is taken then.
func TestGetRefuses(t *testing.T) {
	e := rangeenc.New()
	put(t, e, some)
	put(t, e, near, some...)
	d := rangedec.New(e.Bytes())
	refuses := func(ahead ...int) {
		t.Helper()
		if over := d.Over(); !refused(api.ErrArg)(energy.Get(d, ahead...)) || d.Over() != over {
			t.Errorf("Get takes %v", ahead)
		}
	}
	for _, wrong := range wrongs() {
		refuses(wrong...)
	}
	if got := get(t, d); !slices.Equal(got, some) {
		t.Fatal(got)
	}
	for _, wrong := range wrongs() {
		refuses(wrong...)
	}
	if got := get(t, d, some...); !slices.Equal(got, near) {
		t.Fatal(got)
	}
}

// P10.2: no encoder, and no decoder.
func TestNilOnes(t *testing.T) {
	for _, l := range append(wrongs(), nil, some, near, none, most) {
		if energy.Put(nil, l) != api.ErrArg || energy.Put(nil, l, l...) != api.ErrArg || energy.Put(nil, some, l...) != api.ErrArg {
			t.Error("a nil encoder takes", l)
		}
		if !refused(api.ErrArg)(energy.Get(nil, l...)) {
			t.Error("a nil decoder, by", l)
		}
	}
	if energy.Put(nil, some) != api.ErrArg || !refused(api.ErrArg)(energy.Get(nil)) {
		t.Error("nil ones take something")
	}
}

// P10.2: numbers of five bits that are no ceilings, in each band; all of them are taken.
func TestNumbersThatAreTooGreat(t *testing.T) {
	for band := range 21 {
		for n := range 32 {
			e := rangeenc.New()
			want := slices.Clone(some)
			want[band] = n
			for _, x := range want {
				e.Bits(uint32(x), 5)
			}
			e.Bits(54321, 20)
			d := rangedec.New(e.Bytes())
			l, err := energy.Get(d)
			if n <= 26 && (err != api.OK || !slices.Equal(l, want)) || n > 26 && !refused(api.ErrForm)(l, err) {
				t.Errorf("%d in band %d: %v, %d", n, band, l, err)
			}
			if behind, _ := d.Bits(20); behind != 54321 {
				t.Errorf("%d in band %d: %d behind", n, band, behind)
			}
		}
	}
}

// P10.2: each symbol behind each ceiling, in each band; modulo 32 it may be none. All of them are taken.
func TestDifferencesThatAreTooGreat(t *testing.T) {
	m := chapterModel(t)
	for band := range 21 {
		for before := range 27 {
			for symbol := range 32 {
				ahead, want := slices.Clone(near), slices.Clone(near)
				ahead[band] = before
				want[band] = (before + symbol) % 32
				e := rangeenc.New()
				for i := range 21 {
					if i == band {
						e.Symbol(m, symbol)
					} else {
						e.Symbol(m, 0)
					}
				}
				e.Bits(54321, 20)
				d := rangedec.New(e.Bytes())
				l, err := energy.Get(d, ahead...)
				if want[band] <= 26 && (err != api.OK || !slices.Equal(l, want)) || want[band] > 26 && !refused(api.ErrForm)(l, err) {
					t.Fatalf("%d and %d in band %d: %v, %d", before, symbol, band, l, err)
				}
				if behind, _ := d.Bits(20); behind != 54321 {
					t.Fatalf("%d and %d in band %d: %d behind", before, symbol, band, behind)
				}
			}
		}
	}
}

// P10.2, and P1: of any bytes, cut ones among them, come ceilings, or ErrForm; the decoder is behind all bands either way.
func TestAnyBytes(t *testing.T) {
	r := rand.New(rand.NewSource(3))
	m := chapterModel(t)
	var right, wrong int
	for i := range 6000 {
		b := make([]byte, r.Intn(20))
		for k := range b {
			b[k] = byte(r.Intn(256))
			if i%4 == 0 { // near to 0 or 26, so that ceilings are right more often
				b[k] &= 51
			}
		}
		var ahead []int
		if r.Intn(2) == 1 {
			ahead = anyRight(r, some)
		}
		d, other := rangedec.New(b), rangedec.New(b)
		want := make([]int, 21)
		for band := range want {
			if ahead == nil {
				n, _ := other.Bits(5)
				want[band] = int(n)
			} else {
				symbol, _ := other.Symbol(m)
				want[band] = (ahead[band] + symbol) % 32
			}
		}
		l, err := energy.Get(d, ahead...)
		if slices.Max(want) <= 26 {
			right++
			if err != api.OK || !slices.Equal(l, want) {
				t.Fatalf("of %x, by %v: %v, %d, not %v", b, ahead, l, err, want)
			}
		} else {
			wrong++
			if !refused(api.ErrForm)(l, err) {
				t.Fatalf("of %x, by %v: %v, %d, of %v", b, ahead, l, err, want)
			}
		}
		follow(t, d, other)
	}
	if right < 100 || wrong < 100 {
		t.Errorf("%d right, %d wrong: too few", right, wrong)
	}
}

// P10.2: behind bytes there are noughts: of none come noughts, or the ceilings ahead.
func TestNoBytes(t *testing.T) {
	for _, d := range []*rangedec.Decoder{rangedec.New(nil), rangedec.New([]byte{}), rangedec.New([]byte{0}), rangedec.New(make([]byte, 40))} {
		for range 3 {
			if got := get(t, d); !slices.Equal(got, none) {
				t.Error(got)
			}
			for _, ahead := range [][]int{some, near, none, most} {
				if got := get(t, d, ahead...); !slices.Equal(got, ahead) {
					t.Errorf("by %v: %v", ahead, got)
				}
			}
		}
	}
	if !refused(api.ErrForm)(energy.Get(rangedec.New(slices.Repeat([]byte{255}, 20)))) {
		t.Error("31 is a ceiling")
	}
}

// P1: of any numbers each call ends, and none panics, also of an encoder and a decoder as they are declared.
func TestNothingPanics(t *testing.T) {
	r := rand.New(rand.NewSource(4))
	for _, count := range []int{0, 1, 2, 20, 21, 22, 42, 511, 512, 513, 4096} {
		for range 20 {
			lines, l, ahead := make([]int32, count), make([]int, count), make([]int, count)
			for i := range count {
				lines[i], l[i], ahead[i] = int32(r.Uint32()), int(r.Uint64()), int(r.Uint64())
			}
			energy.Ceilings(lines)
			energy.Right(l)
			var e rangeenc.Encoder
			var d rangedec.Decoder
			energy.Put(&e, l, ahead...)
			energy.Put(&e, some, ahead...)
			energy.Put(&e, l, some...)
			energy.Get(&d, ahead...)
		}
	}
	var e rangeenc.Encoder
	put(t, &e, some, near...)
	if got := get(t, rangedec.New(e.Bytes()), near...); !slices.Equal(got, some) {
		t.Error(got)
	}
	var d rangedec.Decoder
	if got := get(t, &d, near...); !slices.Equal(got, near) {
		t.Error(got)
	}
}

// roomy is a list, and behind its length something else.
func roomy[T any](l []T, behind T) []T {
	return append(slices.Clone(l), behind, behind, behind)[:len(l)]
}

// The document's third rule: what is handed in isn't changed or kept, what lies behind its length is neither read nor written, and nothing is shared.
func TestListsAreApart(t *testing.T) {
	lines := make([]int32, 512)
	for i := range lines {
		lines[i] = int32(i*i) - 1000
	}
	room := roomy(lines, math.MaxInt32)
	first := ceilings(t, room)
	want := slices.Clone(first)
	if !slices.Equal(room, lines) || room[:513][512] != math.MaxInt32 {
		t.Error("Ceilings changes lines")
	}
	clear(room)
	if !slices.Equal(first, want) {
		t.Error("Ceilings shares")
	}
	clear(first[:cap(first)])
	if !slices.Equal(ceilings(t, lines), want) {
		t.Error("Ceilings keeps its answer")
	}

	e := rangeenc.New()
	l, ahead := roomy(some, 99), roomy(near, 99)
	put(t, e, l, ahead...)
	put(t, e, l, l...)
	energy.Right(l)
	energy.Put(e, l[:22], ahead...)
	energy.Put(e, l, ahead[:22]...)
	checkRoom(t, l, some)
	checkRoom(t, ahead, near)
	b := e.Bytes()
	clear(l)
	clear(ahead)
	if !bytes.Equal(e.Bytes(), b) {
		t.Error("Put keeps lists")
	}

	ahead = roomy(near, 99)
	d := rangedec.New(b)
	got := get(t, d, ahead...)
	checkRoom(t, ahead, near)
	clear(ahead)
	if !slices.Equal(got, some) {
		t.Error("Get shares:", got)
	}
	ahead = roomy(some, 99)
	got = get(t, d, ahead...)
	clear(got[:cap(got)])
	checkRoom(t, ahead, some)
	if got := get(t, rangedec.New(b), near...); !slices.Equal(got, some) {
		t.Error("Get keeps its answer:", got)
	}
}

// checkRoom tells of a roomy list, with 99 behind, whether it is as it was.
func checkRoom(t *testing.T, l, want []int) {
	t.Helper()
	if !slices.Equal(l, want) || !slices.Equal(l[:24][21:], []int{99, 99, 99}) {
		t.Error("a list is changed:", l[:24])
	}
}

// answers are those of all calls, of some frames.
func answers() []int {
	r := rand.New(rand.NewSource(5))
	var all []int
	e := rangeenc.New()
	last := some
	for i := range 20 {
		l := anyRight(r, last)
		if i == 0 {
			energy.Put(e, l)
		} else {
			energy.Put(e, l, last...)
		}
		lines := make([]int32, bands.Lines)
		for i := range lines {
			lines[i] = int32(r.Uint32()) >> r.Intn(32)
		}
		c, err := energy.Ceilings(lines)
		all = append(append(all, int(err), e.Len()), c...)
		last = l
	}
	d := rangedec.New(e.Bytes())
	last = nil
	for range 20 {
		l, err := energy.Get(d, last...)
		all = append(append(all, int(err)), l...)
		last = l
	}
	return all
}

// P2: an answer hangs on nothing but what was given: neither on others ahead of it nor on those beside it.
func TestAnswersStayTheSame(t *testing.T) {
	want := answers()
	if !slices.Equal(answers(), want) {
		t.Error("another answer behind the first one")
	}
	var got [8][]int
	var all sync.WaitGroup
	for i := range got {
		all.Go(func() { got[i] = answers() })
	}
	all.Wait()
	for i := range got {
		if !slices.Equal(got[i], want) {
			t.Error("another answer", i)
		}
	}
}

package model_test

import (
	"math"
	"math/rand"
	"slices"
	"sync"
	"testing"

	"sideband/api"
	"sideband/model"
)

// chapterModel is a model as the chapter's words say it, of numbers that have room enough.
type chapterModel struct {
	often  []int64
	learns bool
}

func (c chapterModel) low(symbol int) int64 {
	var low int64
	for lesser := 0; lesser < symbol; lesser++ {
		low += c.often[lesser]
	}
	return low
}

func (c chapterModel) has(symbol int) bool { return symbol >= 0 && symbol < len(c.often) }

func (c chapterModel) part(symbol int) (model.Part, api.Errno) {
	if !c.has(symbol) {
		return model.Part{}, api.ErrArg
	}
	return model.Part{Low: uint32(c.low(symbol)), Own: uint32(c.often[symbol]), All: uint32(c.low(len(c.often)))}, api.OK
}

func (c chapterModel) find(at uint32) int {
	for symbol := range c.often {
		if c.low(symbol)+c.often[symbol] > int64(at) {
			return symbol
		}
	}
	return len(c.often) - 1
}

func (c chapterModel) learn(symbol int) api.Errno {
	if !c.has(symbol) {
		return api.ErrArg
	}
	if c.learns {
		c.often[symbol] += 32
		if c.low(len(c.often)) > 8192 {
			for i, n := range c.often {
				c.often[i] = n/2 + n%2
			}
		}
	}
	return api.OK
}

// chapterNew is New's, of so many symbols as there may be.
func chapterNew(n int) chapterModel {
	return chapterModel{often: slices.Repeat([]int64{1}, n), learns: true}
}

func chapterFixed(often ...uint32) chapterModel {
	var c chapterModel
	for _, n := range often {
		c.often = append(c.often, int64(n))
	}
	return c
}

// noSymbols are numbers that no model of n symbols has.
func noSymbols(n int) []int {
	return []int{-1, -2, -n, -n - 1, n, n + 1, n + 64, n + 256, n + 1<<32, 1 << 32, 1<<32 + 1, -1 << 32, math.MaxInt, math.MaxInt - 1, math.MinInt, math.MinInt + 1}
}

// places are numbers to be found: those about each end of a part, and far ones.
func places(c chapterModel) []uint32 {
	l := []uint32{0, 1, 8191, 8192, 8193, 9999, 65535, 65536, 1 << 31, math.MaxInt32, math.MaxUint32 - 1, math.MaxUint32}
	for symbol := range len(c.often) + 1 {
		low := uint32(c.low(symbol))
		l = append(l, low, low+1)
		if low > 0 {
			l = append(l, low-1)
		}
	}
	return l
}

// check holds a model against the chapter's.
func check(t *testing.T, m *model.Model, c chapterModel) {
	t.Helper()
	if m.Len() != len(c.often) {
		t.Fatalf("%d symbols, not %d", m.Len(), len(c.often))
	}
	for symbol := -2; symbol < len(c.often)+3; symbol++ {
		got, e := m.Part(symbol)
		want, wantE := c.part(symbol)
		if got != want || e != wantE {
			t.Fatalf("the part of %d of %v: %v, %d, not %v, %d", symbol, c.often, got, e, want, wantE)
		}
	}
	for _, at := range places(c) {
		if got, want := m.Find(at), c.find(at); got != want {
			t.Fatalf("Find(%d) of %v: %d, not %d", at, c.often, got, want)
		}
	}
}

func newModel(t *testing.T, n int) *model.Model {
	t.Helper()
	m, e := model.New(n)
	if m == nil || e != api.OK {
		t.Fatalf("New(%d): %v, %d", n, m, e)
	}
	return m
}

func fixedModel(t *testing.T, often ...uint32) *model.Model {
	t.Helper()
	m, e := model.Fixed(often...)
	if m == nil || e != api.OK {
		t.Fatalf("Fixed(%v): %v, %d", often, m, e)
	}
	return m
}

// P5.1: New.
func TestNew(t *testing.T) {
	for n := 1; n <= 64; n++ {
		m := newModel(t, n)
		check(t, m, chapterNew(n))
		for symbol := range n {
			if p, e := m.Part(symbol); e != api.OK || p != (model.Part{Low: uint32(symbol), Own: 1, All: uint32(n)}) {
				t.Errorf("New(%d): the part of %d is %v, %d", n, symbol, p, e)
			}
		}
	}
}

func TestNewOfNoSuchNumber(t *testing.T) {
	for _, n := range []int{0, -1, -64, 65, 66, 128, 256, 1 << 32, 1<<32 + 1, 1<<32 + 64, -1<<32 + 1, math.MaxInt, math.MinInt, math.MinInt + 1} {
		if m, e := model.New(n); m != nil || e != api.ErrArg {
			t.Errorf("New(%d): %v, %d", n, m, e)
		}
	}
}

// fixed are lists of which there are models.
func fixed() [][]uint32 {
	differences := slices.Repeat([]uint32{10}, 32)
	for i, n := range map[int]uint32{0: 3000, 1: 1500, 31: 1500, 2: 500, 30: 500} {
		differences[i] = n
	}
	rising := make([]uint32, 64)
	for i := range rising {
		rising[i] = uint32(i + 1)
	}
	return [][]uint32{
		{1}, {2}, {8191}, {8192}, {1, 1}, {1, 8191}, {8191, 1}, {4096, 4096}, {5, 1, 8186}, {3000, 500},
		slices.Repeat([]uint32{1}, 64), slices.Repeat([]uint32{128}, 64), slices.Repeat([]uint32{1}, 63),
		append(slices.Repeat([]uint32{1}, 63), 8192-63), append([]uint32{8192 - 63}, slices.Repeat([]uint32{1}, 63)...),
		differences, rising,
	}
}

// P5.1: Fixed.
func TestFixed(t *testing.T) {
	for _, often := range fixed() {
		check(t, fixedModel(t, often...), chapterFixed(often...))
	}
}

func TestFixedOfWhatMayNotBe(t *testing.T) {
	tooMany := append(slices.Repeat([]uint32{128}, 63), 129)
	for _, often := range [][]uint32{
		nil, {}, {0}, {0, 1}, {1, 0}, {1, 0, 1}, {0, 0}, {8192, 0}, {0, 8193},
		slices.Repeat([]uint32{1}, 65), slices.Repeat([]uint32{1}, 66), slices.Repeat([]uint32{1}, 256), make([]uint32, 64), make([]uint32, 65),
		append(slices.Repeat([]uint32{1}, 63), 0), append([]uint32{0}, slices.Repeat([]uint32{1}, 63)...),
		{8193}, {8192, 1}, {1, 8192}, {4096, 4097}, {5, 1, 8187}, {8191, 1, 1}, tooMany, {65537}, {1 << 16},
		// Together, in thirty-two bits, these would be no more than there may be.
		{math.MaxUint32}, {math.MaxUint32, 1}, {math.MaxUint32, 2}, {1, math.MaxUint32}, {2, math.MaxUint32}, {1 << 31, 1 << 31}, {1 << 31, 1 << 31, 1}, {1<<32 - 8192, 8192}, {1<<32 - 8192, 8192, 5}, {5, 1<<32 - 8192, 8192},
		slices.Repeat([]uint32{1 << 26}, 64), slices.Repeat([]uint32{1<<26 + 1}, 64),
	} {
		if m, e := model.Fixed(often...); m != nil || e != api.ErrArg {
			t.Errorf("Fixed(%v): %v, %d", often, m, e)
		}
	}
}

// P5.2: Part; the parts of all symbols lie one behind the other.
func TestPart(t *testing.T) {
	m := fixedModel(t, 5, 1, 8186)
	for symbol, want := range []model.Part{{Low: 0, Own: 5, All: 8192}, {Low: 5, Own: 1, All: 8192}, {Low: 6, Own: 8186, All: 8192}} {
		if p, e := m.Part(symbol); p != want || e != api.OK {
			t.Errorf("the part of %d: %v, %d, not %v", symbol, p, e, want)
		}
	}
}

func TestPartOfNoSymbol(t *testing.T) {
	for n := 1; n <= 64; n++ {
		m, f := newModel(t, n), fixedModel(t, slices.Repeat([]uint32{7}, n)...)
		for _, symbol := range noSymbols(n) {
			if p, e := m.Part(symbol); p != (model.Part{}) || e != api.ErrArg {
				t.Errorf("New(%d): the part of %d is %v, %d", n, symbol, p, e)
			}
			if p, e := f.Part(symbol); p != (model.Part{}) || e != api.ErrArg {
				t.Errorf("Fixed of %d: the part of %d is %v, %d", n, symbol, p, e)
			}
		}
	}
}

// P5.2: Find.
func TestFind(t *testing.T) {
	m := fixedModel(t, 5, 1, 10)
	for _, c := range []struct {
		at   uint32
		want int
	}{{0, 0}, {4, 0}, {5, 1}, {6, 2}, {15, 2}, {16, 2}, {17, 2}, {8191, 2}, {8192, 2}, {9999, 2}, {1 << 31, 2}, {math.MaxUint32, 2}} {
		if got := m.Find(c.at); got != c.want {
			t.Errorf("Find(%d) = %d, not %d", c.at, got, c.want)
		}
	}
}

// P5.2: each number below all is in the part of the symbol that is found, and of no other.
func TestFindAllPlaces(t *testing.T) {
	for _, often := range fixed() {
		m, c := fixedModel(t, often...), chapterFixed(often...)
		for at := range uint32(8200) {
			found := m.Find(at)
			p, e := m.Part(found)
			if at < p.All && (at < p.Low || at >= p.Low+p.Own) || at >= p.All && found != len(often)-1 || e != api.OK {
				t.Fatalf("Find(%d) of %v: %d, whose part is %v, %d", at, often, found, p, e)
			}
		}
		check(t, m, c)
	}
}

// P5.2: Learn. These numbers are the chapter's.
func TestLearn(t *testing.T) {
	m := newModel(t, 3)
	if e := m.Learn(1); e != api.OK {
		t.Fatal(e)
	}
	for symbol, want := range []model.Part{{Low: 0, Own: 1, All: 35}, {Low: 1, Own: 33, All: 35}, {Low: 34, Own: 1, All: 35}} {
		if p, e := m.Part(symbol); p != want || e != api.OK {
			t.Errorf("the part of %d: %v, %d, not %v", symbol, p, e, want)
		}
	}
	for at, want := range map[uint32]int{0: 0, 1: 1, 33: 1, 34: 2, 35: 2} {
		if got := m.Find(at); got != want {
			t.Errorf("Find(%d) = %d, not %d", at, got, want)
		}
	}
}

// P5.2: each comes half as often only where all are more than 8192 together; at 8192 none does.
func TestLearnUpToAll(t *testing.T) {
	for _, c := range []struct {
		symbols, times int
		full, halved   model.Part // of symbol 0, ahead of the Learn that is too many, and behind it
	}{
		{1, 255, model.Part{Own: 8161, All: 8161}, model.Part{Own: 4097, All: 4097}},
		{2, 255, model.Part{Own: 8161, All: 8162}, model.Part{Own: 4097, All: 4098}},
		{31, 255, model.Part{Own: 8161, All: 8191}, model.Part{Own: 4097, All: 4127}},
		{32, 255, model.Part{Own: 8161, All: 8192}, model.Part{Own: 4097, All: 4128}},
		{33, 254, model.Part{Own: 8129, All: 8161}, model.Part{Own: 4081, All: 4113}},
		{63, 254, model.Part{Own: 8129, All: 8191}, model.Part{Own: 4081, All: 4143}},
		{64, 254, model.Part{Own: 8129, All: 8192}, model.Part{Own: 4081, All: 4144}},
	} {
		m := newModel(t, c.symbols)
		for range c.times {
			m.Learn(0)
		}
		if p, e := m.Part(0); p != c.full || e != api.OK {
			t.Errorf("%d symbols: %v, %d, not %v", c.symbols, p, e, c.full)
		}
		m.Learn(0)
		if p, e := m.Part(0); p != c.halved || e != api.OK {
			t.Errorf("%d symbols, once more: %v, %d, not %v", c.symbols, p, e, c.halved)
		}
	}
}

// P5.2: the half is rounded upwards, so that none comes no more.
func TestHalfUpwards(t *testing.T) {
	m := newModel(t, 4)
	for _, c := range []struct {
		symbol, times int
		often         []int64
	}{
		{2, 255, []int64{1, 1, 8161, 1}},
		{3, 1, []int64{1, 1, 4081, 17}},
		{3, 128, []int64{1, 1, 2041, 2057}},
		{1, 128, []int64{1, 2049, 1021, 1029}},
	} {
		for range c.times {
			m.Learn(c.symbol)
		}
		check(t, m, chapterModel{often: c.often, learns: true})
	}
}

// P5.2: halves upon halves: numbers become even, of which nothing is rounded.
func TestHalvesOfEvenOnes(t *testing.T) {
	m, c := newModel(t, 2), chapterNew(2)
	even := 0
	for i := range 2000 {
		symbol := i / 37 % 2
		for _, n := range c.often {
			if n%2 == 0 {
				even++
			}
		}
		if e := m.Learn(symbol); e != c.learn(symbol) {
			t.Fatal(e)
		}
		check(t, m, c)
	}
	if even < 100 {
		t.Error("there are few even ones:", even)
	}
}

// P5.2: any symbols, of any number of them, by chance, by turns, and one alone.
func TestLearnAny(t *testing.T) {
	r := rand.New(rand.NewSource(1))
	for n := 1; n <= 64; n++ {
		for way, next := range []func(i int) int{
			func(int) int { return r.Intn(n) },
			func(i int) int { return i % n },
			func(int) int { return n - 1 },
			func(int) int { return r.Intn(1 + r.Intn(n)) },
		} {
			m, c := newModel(t, n), chapterNew(n)
			for i := range 1200 {
				symbol := next(i)
				if e := m.Learn(symbol); e != c.learn(symbol) {
					t.Fatalf("%d symbols, way %d: Learn(%d): %d", n, way, symbol, e)
				}
				if i%50 == 0 || i > 240 && i < 262 {
					check(t, m, c)
				}
			}
			check(t, m, c)
		}
	}
}

// Words: of each symbol how often it comes, 1 at least; together at most 8192.
func TestBoundsAreKept(t *testing.T) {
	r := rand.New(rand.NewSource(2))
	for _, n := range []int{1, 2, 13, 32, 63, 64} {
		m := newModel(t, n)
		for range 5000 {
			m.Learn(r.Intn(1 + r.Intn(n)))
			for symbol := range n {
				if p, e := m.Part(symbol); p.Own < 1 || p.All > 8192 || p.Low+p.Own > p.All || e != api.OK {
					t.Fatalf("%d symbols: the part of %d is %v, %d", n, symbol, p, e)
				}
			}
		}
	}
}

// P5.2: what is no symbol isn't learnt.
func TestLearnOfNoSymbol(t *testing.T) {
	for n := 1; n <= 64; n++ {
		m, c := newModel(t, n), chapterNew(n)
		m.Learn(n / 2)
		c.learn(n / 2)
		for _, symbol := range noSymbols(n) {
			if e := m.Learn(symbol); e != api.ErrArg {
				t.Errorf("%d symbols: Learn(%d): %d", n, symbol, e)
			}
		}
		check(t, m, c)
	}
}

// P5.2: a model by Fixed learns nothing, but tells what is no symbol of its.
func TestFixedNeverLearns(t *testing.T) {
	for _, often := range fixed() {
		m, c := fixedModel(t, often...), chapterFixed(often...)
		for range 300 {
			for symbol := range often {
				if e := m.Learn(symbol); e != api.OK {
					t.Fatalf("Fixed(%v): Learn(%d): %d", often, symbol, e)
				}
			}
		}
		for _, symbol := range noSymbols(len(often)) {
			if e := m.Learn(symbol); e != api.ErrArg {
				t.Errorf("Fixed(%v): Learn(%d): %d", often, symbol, e)
			}
		}
		check(t, m, c)
	}
}

// P5.3: a nil model.
func TestNilModel(t *testing.T) {
	var m *model.Model
	for range 2 {
		if m.Len() != 0 {
			t.Error("a nil model has symbols:", m.Len())
		}
		for _, symbol := range append(noSymbols(1), 0, 1, 63) {
			if p, e := m.Part(symbol); p != (model.Part{}) || e != api.ErrArg {
				t.Errorf("a nil model's part of %d: %v, %d", symbol, p, e)
			}
			if e := m.Learn(symbol); e != api.ErrArg {
				t.Errorf("a nil model's Learn(%d): %d", symbol, e)
			}
		}
		for _, at := range places(chapterNew(3)) {
			if got := m.Find(at); got != 0 {
				t.Errorf("a nil model's Find(%d): %d", at, got)
			}
		}
	}
}

// P1: with any arguments each call ends, and none panics, also of a Model that neither New nor Fixed made.
func TestNothingPanics(t *testing.T) {
	models := []*model.Model{nil, {}, new(model.Model), newModel(t, 1), newModel(t, 64), fixedModel(t, 8192)}
	for _, m := range models {
		for _, symbol := range append(noSymbols(1), noSymbols(64)...) {
			m.Len()
			m.Part(symbol)
			m.Learn(symbol)
			m.Find(uint32(symbol))
			model.New(symbol)
			model.Fixed(uint32(symbol), 1)
		}
		for symbol := range 70 {
			m.Part(symbol)
			m.Learn(symbol)
			model.Fixed(make([]uint32, symbol)...)
		}
	}
}

// answers are those of all calls, of models of their own.
func answers() []uint32 {
	var l []uint32
	for _, n := range []int{-1, 1, 2, 13, 64, 65} {
		m, e := model.New(n)
		l = append(l, uint32(e), uint32(m.Len()))
		for i := range 400 {
			symbol := i * i % 70
			l = append(l, uint32(m.Learn(symbol)), uint32(m.Find(uint32(i))))
			p, e := m.Part(symbol)
			l = append(l, p.Low, p.Own, p.All, uint32(e))
		}
	}
	for _, often := range fixed() {
		m, e := model.Fixed(often...)
		p, partE := m.Part(len(often) - 1)
		l = append(l, uint32(e), p.Low, p.Own, p.All, uint32(partE), uint32(m.Find(100)))
	}
	return l
}

// P2: an answer hangs on nothing but what the call was given, and its model told: neither on calls ahead of it nor on those beside it.
func TestAnswersStayTheSame(t *testing.T) {
	want := answers()
	var got [8][]uint32
	var all sync.WaitGroup
	for i := range got {
		all.Go(func() { got[i] = answers() })
	}
	all.Wait()
	for i := range got {
		if !slices.Equal(got[i], want) {
			t.Error("another answer", i)
		}
	}
}

// P2: one model knows nothing of another, nor of a copy; and Part and Find change nothing.
func TestModelsAreApart(t *testing.T) {
	a, b := newModel(t, 5), newModel(t, 5)
	want := chapterNew(5)
	a.Learn(1)
	want.learn(1)
	check(t, b, chapterNew(5))
	c := *a
	c.Learn(2)
	check(t, a, want)
	check(t, a, want)
	want.learn(2)
	check(t, &c, want)
}

// P2, and the document's third rule: a list is neither changed nor kept, and what lies behind its length doesn't count.
func TestListsAreLeftAlone(t *testing.T) {
	often := []uint32{5, 1, 10, 0, math.MaxUint32, 7}
	before := slices.Clone(often)
	m := fixedModel(t, often[:3]...)
	m.Learn(1)
	if !slices.Equal(often, before) {
		t.Error("the list is changed:", often)
	}
	clear(often)
	check(t, m, chapterFixed(5, 1, 10))
	for _, wrong := range [][]uint32{{0, 5}, {8193, 2}} {
		before := slices.Clone(wrong)
		model.Fixed(wrong...)
		if !slices.Equal(wrong, before) {
			t.Error("a wrong list is changed:", wrong)
		}
	}
}

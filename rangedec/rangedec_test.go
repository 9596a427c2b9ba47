package rangedec_test

import (
	"bytes"
	"fmt"
	"math"
	"math/big"
	"math/rand"
	"slices"
	"sync"
	"testing"

	"sideband/api"
	"sideband/model"
	"sideband/rangedec"
	"sideband/rangeenc"
)

// chapterDecoder is a decoder as the chapter's words say it, of numbers without end.
type chapterDecoder struct {
	b       []byte
	taken   int
	missing int
	c, s    *big.Int
}

func chapterNew(b []byte) *chapterDecoder {
	d := &chapterDecoder{b: slices.Clone(b), c: new(big.Int), s: big.NewInt(1<<32 - 1)}
	for range 4 {
		d.next()
	}
	return d
}

// next makes C 256 times as much, with the next byte more.
func (d *chapterDecoder) next() {
	n := 0
	if d.taken < len(d.b) {
		n = int(d.b[d.taken])
	} else {
		d.missing++
	}
	d.taken++
	d.c.Mul(d.c, big.NewInt(256))
	d.c.Add(d.c, big.NewInt(int64(n)))
}

func (d *chapterDecoder) each(all uint32) *big.Int {
	return new(big.Int).Quo(d.s, big.NewInt(int64(all)))
}

func (d *chapterDecoder) lies(all uint32) uint32 {
	at := new(big.Int).Quo(d.c, d.each(all))
	if at.Cmp(big.NewInt(int64(all)-1)) > 0 {
		return all - 1
	}
	return uint32(at.Int64())
}

func (d *chapterDecoder) take(p model.Part) {
	each := d.each(p.All)
	d.c.Sub(d.c, new(big.Int).Mul(each, big.NewInt(int64(p.Low))))
	d.s = new(big.Int).Mul(each, big.NewInt(int64(p.Own)))
	if last := new(big.Int).Sub(d.s, big.NewInt(1)); d.c.Cmp(last) > 0 {
		d.c = last
	}
	for d.s.Cmp(big.NewInt(1<<24)) < 0 {
		d.s.Mul(d.s, big.NewInt(256))
		d.next()
	}
}

// symbol seeks the symbol from the first one on, by the models' parts.
func (d *chapterDecoder) symbol(m *model.Model) int {
	p, _ := m.Part(0)
	at := d.lies(p.All)
	symbol := 0
	for p.Low+p.Own <= at {
		symbol++
		p, _ = m.Part(symbol)
	}
	d.take(p)
	m.Learn(symbol)
	return symbol
}

// bits takes twelve bits as long as there are as many, then those that are left.
func (d *chapterDecoder) bits(wide int) uint32 {
	n := 0
	for ; wide > 0; wide -= min(wide, 12) {
		all := uint32(math.Pow(2, float64(min(wide, 12))))
		x := d.lies(all)
		d.take(model.Part{Low: x, Own: 1, All: all})
		n = n*int(all) + int(x)
	}
	return uint32(n)
}

// both are a decoder and the chapter's, that are told the same.
type both struct {
	t *testing.T
	d *rangedec.Decoder
	c *chapterDecoder
}

func newBoth(t *testing.T, b []byte) both {
	t.Helper()
	x := both{t, rangedec.New(b), chapterNew(b)}
	x.over()
	return x
}

func (x both) over() {
	x.t.Helper()
	if got := x.d.Over(); got != x.c.missing {
		x.t.Fatalf("of %x Over() = %d, not %d", x.c.b, got, x.c.missing)
	}
}

// symbol takes a symbol of two models that were told the same.
func (x both) symbol(got, want *model.Model) int {
	x.t.Helper()
	symbol, err := x.d.Symbol(got)
	if told := x.c.symbol(want); symbol != told || err != api.OK {
		x.t.Fatalf("of %x Symbol = %d, %d, not %d", x.c.b, symbol, err, told)
	}
	if !same(got, want) {
		x.t.Fatalf("of %x another model", x.c.b)
	}
	x.over()
	return symbol
}

func (x both) bits(wide int) uint32 {
	x.t.Helper()
	n, err := x.d.Bits(wide)
	if told := x.c.bits(wide); n != told || err != api.OK {
		x.t.Fatalf("of %x Bits(%d) = %d, %d, not %d", x.c.b, wide, n, err, told)
	}
	x.over()
	return n
}

// rest asks for what follows: both must stand alike.
func (x both) rest() {
	x.t.Helper()
	for wide := range 25 {
		x.bits(wide)
	}
}

// same tells whether two models tell the same of all their symbols.
func same(a, b *model.Model) bool {
	if a.Len() != b.Len() {
		return false
	}
	for symbol := range a.Len() {
		p, _ := a.Part(symbol)
		if q, _ := b.Part(symbol); p != q {
			return false
		}
	}
	return true
}

func newModel(t *testing.T, n int) *model.Model {
	t.Helper()
	m, err := model.New(n)
	if err != api.OK {
		t.Fatalf("New(%d): %d", n, err)
	}
	return m
}

func fixedModel(t *testing.T, often ...uint32) *model.Model {
	t.Helper()
	m, err := model.Fixed(often...)
	if err != api.OK {
		t.Fatalf("Fixed(%v): %d", often, err)
	}
	return m
}

// anyBytes are bytes of any kind; noughts and 255 come more often.
func anyBytes(r *rand.Rand, most int) []byte {
	b := make([]byte, r.Intn(most+1))
	kind := r.Intn(4)
	for i := range b {
		b[i] = byte(r.Intn(256))
		switch {
		case kind == 1 && r.Intn(3) > 0:
			b[i] = 255
		case kind == 2 && r.Intn(3) > 0:
			b[i] = 0
		case kind == 3:
			b[i] = 255 * byte(r.Intn(2))
		}
	}
	return b
}

// P7.1: numbers that are reckoned by hand.
func TestBitsByHand(t *testing.T) {
	for _, c := range []struct {
		b    []byte
		wide []int
		want []uint32
		over int
	}{
		// The chapter's example; S is 2^31 - 1, 2^31 - 256, 2^27 - 256, 2^31 - 65536 (by two bytes), 2^27 - 4096.
		{nil, []int{1, 8, 12, 24}, []uint32{0, 0, 0, 0}, 4 + 0 + 1 + 1 + 2 + 1},
		// E is 2^31 - 1, that C has to be.
		{[]byte{0x7f, 0xff, 0xff, 0xfe}, []int{1}, []uint32{0}, 0},
		{[]byte{0x7f, 0xff, 0xff, 0xff}, []int{1}, []uint32{1}, 0},
		// The highest byte comes first.
		{[]byte{0xff, 0xff, 0xff, 0x7f}, []int{1}, []uint32{1}, 0},
		{[]byte{0x80}, []int{1}, []uint32{1}, 3},
		{[]byte{0, 0, 0, 0x80}, []int{1}, []uint32{0}, 0},
		// C is 2 E and more: 1 at most; then it is S - 1, which E goes in twice, too.
		{[]byte{0xff, 0xff, 0xff, 0xff}, []int{1, 1, 1}, []uint32{1, 1, 1}, 0},
		// E is 2^24 - 1; a byte is taken by each.
		{[]byte{0x00, 0xff, 0xff, 0xff}, []int{8}, []uint32{1}, 1},
		{[]byte{0x00, 0xff, 0xff, 0xfe}, []int{8}, []uint32{0}, 1},
		// What is left of C is 2^16 - 1; with the byte behind it, it is E, or one less.
		{[]byte{0x01, 0x00, 0xff, 0xfe, 0xff}, []int{8, 8}, []uint32{1, 1}, 1},
		{[]byte{0x01, 0x00, 0xff, 0xfe, 0xfe}, []int{8, 8}, []uint32{1, 0}, 1},
		// E is 2^20 - 1: then S is 2^28 - 256, E 2^16 - 1, and two bytes are taken.
		{[]byte{0x00, 0x0f, 0xff, 0xff}, []int{12}, []uint32{1}, 1},
		{[]byte{0x00, 0x0f, 0xff, 0xff, 0x00}, []int{24}, []uint32{1 << 12}, 2},
		{[]byte{0x00, 0x00, 0xff, 0xff, 0x00}, []int{24}, []uint32{256}, 2},
		{[]byte{0x00, 0x00, 0xff, 0xfe, 0xff}, []int{24}, []uint32{255}, 2},
		// No bits are none taken.
		{[]byte{0xff}, []int{0, 0, 0}, []uint32{0, 0, 0}, 3},
	} {
		d := rangedec.New(c.b)
		var got []uint32
		for _, wide := range c.wide {
			n, err := d.Bits(wide)
			if err != api.OK {
				t.Errorf("%x: Bits(%d): %d", c.b, wide, err)
			}
			got = append(got, n)
		}
		if !slices.Equal(got, c.want) {
			t.Errorf("%x, Bits(%d): %d, not %d", c.b, c.wide, got, c.want)
		}
		x := newBoth(t, c.b)
		for _, wide := range c.wide {
			x.bits(wide)
		}
		if d.Over() != c.over {
			t.Errorf("%x, Bits(%d): Over() = %d, not %d", c.b, c.wide, d.Over(), c.over)
		}
	}
}

// P7.1: each width, of bytes of all kinds.
func TestBits(t *testing.T) {
	r := rand.New(rand.NewSource(1))
	for range 400 {
		x := newBoth(t, anyBytes(r, 60))
		wide := r.Intn(25)
		for range 1 + r.Intn(30) {
			if n := x.bits(wide); n>>wide != 0 {
				t.Fatalf("Bits(%d) = %d", wide, n)
			}
			if r.Intn(2) == 0 {
				wide = r.Intn(25)
			}
		}
	}
}

// P7.1: twelve bits at most are taken together, and the first are twelve, if there are as many.
func TestBitsTogether(t *testing.T) {
	r := rand.New(rand.NewSource(2))
	for wide := range 25 {
		for range 50 {
			b := anyBytes(r, 20)
			one, parts := rangedec.New(b), rangedec.New(b)
			for range 4 {
				n, _ := one.Bits(wide)
				ahead, _ := parts.Bits(min(wide, 12))
				behind, _ := parts.Bits(wide - min(wide, 12))
				if n != ahead<<max(0, wide-12)|behind || one.Over() != parts.Over() {
					t.Fatalf("of %x Bits(%d) = %d, in parts %d and %d", b, wide, n, ahead, behind)
				}
			}
		}
	}
}

// P7.1: what isn't so wide takes nothing.
func TestBitsOfWhatMayNotBe(t *testing.T) {
	x := newBoth(t, []byte{0xab, 0xcd, 0xef, 0x01, 0x23, 0x45, 0x67, 0x89, 0xab})
	for _, wide := range []int{-1, -2, -12, -24, -32, -64, math.MinInt, 25, 26, 31, 32, 33, 63, 64, 256, 256 + 8, 1 << 32, 1<<32 + 8, -1<<32 + 8, math.MaxInt} {
		if n, err := x.d.Bits(wide); n != 0 || err != api.ErrArg {
			t.Errorf("Bits(%d) = %d, %d", wide, n, err)
		}
		x.over()
		x.bits(5)
	}
	x.rest()
}

// P7.1: symbols that are reckoned by hand.
func TestSymbolByHand(t *testing.T) {
	// E is 2^32 - 1 divided by 3: 0x55555555.
	for _, c := range []struct {
		b    []byte
		want int
	}{
		{nil, 0}, {[]byte{0x55, 0x55, 0x55, 0x54}, 0}, {[]byte{0x55, 0x55, 0x55, 0x55}, 1}, {[]byte{0xaa, 0xaa, 0xaa, 0xa9}, 1}, {[]byte{0xaa, 0xaa, 0xaa, 0xaa}, 2}, {[]byte{0xff, 0xff, 0xff, 0xfe}, 2},
		// It goes in three times: 2 at most.
		{[]byte{0xff, 0xff, 0xff, 0xff}, 2},
	} {
		m := newModel(t, 3)
		if symbol, err := rangedec.New(c.b).Symbol(m); symbol != c.want || err != api.OK {
			t.Errorf("%x: %d, %d, not %d", c.b, symbol, err, c.want)
		}
		for symbol := range 3 {
			often := uint32(1)
			if symbol == c.want {
				often += 32
			}
			if p, _ := m.Part(symbol); p.Own != often || p.All != 35 {
				t.Errorf("%x: the model learnt another: %d has %v", c.b, symbol, p)
			}
		}
		newBoth(t, c.b).symbol(newModel(t, 3), newModel(t, 3))
	}
	// Parts of 10: E is 0x19999999; of 2, 3 and 5 the last begins at 0x7ffffffd.
	for _, c := range []struct {
		b    []byte
		want int
	}{
		{[]byte{0x33, 0x33, 0x33, 0x31}, 0}, {[]byte{0x33, 0x33, 0x33, 0x32}, 1}, {[]byte{0x7f, 0xff, 0xff, 0xfc}, 1}, {[]byte{0x7f, 0xff, 0xff, 0xfd}, 2}, {[]byte{0xff, 0xff, 0xff, 0xff}, 2},
	} {
		if symbol, err := rangedec.New(c.b).Symbol(fixedModel(t, 2, 3, 5)); symbol != c.want || err != api.OK {
			t.Errorf("%x: %d, %d, not %d", c.b, symbol, err, c.want)
		}
	}
}

// anyOften is how often symbols come; together 8192 at most, and just as many now and then.
func anyOften(r *rand.Rand) []uint32 {
	often := make([]uint32, 1+r.Intn(64))
	left := 8192 - len(often)
	for i := range often {
		more := r.Intn(1 + r.Intn(left+1))
		often[i] = uint32(1 + more)
		left -= more
	}
	if r.Intn(3) == 0 {
		often[r.Intn(len(often))] += uint32(left)
	}
	return often
}

// P7.1: of any bytes, models that learn and such that don't, and bits, between each other.
func TestAnyBytes(t *testing.T) {
	r := rand.New(rand.NewSource(3))
	for range 300 {
		n, often := 1+r.Intn(64), anyOften(r)
		got := []*model.Model{newModel(t, n), newModel(t, 2), fixedModel(t, often...)}
		want := []*model.Model{newModel(t, n), newModel(t, 2), fixedModel(t, often...)}
		x := newBoth(t, anyBytes(r, 80))
		for range 1 + r.Intn(150) {
			if which := r.Intn(len(got) + 1); which < len(got) {
				x.symbol(got[which], want[which])
			} else {
				x.bits(r.Intn(25))
			}
		}
		x.rest()
	}
}

// P7.1: bytes of 255 lie above all parts, again and again.
func TestBytesAboveAllParts(t *testing.T) {
	for _, often := range [][]uint32{{1}, {8192}, {1, 1}, {8191, 1}, {1, 8191}, {8190, 1, 1}, {3, 5}, {4095, 4095, 1}, {100, 27}} {
		x := newBoth(t, bytes.Repeat([]byte{255}, 50))
		for range 60 {
			x.symbol(fixedModel(t, often...), fixedModel(t, often...))
		}
		x.rest()
	}
	for all := range uint32(8191) {
		x := newBoth(t, bytes.Repeat([]byte{255}, 10))
		for range 2 {
			x.symbol(fixedModel(t, all+1, 1), fixedModel(t, all+1, 1))
		}
		x.bits(24)
	}
}

// P7.1: a size of 2^24 is left so; one less is scaled.
func TestSizeOnTheEdge(t *testing.T) {
	for _, c := range []struct{ all, own, more uint32 }{{4405, 3906, 227}, {4779, 4723, 253}, {4857, 3472, 183}, {5115, 4096, 205}, {5311, 4004, 193}} {
		x := newBoth(t, nil)
		for _, often := range [][]uint32{{c.own, c.all - c.own}, {1, c.more - 1}} {
			if symbol := x.symbol(fixedModel(t, often...), fixedModel(t, often...)); symbol != 0 {
				t.Fatal("symbol", symbol)
			}
		}
		if x.c.s.Cmp(big.NewInt(1<<24)) != 0 || x.d.Over() != 4 {
			t.Fatalf("a size of %v: Over() = %d", x.c.s, x.d.Over())
		}
		x.rest()
	}
	x := newBoth(t, nil)
	x.bits(8)
	if x.c.s.Cmp(big.NewInt((1<<24-1)*256)) != 0 || x.d.Over() != 5 {
		t.Errorf("a size of 2^24 - 1: Over() = %d", x.d.Over())
	}
}

// P7.1: a model that never learns stays; one of one symbol takes nothing.
func TestSymbolOfOneSymbol(t *testing.T) {
	x := newBoth(t, []byte{255, 255, 255, 255})
	for range 300 {
		if x.symbol(fixedModel(t, 1), fixedModel(t, 1)) != 0 || x.d.Over() != 0 {
			t.Fatal("one symbol takes bytes")
		}
	}
	x.rest()
}

// P7.1: without a model nothing is taken; nor with one that has no symbols.
func TestSymbolOfNoModel(t *testing.T) {
	x := newBoth(t, []byte{0xab, 0xcd, 0xef, 0x01, 0x23, 0x45, 0x67, 0x89, 0xab})
	for range 3 {
		for _, m := range []*model.Model{nil, {}} {
			if symbol, err := x.d.Symbol(m); symbol != 0 || err != api.ErrArg {
				t.Errorf("Symbol of no model: %d, %d", symbol, err)
			}
			x.over()
		}
		x.bits(7)
	}
	x.rest()
}

// P7.1: four bytes are taken at first; those that aren't there are told.
func TestOver(t *testing.T) {
	for long := range 12 {
		d := rangedec.New(bytes.Repeat([]byte{0x5a}, long))
		// Each eight bits take a byte.
		for more := range 20 {
			if want := max(0, 4+more-long); d.Over() != want || d.Over() != want {
				t.Errorf("%d bytes, %d taken: Over() = %d, not %d", long, 4+more, d.Over(), want)
			}
			d.Bits(8)
		}
	}
	// Twelve bits take a byte, then two, since S is 2^28 - 256 between them.
	d := rangedec.New(nil)
	for i, want := range []int{5, 7, 8, 10} {
		if d.Bits(12); d.Over() != want {
			t.Errorf("%d: Over() = %d, not %d", i, d.Over(), want)
		}
	}
}

// P7.1: bytes that aren't there are noughts.
func TestNoughtsBehind(t *testing.T) {
	r := rand.New(rand.NewSource(4))
	for range 200 {
		b := anyBytes(r, 10)
		few, many := rangedec.New(b), rangedec.New(append(slices.Clone(b), make([]byte, 200)...))
		m, o := newModel(t, 20), newModel(t, 20)
		for range 50 {
			symbol, _ := few.Symbol(m)
			n, _ := few.Bits(9)
			if s, _ := many.Symbol(o); s != symbol {
				t.Fatalf("%x: %d with noughts, not %d", b, s, symbol)
			}
			if k, _ := many.Bits(9); k != n {
				t.Fatalf("%x: %d with noughts, not %d", b, k, n)
			}
		}
		if many.Over() != 0 {
			t.Fatal("bytes that are there are told")
		}
	}
}

// step is one thing that is put: a symbol of a model, or bits.
type step struct {
	which  int // a model's number; bits, if there is none
	symbol int
	n      uint32
	wide   int
}

func anySteps(r *rand.Rand, models []*model.Model, many int) []step {
	l := make([]step, many)
	for i := range l {
		l[i].which = r.Intn(len(models) + 1)
		if l[i].which < len(models) {
			l[i].symbol = r.Intn(1 + r.Intn(models[l[i].which].Len()))
		} else {
			l[i].wide = r.Intn(25)
			l[i].n = r.Uint32() & (1<<l[i].wide - 1)
		}
	}
	return l
}

func code(t *testing.T, models []*model.Model, l []step) []byte {
	t.Helper()
	e := rangeenc.New()
	for _, s := range l {
		err := api.OK
		if s.which < len(models) {
			err = e.Symbol(models[s.which], s.symbol)
		} else {
			err = e.Bits(s.n, s.wide)
		}
		if err != api.OK {
			t.Fatalf("%v: %d", s, err)
		}
	}
	return e.Bytes()
}

func decode(t *testing.T, d *rangedec.Decoder, models []*model.Model, l []step) {
	t.Helper()
	for i, s := range l {
		if s.which < len(models) {
			if symbol, err := d.Symbol(models[s.which]); symbol != s.symbol || err != api.OK {
				t.Fatalf("%d: symbol %d, %d, not %d", i, symbol, err, s.symbol)
			}
		} else if n, err := d.Bits(s.wide); n != s.n || err != api.OK {
			t.Fatalf("%d: Bits(%d) = %d, %d, not %d", i, s.wide, n, err, s.n)
		}
	}
}

// P7.2: what is coded is decoded.
func TestWhatIsCodedIsDecoded(t *testing.T) {
	r := rand.New(rand.NewSource(5))
	for range 400 {
		n, often := 1+r.Intn(64), anyOften(r)
		models := func() []*model.Model {
			return []*model.Model{newModel(t, n), newModel(t, 2), newModel(t, 64), fixedModel(t, often...)}
		}
		l := anySteps(r, models(), r.Intn(500))
		put, got := models(), models()
		b := code(t, put, l)
		d := rangedec.New(b)
		decode(t, d, got, l)
		for i := range put {
			if !same(put[i], got[i]) {
				t.Fatal("the models learnt otherwise")
			}
		}
	}
}

// P7.2: a thing alone, of each kind: each symbol of a model, all small numbers, and those at the edges.
func TestOneThingIsDecoded(t *testing.T) {
	alone := func(m func() *model.Model, s step) {
		t.Helper()
		d := rangedec.New(code(t, []*model.Model{m()}, []step{s}))
		decode(t, d, []*model.Model{m()}, []step{s})
	}
	for n := 1; n <= 64; n++ {
		for symbol := range n {
			alone(func() *model.Model { return newModel(t, n) }, step{symbol: symbol})
		}
	}
	for symbol := range 3 {
		alone(func() *model.Model { return fixedModel(t, 1, 8190, 1) }, step{symbol: symbol})
		alone(func() *model.Model { return fixedModel(t, 4096, 1, 4095) }, step{symbol: symbol})
	}
	one := func() *model.Model { return newModel(t, 1) }
	for wide := range 25 {
		for n := range uint32(1) << min(wide, 8) {
			alone(one, step{which: 1, n: n, wide: wide})
			alone(one, step{which: 1, n: 1<<wide - 1 - n, wide: wide})
		}
	}
}

// P7.2: carries through hundreds of bytes, and noughts that were left away.
func TestCarriesAndNoughtsAreDecoded(t *testing.T) {
	for _, wide := range []int{1, 2, 8, 11, 12, 13, 23, 24} {
		top := uint32(1)<<wide - 1
		for _, ends := range [][2]uint32{{0, 0}, {0, top}, {top, 0}, {top, top}, {top / 2, top}, {top/2 + 1, 0}} {
			l := []step{{n: ends[0], wide: wide}}
			for range 300 {
				l = append(l, step{n: ends[1], wide: wide})
			}
			l = append(l, step{n: top, wide: wide}, step{n: 0, wide: wide})
			decode(t, rangedec.New(code(t, nil, l)), nil, l)
		}
	}
}

// P7.2: a symbol that came so often that all come half as often, more than once.
func TestHalvedModelsAreDecoded(t *testing.T) {
	for _, n := range []int{1, 2, 3, 64} {
		l := make([]step, 1000)
		for i := range l {
			l[i].symbol = i / 300 % n
			if i%7 == 0 {
				l[i].symbol = i % n
			}
		}
		decode(t, rangedec.New(code(t, []*model.Model{newModel(t, n)}, l)), []*model.Model{newModel(t, n)}, l)
	}
}

// P7.2: of any bytes some symbols and bits come, without end.
func TestSomeComeOfAnyBytes(t *testing.T) {
	r := rand.New(rand.NewSource(6))
	for range 200 {
		d := rangedec.New(anyBytes(r, 30))
		m := newModel(t, 1+r.Intn(64))
		last := d.Over()
		for range 200 {
			if symbol, err := d.Symbol(m); err != api.OK || symbol < 0 || symbol >= m.Len() {
				t.Fatalf("symbol %d of %d, %d", symbol, m.Len(), err)
			}
			wide := r.Intn(25)
			if n, err := d.Bits(wide); err != api.OK || n>>wide != 0 {
				t.Fatalf("Bits(%d) = %d, %d", wide, n, err)
			}
			if d.Over() < last {
				t.Fatal("fewer bytes aren't there")
			}
			last = d.Over()
		}
	}
}

// P7.2: a nil decoder.
func TestNilDecoder(t *testing.T) {
	var d *rangedec.Decoder
	m, kept := newModel(t, 3), newModel(t, 3)
	for range 2 {
		for _, x := range []*model.Model{m, nil, {}} {
			if symbol, err := d.Symbol(x); symbol != 0 || err != api.ErrArg {
				t.Errorf("Symbol of a nil decoder: %d, %d", symbol, err)
			}
		}
		for _, wide := range []int{0, 1, 8, 24, 25, -1} {
			if n, err := d.Bits(wide); n != 0 || err != api.ErrArg {
				t.Errorf("Bits(%d) of a nil decoder: %d, %d", wide, n, err)
			}
		}
		if d.Over() != 0 {
			t.Errorf("Over() of a nil decoder: %d", d.Over())
		}
	}
	if !same(m, kept) {
		t.Error("a model learnt of a nil decoder")
	}
}

// P2: bytes that are handed in are neither kept nor changed, and what lies behind them isn't read.
func TestBytesAreApart(t *testing.T) {
	r := rand.New(rand.NewSource(7))
	for range 100 {
		room := make([]byte, 60)
		r.Read(room)
		kept := slices.Clone(room)
		b := room[:r.Intn(len(room))]
		x := newBoth(t, b)
		x.rest()
		if !bytes.Equal(room, kept) {
			t.Fatal("the bytes are changed")
		}
		x = newBoth(t, b)
		for i := range room {
			room[i] ^= 0xff
		}
		x.rest()
	}
}

// P2: none of some bytes are as none.
func TestNilBytes(t *testing.T) {
	for _, b := range [][]byte{nil, {}, make([]byte, 0, 8), []byte{255, 255, 255, 255}[:0]} {
		x := newBoth(t, b)
		if x.d.Over() != 4 {
			t.Errorf("Over() = %d", x.d.Over())
		}
		x.rest()
	}
}

// P1: with any arguments each call ends, and none panics, also of a Decoder that New didn't make.
func TestNothingPanics(t *testing.T) {
	for _, d := range []*rangedec.Decoder{nil, {}, new(rangedec.Decoder), rangedec.New(nil), rangedec.New([]byte{255, 255, 255, 255, 255})} {
		for _, m := range []*model.Model{nil, {}, newModel(t, 1), newModel(t, 64), fixedModel(t, 8192), fixedModel(t, 8191, 1)} {
			for wide := -40; wide < 80; wide++ {
				d.Symbol(m)
				d.Bits(wide)
				d.Over()
			}
			d.Bits(math.MaxInt)
			d.Bits(math.MinInt)
		}
	}
}

// answers are those of all calls, of decoders and models of their own.
func answers() string {
	r := rand.New(rand.NewSource(8))
	var l []byte
	for range 20 {
		d := rangedec.New(anyBytes(r, 100))
		m, _ := model.New(20)
		for i := range 100 {
			symbol, err := d.Symbol(m)
			n, wrong := d.Bits(i % 27)
			l = fmt.Append(l, symbol, err, n, wrong, d.Over(), " ")
		}
	}
	return string(l)
}

// P2: an answer hangs on nothing but what the decoder was told: neither on calls ahead of it nor on those beside it.
func TestAnswersStayTheSame(t *testing.T) {
	want := answers()
	var got [8]string
	var all sync.WaitGroup
	for i := range got {
		all.Go(func() { got[i] = answers() })
	}
	all.Wait()
	for i := range got {
		if got[i] != want {
			t.Error("another answer", i)
		}
	}
}

// P2: one decoder knows nothing of another, also of the same bytes.
func TestDecodersAreApart(t *testing.T) {
	r := rand.New(rand.NewSource(9))
	b := anyBytes(r, 200)
	x, y, z := newBoth(t, b), newBoth(t, b), newBoth(t, anyBytes(r, 200))
	got, want := newModel(t, 9), newModel(t, 9)
	other, told := newModel(t, 9), newModel(t, 9)
	for i := range 100 {
		x.bits(i % 25)
		x.symbol(got, want)
		z.symbol(other, told)
		z.bits(i % 11)
		y.symbol(newModel(t, 7), newModel(t, 7))
	}
	x.rest()
	y.rest()
	z.rest()
}

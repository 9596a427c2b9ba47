package rangeenc_test

import (
	"bytes"
	"math"
	"math/big"
	"math/rand"
	"slices"
	"sync"
	"testing"

	"sideband/api"
	"sideband/model"
	"sideband/rangeenc"
)

// chapterEncoder is an encoder as the chapter's words say it: a fraction without end, a size and a scale.
type chapterEncoder struct {
	l *big.Rat
	s int64
	k int
}

func chapterNew() *chapterEncoder { return &chapterEncoder{l: new(big.Rat), s: 1<<32 - 1} }

func power(base int64, times int) *big.Int {
	return new(big.Int).Exp(big.NewInt(base), big.NewInt(int64(times)), nil)
}

func (c *chapterEncoder) put(p model.Part) {
	e := c.s / int64(p.All)
	more := new(big.Int).Mul(big.NewInt(e), big.NewInt(int64(p.Low)))
	c.l.Add(c.l, new(big.Rat).SetFrac(more, power(256, c.k)))
	c.s = e * int64(p.Own)
	for c.s < 1<<24 {
		c.s *= 256
		c.k++
	}
}

// bits puts a number bit by bit into numbers of twelve.
func (c *chapterEncoder) bits(n uint32, wide int) {
	var x uint32
	k := 0
	for bit := wide - 1; bit >= 0; bit-- {
		x = x*2 + n>>bit&1
		k++
		if k == 12 || bit == 0 {
			c.put(model.Part{Low: x, Own: 1, All: 1 << k})
			x, k = 0, 0
		}
	}
}

func (c *chapterEncoder) len() int { return c.k + 4 }

// bytes takes digit by digit from behind the point, till nothing is left.
func (c *chapterEncoder) bytes() []byte {
	var digits []byte
	rest := new(big.Rat).Quo(c.l, new(big.Rat).SetInt(power(2, 32)))
	for rest.Sign() != 0 {
		rest.Mul(rest, big.NewRat(256, 1))
		digit := new(big.Int).Quo(rest.Num(), rest.Denom())
		digits = append(digits, byte(digit.Int64()))
		rest.Sub(rest, new(big.Rat).SetInt(digit))
	}
	return digits
}

// check holds an encoder against the chapter's.
func check(t *testing.T, e *rangeenc.Encoder, c *chapterEncoder) {
	t.Helper()
	if e.Len() != c.len() {
		t.Fatalf("Len() = %d, not %d", e.Len(), c.len())
	}
	got, want := e.Bytes(), c.bytes()
	if !bytes.Equal(got, want) {
		t.Fatalf("Bytes() = %x, not %x", got, want)
	}
	if len(got) > e.Len() {
		t.Fatalf("%d bytes, but Len() = %d", len(got), e.Len())
	}
}

func put(t *testing.T, e *rangeenc.Encoder, parts ...model.Part) {
	t.Helper()
	for _, p := range parts {
		if err := e.Put(p); err != api.OK {
			t.Fatalf("Put(%v): %d", p, err)
		}
	}
}

func newModel(t *testing.T, n int) *model.Model {
	t.Helper()
	m, err := model.New(n)
	if err != api.OK {
		t.Fatalf("New(%d): %d", n, err)
	}
	return m
}

func fixedModel(t *testing.T, often ...uint32) *model.Model {
	t.Helper()
	m, err := model.Fixed(often...)
	if err != api.OK {
		t.Fatalf("Fixed(%v): %d", often, err)
	}
	return m
}

// P6.1: New; P6.2: of nothing there are no bytes.
func TestNew(t *testing.T) {
	e := rangeenc.New()
	if e == nil || e.Len() != 4 || len(e.Bytes()) != 0 {
		t.Fatalf("New: %d, %x", e.Len(), e.Bytes())
	}
	check(t, e, chapterNew())
}

// P6.1, P6.2: numbers that are reckoned by hand.
func TestPut(t *testing.T) {
	for i, c := range []struct {
		parts []model.Part
		want  []byte
		long  int
	}{
		// All of it: E is S.
		{[]model.Part{{Low: 0, Own: 1, All: 1}}, nil, 4},
		{[]model.Part{{Low: 0, Own: 8192, All: 8192}}, nil, 4},
		// E is 2^31 - 1.
		{[]model.Part{{Low: 1, Own: 1, All: 2}}, []byte{0x7f, 0xff, 0xff, 0xff}, 4},
		// Then it is 2^30 - 1, of which the sum is 2^31 + 2^30 - 2.
		{[]model.Part{{Low: 1, Own: 1, All: 2}, {Low: 1, Own: 1, All: 2}}, []byte{0xbf, 0xff, 0xff, 0xfe}, 4},
		// E is 2^24 - 1: the scale is 1.
		{[]model.Part{{Low: 0, Own: 1, All: 256}}, nil, 5},
		{[]model.Part{{Low: 1, Own: 1, All: 256}}, []byte{0x00, 0xff, 0xff, 0xff}, 5},
		// E is 2^24 + 65793, above 2^24: the scale stays 0.
		{[]model.Part{{Low: 3, Own: 1, All: 255}}, []byte{0x03, 0x03, 0x03, 0x03}, 4},
		// E is 2^19 - 1, S 32 of that, below 2^24; S 33 of that, above it.
		{[]model.Part{{Low: 0, Own: 32, All: 8192}}, nil, 5},
		{[]model.Part{{Low: 0, Own: 33, All: 8192}}, nil, 4},
		{[]model.Part{{Low: 8191, Own: 1, All: 8192}}, []byte{0xff, 0xf7, 0xe0, 0x01}, 5},
		{[]model.Part{{Low: 32, Own: 32, All: 8192}}, []byte{0x00, 0xff, 0xff, 0xe0}, 5},
		// The second E is 2^32 - 8192 divided by 2: 7fff:f000; it goes a byte behind the first.
		{[]model.Part{{Low: 0, Own: 32, All: 8192}, {Low: 1, Own: 1, All: 2}}, []byte{0x00, 0x7f, 0xff, 0xf0}, 5},
	} {
		e := rangeenc.New()
		put(t, e, c.parts...)
		if got := e.Bytes(); !bytes.Equal(got, c.want) || e.Len() != c.long {
			t.Errorf("%d: %x of %d, not %x of %d", i, got, e.Len(), c.want, c.long)
		}
	}
}

// P6.1: a size of 2^24 is left so; one less is scaled.
func TestSizeOnTheEdge(t *testing.T) {
	for _, x := range []struct{ all, own, more uint32 }{{4405, 3906, 227}, {4779, 4723, 253}, {4857, 3472, 183}, {5115, 4096, 205}, {5311, 4004, 193}} {
		e, c := rangeenc.New(), chapterNew()
		for _, p := range []model.Part{{Low: x.all - x.own, Own: x.own, All: x.all}, {Low: 0, Own: 1, All: x.more}} {
			put(t, e, p)
			c.put(p)
		}
		if c.s != 1<<24 || e.Len() != 4 {
			t.Fatalf("a size of %d: Len() = %d", c.s, e.Len())
		}
		for range 3 {
			put(t, e, model.Part{Low: 8191, Own: 1, All: 8192})
			c.put(model.Part{Low: 8191, Own: 1, All: 8192})
			check(t, e, c)
		}
	}
	e, c := rangeenc.New(), chapterNew()
	put(t, e, model.Part{Low: 0, Own: 1, All: 256})
	c.put(model.Part{Low: 0, Own: 1, All: 256})
	if c.s != (1<<24-1)*256 || e.Len() != 5 {
		t.Errorf("a size of 2^24 - 1: Len() = %d", e.Len())
	}
}

// anyPart is a part that may be; at its edges more often.
func anyPart(r *rand.Rand) model.Part {
	all := 1 + r.Intn(8192)
	switch r.Intn(6) {
	case 0:
		all = 8192
	case 1:
		all = 1 + r.Intn(4)
	}
	low := r.Intn(all)
	own := 1 + r.Intn(all-low)
	switch r.Intn(5) {
	case 0:
		own = 1
	case 1:
		own = all - low
	case 2:
		low, own = all-1, 1
	}
	return model.Part{Low: uint32(low), Own: uint32(own), All: uint32(all)}
}

// P6.1, P6.2: any parts, one behind the other.
func TestPutAny(t *testing.T) {
	r := rand.New(rand.NewSource(2))
	for range 300 {
		e, c := rangeenc.New(), chapterNew()
		for range 1 + r.Intn(60) {
			p := anyPart(r)
			put(t, e, p)
			c.put(p)
			check(t, e, c)
		}
	}
}

// P6.1: each part of 8192, and of all that there may be.
func TestPutAll(t *testing.T) {
	for low := range uint32(8192) {
		e, c := rangeenc.New(), chapterNew()
		for _, p := range []model.Part{{Low: low, Own: 1, All: 8192}, {Low: 0, Own: low + 1, All: 8192}, {Low: low, Own: 8192 - low, All: 8192}, {Low: low, Own: 1, All: low + 1}} {
			put(t, e, p)
			c.put(p)
		}
		check(t, e, c)
	}
}

// P6.1: a part may be so near ahead of a digit that it carries through hundreds of bytes.
func TestCarry(t *testing.T) {
	for _, long := range []int{1, 2, 3, 5, 40, 300} {
		e, c := rangeenc.New(), chapterNew()
		// The point is 80:00:00.., at first; to it is how far it lies above L.
		to := int64(1 << 31)
		for e.Len() < 4+long {
			each := c.s / 8192
			p := model.Part{Low: uint32(min(to/each, 8191)), Own: 1, All: 8192}
			scale := c.k
			put(t, e, p)
			c.put(p)
			to -= each * int64(p.Low)
			for ; scale < c.k; scale++ {
				to *= 256
			}
		}
		check(t, e, c)
		ahead := e.Bytes()
		if len(ahead) < long || ahead[0] != 0x7f || slices.ContainsFunc(ahead[1:long], func(b byte) bool { return b != 0xff }) {
			t.Fatalf("%d: not near: %x", long, ahead)
		}
		put(t, e, model.Part{Low: 8191, Own: 1, All: 8192})
		c.put(model.Part{Low: 8191, Own: 1, All: 8192})
		check(t, e, c)
		behind := e.Bytes()
		if behind[0] != 0x80 || slices.ContainsFunc(behind[1:long], func(b byte) bool { return b != 0 }) {
			t.Errorf("%d: not carried: %x", long, behind)
		}
	}
}

// P6.1: the least part, and the greatest, many times.
func TestSameParts(t *testing.T) {
	for _, p := range []model.Part{{Low: 0, Own: 1, All: 8192}, {Low: 8191, Own: 1, All: 8192}, {Low: 0, Own: 1, All: 1}, {Low: 1, Own: 8191, All: 8192}, {Low: 4095, Own: 2, All: 8191}, {Low: 1, Own: 1, All: 2}} {
		e, c := rangeenc.New(), chapterNew()
		for range 200 {
			put(t, e, p)
			c.put(p)
		}
		check(t, e, c)
	}
}

// wrongParts may not be.
func wrongParts() []model.Part {
	l := []model.Part{
		{}, {Low: 0, Own: 1, All: 0}, {Low: 1, Own: 0, All: 0}, {Low: 0, Own: 0, All: 1}, {Low: 5, Own: 0, All: 10}, {Low: 10, Own: 0, All: 10},
		{Low: 1, Own: 1, All: 1}, {Low: 0, Own: 2, All: 1}, {Low: 3, Own: 1, All: 3}, {Low: 4, Own: 1, All: 3}, {Low: 2, Own: 2, All: 3}, {Low: 0, Own: 4, All: 3},
		{Low: 0, Own: 1, All: 8193}, {Low: 0, Own: 8193, All: 8193}, {Low: 8192, Own: 1, All: 8192}, {Low: 8192, Own: 1, All: 8193}, {Low: 1, Own: 8192, All: 8192}, {Low: 0, Own: 8193, All: 8192},
		{Low: 0, Own: 1, All: 16384}, {Low: 0, Own: 1, All: 1 << 16}, {Low: 0, Own: 1, All: 1<<16 + 1}, {Low: 0, Own: 1, All: 1 << 31}, {Low: 0, Own: 1, All: math.MaxUint32},
	}
	// Low and Own together, in thirty-two bits, are no more than All.
	for _, all := range []uint32{1, 2, 100, 8191, 8192, 8193, math.MaxUint32} {
		for _, more := range []uint32{0, 1, 2} {
			l = append(l, model.Part{Low: math.MaxUint32 - more, Own: more + 1, All: all}, model.Part{Low: more + 1, Own: math.MaxUint32, All: all}, model.Part{Low: math.MaxUint32, Own: more + 1, All: all})
		}
		l = append(l, model.Part{Low: 1 << 31, Own: 1 << 31, All: all}, model.Part{Low: 1 << 31, Own: 1<<31 + 1, All: all})
	}
	return l
}

// P6.1: what may not be isn't put.
func TestPutOfWhatMayNotBe(t *testing.T) {
	e, c := rangeenc.New(), chapterNew()
	for _, p := range wrongParts() {
		if err := e.Put(p); err != api.ErrArg {
			t.Errorf("Put(%v): %d", p, err)
		}
		check(t, e, c)
		right := model.Part{Low: 3, Own: 2, All: 77}
		put(t, e, right)
		c.put(right)
	}
}

// chapterSymbol puts a symbol's part, and lets the model learn.
func chapterSymbol(c *chapterEncoder, m *model.Model, symbol int) {
	p, _ := m.Part(symbol)
	c.put(p)
	m.Learn(symbol)
}

// same tells whether two models tell the same of all their symbols.
func same(a, b *model.Model) bool {
	if a.Len() != b.Len() {
		return false
	}
	for symbol := range a.Len() {
		p, _ := a.Part(symbol)
		if q, _ := b.Part(symbol); p != q {
			return false
		}
	}
	return true
}

// P6.1: Symbol, of models that learn, and of such that don't, one after the other.
func TestSymbol(t *testing.T) {
	r := rand.New(rand.NewSource(3))
	for range 40 {
		n := 1 + r.Intn(64)
		often := make([]uint32, 1+r.Intn(64))
		for i := range often {
			often[i] = uint32(1 + r.Intn(128))
		}
		e, c := rangeenc.New(), chapterNew()
		got := []*model.Model{newModel(t, n), newModel(t, 2), fixedModel(t, often...)}
		want := []*model.Model{newModel(t, n), newModel(t, 2), fixedModel(t, often...)}
		for range 300 {
			which := r.Intn(len(got))
			symbol := r.Intn(1 + r.Intn(got[which].Len()))
			if err := e.Symbol(got[which], symbol); err != api.OK {
				t.Fatalf("Symbol(%d): %d", symbol, err)
			}
			chapterSymbol(c, want[which], symbol)
			if !same(got[which], want[which]) {
				t.Fatal("another model")
			}
		}
		check(t, e, c)
	}
}

// P6.1: what came often takes few bytes.
func TestSymbolThatComesOften(t *testing.T) {
	e, m := rangeenc.New(), newModel(t, 4)
	for range 1000 {
		e.Symbol(m, 3)
	}
	if n := len(e.Bytes()); n > 8 {
		t.Error("a thousand times the same takes bytes:", n)
	}
}

// noSymbols are numbers that no model of n symbols has.
func noSymbols(n int) []int {
	return []int{-1, -2, -n, n, n + 1, 64, 65, n + 256, 1 << 32, 1<<32 + 1, math.MaxInt, math.MinInt}
}

// P6.1: what is no symbol is neither put nor learnt.
func TestSymbolOfNoSymbol(t *testing.T) {
	for _, n := range []int{1, 2, 33, 64} {
		e, c := rangeenc.New(), chapterNew()
		m, kept := newModel(t, n), newModel(t, n)
		for _, symbol := range noSymbols(n) {
			for _, wrong := range []*model.Model{m, nil, {}} {
				if err := e.Symbol(wrong, symbol); err != api.ErrArg {
					t.Errorf("Symbol(%d) of %d: %d", symbol, wrong.Len(), err)
				}
			}
			check(t, e, c)
			if !same(m, kept) {
				t.Fatal("the model learnt")
			}
			e.Symbol(m, n-1)
			chapterSymbol(c, kept, n-1)
		}
		if err := e.Symbol(nil, 0); err != api.ErrArg {
			t.Errorf("Symbol of a nil model: %d", err)
		}
		check(t, e, c)
	}
}

// P6.1: Bits of each width.
func TestBits(t *testing.T) {
	r := rand.New(rand.NewSource(4))
	for wide := range 25 {
		top := uint32(1)<<wide - 1
		numbers := []uint32{0, top, top / 2, top - top/2, 1 & top, 0xaaaaaa & top, 0x555555 & top, 0xfff & top, 0xfff000 & top}
		for range 20 {
			numbers = append(numbers, r.Uint32()&top)
		}
		e, c := rangeenc.New(), chapterNew()
		for _, n := range numbers {
			if err := e.Bits(n, wide); err != api.OK {
				t.Fatalf("Bits(%d, %d): %d", n, wide, err)
			}
			c.bits(n, wide)
			check(t, e, c)
		}
	}
}

// P6.1: the first are twelve, if there are as many; those that are left follow.
func TestBitsTogether(t *testing.T) {
	for _, x := range []struct {
		n     uint32
		wide  int
		parts []model.Part
	}{
		{0, 0, nil},
		{1, 1, []model.Part{{Low: 1, Own: 1, All: 2}}},
		{0x7ff, 11, []model.Part{{Low: 0x7ff, Own: 1, All: 2048}}},
		{0xabc, 12, []model.Part{{Low: 0xabc, Own: 1, All: 4096}}},
		{0x1579, 13, []model.Part{{Low: 0xabc, Own: 1, All: 4096}, {Low: 1, Own: 1, All: 2}}},
		{0x0001, 13, []model.Part{{Low: 0, Own: 1, All: 4096}, {Low: 1, Own: 1, All: 2}}},
		{0xabcd, 16, []model.Part{{Low: 0xabc, Own: 1, All: 4096}, {Low: 0xd, Own: 1, All: 16}}},
		{0x55e6f7, 23, []model.Part{{Low: 0xabc, Own: 1, All: 4096}, {Low: 0x6f7, Own: 1, All: 2048}}},
		{0xabcdef, 24, []model.Part{{Low: 0xabc, Own: 1, All: 4096}, {Low: 0xdef, Own: 1, All: 4096}}},
	} {
		e, c := rangeenc.New(), chapterNew()
		for range 3 {
			if err := e.Bits(x.n, x.wide); err != api.OK {
				t.Errorf("Bits(%#x, %d): %d", x.n, x.wide, err)
			}
			for _, p := range x.parts {
				c.put(p)
			}
		}
		check(t, e, c)
	}
}

// P6.1: no bits are nothing put. The first of these is the chapter's.
func TestNoBits(t *testing.T) {
	e := rangeenc.New()
	if err := e.Bits(0, 8); err != api.OK || len(e.Bytes()) != 0 {
		t.Errorf("Bits(0, 8): %d, %x", err, e.Bytes())
	}
	e = rangeenc.New()
	for range 100 {
		e.Bits(0, 0)
	}
	check(t, e, chapterNew())
}

// P6.1: what isn't so wide, and what needs more bits.
func TestBitsOfWhatMayNotBe(t *testing.T) {
	e, c := rangeenc.New(), chapterNew()
	wrong := func(n uint32, wide int) {
		t.Helper()
		if err := e.Bits(n, wide); err != api.ErrArg {
			t.Errorf("Bits(%d, %d): %d", n, wide, err)
		}
		check(t, e, c)
	}
	for _, wide := range []int{-1, -2, -12, -24, -32, -64, math.MinInt, 25, 26, 31, 32, 33, 63, 64, 256, 256 + 8, 1 << 32, 1<<32 + 8, -1<<32 + 8, math.MaxInt} {
		for _, n := range []uint32{0, 1, 255, 1 << 24, math.MaxUint32} {
			wrong(n, wide)
		}
	}
	for wide := range 25 {
		for _, n := range []uint32{1 << wide, 1<<wide + 1, 1<<wide + 1<<wide - 1, 1 << 24, 1 << 31, 1<<31 + 1, math.MaxUint32} {
			wrong(n, wide)
		}
		e.Bits(0, wide)
		c.bits(0, wide)
		e.Bits(1<<wide-1, wide)
		c.bits(1<<wide-1, wide)
	}
	check(t, e, c)
}

// P6.1: parts, symbols and bits between each other.
func TestAllTogether(t *testing.T) {
	r := rand.New(rand.NewSource(5))
	for range 60 {
		e, c := rangeenc.New(), chapterNew()
		got, want := newModel(t, 13), newModel(t, 13)
		for range 100 {
			switch r.Intn(3) {
			case 0:
				p := anyPart(r)
				put(t, e, p)
				c.put(p)
			case 1:
				symbol := r.Intn(13)
				e.Symbol(got, symbol)
				chapterSymbol(c, want, symbol)
			case 2:
				wide := r.Intn(25)
				n := r.Uint32() & (1<<wide - 1)
				e.Bits(n, wide)
				c.bits(n, wide)
			}
		}
		check(t, e, c)
	}
}

// P6.2: only the noughts behind are left away; those ahead and between are digits like others.
func TestNoughts(t *testing.T) {
	e, c := rangeenc.New(), chapterNew()
	for range 12 {
		put(t, e, model.Part{Low: 0, Own: 1, All: 8192})
		c.put(model.Part{Low: 0, Own: 1, All: 8192})
		if len(e.Bytes()) != 0 {
			t.Fatalf("noughts alone are bytes: %x", e.Bytes())
		}
	}
	check(t, e, c)
	put(t, e, model.Part{Low: 1, Own: 1, All: 2})
	c.put(model.Part{Low: 1, Own: 1, All: 2})
	check(t, e, c)
	if b := e.Bytes(); len(b) < 10 || b[0] != 0 || b[8] != 0 || b[len(b)-1] == 0 {
		t.Errorf("noughts ahead: %x", b)
	}
	for range 12 {
		put(t, e, model.Part{Low: 0, Own: 1, All: 8192})
		c.put(model.Part{Low: 0, Own: 1, All: 8192})
		check(t, e, c)
	}
	put(t, e, model.Part{Low: 8191, Own: 1, All: 8192})
	c.put(model.Part{Low: 8191, Own: 1, All: 8192})
	check(t, e, c)
}

// P6.2: it goes on as before, and what was answered is not shared.
func TestBytesAreApart(t *testing.T) {
	r := rand.New(rand.NewSource(6))
	e, c := rangeenc.New(), chapterNew()
	for range 150 {
		p := anyPart(r)
		put(t, e, p)
		c.put(p)
		b := e.Bytes()
		kept := slices.Clone(b)
		put(t, e, p)
		c.put(p)
		if !bytes.Equal(b, kept) {
			t.Fatal("what was answered is changed")
		}
		b = b[:cap(b)]
		for i := range b {
			b[i] = 0xee
		}
		check(t, e, c)
	}
}

// P6.2: how many there may be.
func TestLen(t *testing.T) {
	e := rangeenc.New()
	for i := range 100 {
		if e.Len() != 4+i {
			t.Fatalf("%d bytes were put, but Len() = %d", i, e.Len())
		}
		// A size of 2^24 and more, but below 2^32, becomes one below 2^24 once.
		put(t, e, model.Part{Low: 1, Own: 1, All: 256})
	}
}

// P6.1, P6.2: a nil encoder.
func TestNilEncoder(t *testing.T) {
	var e *rangeenc.Encoder
	m, kept := newModel(t, 3), newModel(t, 3)
	for range 2 {
		for i, err := range []api.Errno{e.Put(model.Part{Own: 1, All: 1}), e.Put(model.Part{}), e.Symbol(m, 1), e.Symbol(m, 3), e.Symbol(nil, 0), e.Bits(0, 0), e.Bits(1, 8), e.Bits(1, 25)} {
			if err != api.ErrArg {
				t.Errorf("%d: a nil encoder tells %d", i, err)
			}
		}
		if e.Len() != 0 || len(e.Bytes()) != 0 {
			t.Errorf("a nil encoder has bytes: %d, %x", e.Len(), e.Bytes())
		}
	}
	if !same(m, kept) {
		t.Error("a model learnt of a nil encoder")
	}
}

// P1: with any arguments each call ends, and none panics, also of an Encoder that New didn't make.
func TestNothingPanics(t *testing.T) {
	models := []*model.Model{nil, {}, newModel(t, 1), newModel(t, 64), fixedModel(t, 8192)}
	for _, e := range []*rangeenc.Encoder{nil, {}, new(rangeenc.Encoder), rangeenc.New()} {
		for _, p := range wrongParts() {
			e.Put(p)
		}
		for _, m := range models {
			for _, symbol := range append(noSymbols(1), 0, 1, 63) {
				e.Symbol(m, symbol)
				for _, n := range []uint32{0, 1, 1 << 24, math.MaxUint32} {
					e.Bits(n, symbol)
				}
			}
		}
		for wide := range 30 {
			e.Bits(0, wide)
			e.Bits(1<<wide-1, wide)
		}
		e.Len()
		e.Bytes()
	}
}

// answers are those of all calls, of encoders and models of their own.
func answers() []byte {
	r := rand.New(rand.NewSource(7))
	var l []byte
	for range 20 {
		e := rangeenc.New()
		m, _ := model.New(20)
		for i := range 100 {
			l = append(l, byte(e.Put(anyPart(r))), byte(e.Symbol(m, i%22)), byte(e.Bits(uint32(i), i%26)), byte(e.Len()))
		}
		l = append(l, e.Bytes()...)
	}
	return l
}

// P2: an answer hangs on nothing but what the encoder was told: neither on calls ahead of it nor on those beside it.
func TestAnswersStayTheSame(t *testing.T) {
	want := answers()
	var got [8][]byte
	var all sync.WaitGroup
	for i := range got {
		all.Go(func() { got[i] = answers() })
	}
	all.Wait()
	for i := range got {
		if !bytes.Equal(got[i], want) {
			t.Error("another answer", i)
		}
	}
}

// P2: one encoder knows nothing of another; and Len and Bytes change nothing.
func TestEncodersAreApart(t *testing.T) {
	a, b := rangeenc.New(), rangeenc.New()
	want, other := chapterNew(), chapterNew()
	for i := range uint32(100) {
		p, q := model.Part{Low: i, Own: 1, All: 100}, model.Part{Low: 99 - i, Own: 1, All: 100}
		put(t, a, p)
		put(t, b, q)
		want.put(p)
		other.put(q)
		check(t, a, want)
		check(t, b, other)
		check(t, a, want)
	}
}

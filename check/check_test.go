package check_test

import (
	"bytes"
	"math"
	"math/big"
	"math/rand"
	"slices"
	"strconv"
	"sync"
	"testing"

	"sideband/check"
)

// chapterSum goes bit by bit, as the chapter's words say it: a register of 32 bools, the lowest one first.
func chapterSum(b []byte) uint32 {
	var register [32]bool
	for i := range register {
		register[i] = true
	}
	for _, n := range b {
		for bit := range 8 {
			unlike := register[0] != (n>>bit&1 == 1)
			copy(register[:], register[1:])
			register[31] = false
			for i := range register {
				if unlike && uint32(2197175160)>>i&1 == 1 {
					register[i] = !register[i]
				}
			}
		}
	}
	var sum uint32
	for i, one := range register {
		if !one {
			sum |= 1 << i
		}
	}
	return sum
}

// remainder reckons the same sum by another way: bytes are a polynomial's bits, first bit highest, divided with rest.
func remainder(b []byte) uint32 {
	n := new(big.Int)
	for _, x := range b {
		for bit := range 8 {
			n.Lsh(n, 1).SetBit(n, 0, uint(x>>bit&1))
		}
	}
	ones := new(big.Int).Lsh(big.NewInt(math.MaxUint32), uint(8*len(b)))
	n.Lsh(n, 32).Xor(n, ones)
	divisor := big.NewInt(0x11edc6f41)
	for n.BitLen() > 32 {
		n.Xor(n, new(big.Int).Lsh(divisor, uint(n.BitLen()-33)))
	}
	var sum uint32
	for bit := range 32 {
		sum |= uint32(n.Bit(31-bit)) << bit
	}
	return ^sum
}

// texts are lists of bytes of many lengths, the same each time.
func texts() [][]byte {
	l := [][]byte{nil, {}, {0}, {1}, {0x80}, {255}, []byte("123456789"), []byte("It’s")}
	r := rand.New(rand.NewSource(1))
	for n := 1; n < 80; n++ {
		b := make([]byte, n)
		l = append(l, b, bytes.Repeat([]byte{255}, n))
		random := make([]byte, n)
		r.Read(random)
		l = append(l, random)
	}
	return l
}

func counted(from, by int) []byte {
	var b []byte
	for i := range 32 {
		b = append(b, byte(from+by*i))
	}
	return b
}

// P3.1: Of. These sums are the chapter's, or known of this sum elsewhere.
func TestOf(t *testing.T) {
	for _, c := range []struct {
		b    []byte
		want uint32
	}{
		{nil, 0}, {[]byte{}, 0}, {[]byte("a"), 0xc1d04330}, {[]byte("123456789"), 3808858755}, {[]byte{0}, 0x527d5351},
		{bytes.Repeat([]byte{0}, 32), 0x8a9136aa}, {bytes.Repeat([]byte{255}, 32), 0x62a8ab43},
		{counted(0, 1), 0x46dd794e}, {counted(31, -1), 0x113fdb5c}, {bytes.Repeat([]byte{255}, 4), math.MaxUint32},
	} {
		if got := check.Of(c.b...); got != c.want {
			t.Errorf("Of(%x) = %#x, not %#x", c.b, got, c.want)
		}
	}
}

func TestOfEachByte(t *testing.T) {
	for n := range 256 {
		b := []byte{byte(n)}
		if got, want := check.Of(b...), chapterSum(b); got != want {
			t.Errorf("Of(%d) = %#x, not %#x", n, got, want)
		}
	}
}

func TestOfMany(t *testing.T) {
	for _, b := range texts() {
		got, want := check.Of(b...), chapterSum(b)
		if got != want || got != remainder(b) {
			t.Fatalf("Of(%x) = %#x, not %#x, or %#x", b, got, want, remainder(b))
		}
	}
}

// P3.1: a Sum has no bytes at first.
func TestSumOfNothing(t *testing.T) {
	var s check.Sum
	if s.Value() != 0 || s.Len() != 0 {
		t.Error("it has something at first:", s.Value(), s.Len())
	}
	s.Write()
	s.Write(nil...)
	s.Write([]byte{}...)
	if s.Value() != 0 || s.Len() != 0 {
		t.Error("nothing makes something:", s.Value(), s.Len())
	}
	made := new(check.Sum)
	if made.Value() != 0 || made.Len() != 0 {
		t.Error("a new one has something:", made.Value(), made.Len())
	}
}

// P3.1: it tells at each byte what it has, however often it is asked, and goes on as before.
func TestSumGoesOn(t *testing.T) {
	b := []byte("123456789 and what comes behind it")
	var s check.Sum
	for i, n := range b {
		s.Write(n)
		for range 3 {
			if got, want := s.Value(), chapterSum(b[:i+1]); got != want || s.Len() != i+1 {
				t.Fatalf("%q: %#x of %d bytes, not %#x of %d", b[:i+1], got, s.Len(), want, i+1)
			}
		}
		s.Write()
	}
}

// A byte of 0 is one, too, wherever it stands.
func TestZerosCount(t *testing.T) {
	var s check.Sum
	seen := map[uint32]int{0: 0}
	for n := 1; n <= 600; n++ {
		s.Write(0)
		if ahead, ok := seen[s.Value()]; ok || s.Len() != n {
			t.Fatalf("%d zeros have the sum of %d, and are told as %d", n, ahead, s.Len())
		}
		seen[s.Value()] = n
	}
	if check.Of(7) == check.Of(0, 7) || check.Of(7) == check.Of(7, 0) {
		t.Error("a zero beside a byte doesn't count")
	}
}

// P3.1: one Sum knows nothing of another, nor of a copy.
func TestSumsAreApart(t *testing.T) {
	var a, b check.Sum
	a.Write('1', '2', '3')
	b.Write('x')
	c := a
	a.Write([]byte("456789")...)
	c.Write('!')
	for name, got := range map[string]struct {
		s    check.Sum
		want string
	}{"one": {a, "123456789"}, "another": {b, "x"}, "a copy": {c, "123!"}} {
		if got.s.Value() != chapterSum([]byte(got.want)) || got.s.Len() != len(got.want) {
			t.Errorf("%s: %#x of %d bytes, not those of %q", name, got.s.Value(), got.s.Len(), got.want)
		}
	}
}

// P3.1: a nil Sum takes nothing, and tells 0.
func TestNilSum(t *testing.T) {
	var s *check.Sum
	for _, b := range [][]byte{nil, {}, {1}, []byte("123456789")} {
		s.Write(b...)
		if s.Value() != 0 || s.Len() != 0 {
			t.Errorf("%q: %#x of %d bytes, not 0 of none", b, s.Value(), s.Len())
		}
	}
}

// P3.2: in two parts, wherever they are parted.
func TestTwoParts(t *testing.T) {
	for _, b := range texts() {
		want := check.Of(b...)
		for at := range len(b) + 1 {
			var s check.Sum
			s.Write(b[:at]...)
			s.Write(b[at:]...)
			if s.Value() != want || s.Len() != len(b) {
				t.Fatalf("%x parted at %d: %#x of %d, not %#x", b, at, s.Value(), s.Len(), want)
			}
		}
	}
}

// P3.2: in any parts, also empty ones.
func TestAnyParts(t *testing.T) {
	r := rand.New(rand.NewSource(2))
	for range 500 {
		b := make([]byte, r.Intn(1300))
		r.Read(b)
		want := chapterSum(b)
		var s check.Sum
		var ends []int
		for from := 0; from < len(b); {
			to := min(len(b), from+r.Intn(1+r.Intn(200)))
			s.Write(b[from:to]...)
			ends = append(ends, to)
			from = to
		}
		if s.Value() != want || s.Len() != len(b) || check.Of(b...) != want {
			t.Fatalf("%d bytes, parted at %v: %#x of %d, not %#x", len(b), ends, s.Value(), s.Len(), want)
		}
	}
}

// More bytes than sixteen bits count.
func TestManyBytes(t *testing.T) {
	b := make([]byte, 1<<17+3)
	rand.New(rand.NewSource(3)).Read(b)
	want := chapterSum(b)
	var s check.Sum
	for part := range slices.Chunk(b, 617) {
		s.Write(part...)
	}
	if s.Value() != want || s.Len() != len(b) || check.Of(b...) != want {
		t.Errorf("%#x of %d bytes, and %#x, not %#x of %d", s.Value(), s.Len(), check.Of(b...), want, len(b))
	}
}

// turned is bytes with the bits of a pattern turned, its lowest one at a place; what goes beyond their end is lost.
func turned(b []byte, pattern uint32, at int) []byte {
	l := slices.Clone(b)
	for bit := range 32 {
		if place := at + bit; pattern>>bit&1 == 1 && place < 8*len(l) {
			l[place/8] ^= 1 << (place % 8)
		}
	}
	return l
}

// patterns are bits beside each other, up to thirty-two, the first of which is turned.
func patterns() []uint32 {
	l := []uint32{math.MaxUint32, 0x80000001, 0x82f63b79, 0x05ec76f1, 0xdb710641}
	for wide := range 32 {
		l = append(l, 1<<wide-1|1, 1<<wide|1)
	}
	for n := uint32(1); n < 256; n += 2 {
		l = append(l, n)
	}
	r := rand.New(rand.NewSource(4))
	for range 300 {
		l = append(l, r.Uint32()>>r.Intn(32)|1)
	}
	return l
}

// P3.2: up to thirty-two bits beside each other that are turned change the sum, wherever they are.
func TestTurnedBitsAreSeen(t *testing.T) {
	long := make([]byte, 60)
	rand.New(rand.NewSource(5)).Read(long)
	for _, b := range [][]byte{{0}, []byte("123456789"), make([]byte, 20), long} {
		want := check.Of(b...)
		for at := range 8 * len(b) {
			for _, pattern := range patterns() {
				if check.Of(turned(b, pattern, at)...) == want {
					t.Fatalf("%x: the bits %b, turned from %d on, don't change its sum", b, pattern, at)
				}
			}
		}
	}
}

// Each byte's lowest bit is the first one: 33 bits in this order, turned as the divisor is, don't change the sum.
func TestThirtyThreeBitsMayBeUnseen(t *testing.T) {
	b := []byte("123456789")
	unseen := turned(turned(b, 1, 3), 2197175160, 4)
	if bytes.Equal(b, unseen) {
		t.Fatal("nothing is turned")
	}
	if got, want := check.Of(unseen...), check.Of(b...); got != want {
		t.Errorf("%#x, not %#x", got, want)
	}
}

// P1: with any bytes at all each call ends, and none panics, neither of a nil Sum.
func TestNothingPanics(t *testing.T) {
	for _, s := range []*check.Sum{nil, {}, new(check.Sum)} {
		for _, b := range texts() {
			s.Write(b...)
			s.Value()
			s.Len()
			check.Of(b...)
		}
	}
}

// answers are those of all calls, on some bytes.
func answers() []string {
	var l []string
	var s check.Sum
	for _, b := range texts() {
		s.Write(b...)
		l = append(l, strconv.Itoa(int(s.Value())), strconv.Itoa(s.Len()), strconv.Itoa(int(check.Of(b...))))
	}
	return l
}

// P2: an answer hangs on nothing but what the call, or its Sum, was given: neither on calls ahead of it nor on those beside it.
func TestAnswersStayTheSame(t *testing.T) {
	want := answers()
	var got [8][]string
	var all sync.WaitGroup
	for i := range got {
		all.Go(func() { got[i] = answers() })
	}
	all.Wait()
	for i := range got {
		if !slices.Equal(got[i], want) {
			t.Error("another answer", i)
		}
	}
}

// P2, and the document's third rule: bytes are neither changed nor kept, and what lies behind their length doesn't count.
func TestBytesAreLeftAlone(t *testing.T) {
	b := []byte("123456789abc")
	before := slices.Clone(b)
	var s check.Sum
	s.Write(b[:9]...)
	if got := check.Of(b[:9]...); got != 3808858755 || s.Value() != got {
		t.Error("not the sum of the first nine:", got, s.Value())
	}
	if !bytes.Equal(b, before) {
		t.Errorf("the bytes are changed: %q", b)
	}
	clear(b)
	if s.Value() != 3808858755 || s.Len() != 9 {
		t.Error("the Sum is changed with the bytes:", s.Value(), s.Len())
	}
}

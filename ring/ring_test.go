package ring_test

import (
	"bytes"
	"math"
	"math/rand"
	"reflect"
	"runtime"
	"sync"
	"testing"

	"sideband/api"
	"sideband/coder"
	"sideband/conceal"
	"sideband/ring"
)

// pushed are all packets that a ring was told, and how many it has room for: the chapter's words are gone through with these.
type pushed struct {
	room int
	all  []conceal.Packet
}

// push keeps a copy of a packet.
func (c *pushed) push(p conceal.Packet) int {
	p.Payload = bytes.Clone(p.Payload)
	c.all = append(c.all, p)
	return len(c.all) - 1
}

// isKept: as many as there's room for came last.
func (c *pushed) isKept(place int) bool {
	return place >= 0 && place < len(c.all) && len(c.all)-place <= c.room
}

// ends goes through all places from the beginning on.
func (c *pushed) ends() (int, int) {
	for place := range c.all {
		if c.isKept(place) {
			return place, len(c.all)
		}
	}
	return len(c.all), len(c.all)
}

// join is the last whole one of all, if it is kept.
func (c *pushed) join() (int, bool) {
	last := -1
	for place, p := range c.all {
		if p.Whole {
			last = place
		}
	}
	if c.isKept(last) {
		return last, true
	}
	return 0, false
}

func isSame(a, b conceal.Packet) bool {
	return a.Epoch == b.Epoch && a.Number == b.Number && a.Whole == b.Whole && bytes.Equal(a.Payload, b.Payload)
}

func isNothing(p conceal.Packet) bool {
	return p.Epoch == 0 && p.Number == 0 && !p.Whole && len(p.Payload) == 0
}

// newRing is a ring, and what it was told: nothing.
func newRing(t *testing.T, room int) (*ring.Ring, *pushed) {
	t.Helper()
	r, err := ring.New(room)
	if r == nil || err != api.OK {
		t.Fatal(room, r == nil, err)
	}
	return r, &pushed{room: room}
}

// hasEnds holds a ring's ends, and where one may join, against the chapter's words.
func hasEnds(t *testing.T, r *ring.Ring, c *pushed) {
	t.Helper()
	from, to := r.Ends()
	wantFrom, wantTo := c.ends()
	if from != wantFrom || to != wantTo {
		t.Fatalf("room %d, %d pushed: %d to %d, not %d to %d", c.room, len(c.all), from, to, wantFrom, wantTo)
	}
	place, ok := r.Join()
	want, wantOK := c.join()
	if place != want || ok != wantOK {
		t.Fatalf("room %d, %d pushed: Join %d, %t, not %d, %t", c.room, len(c.all), place, ok, want, wantOK)
	}
	follows(t, r)
}

// P21.2: from Join's place on all packets are kept; the first of them is whole, and no other one is.
func follows(t *testing.T, r *ring.Ring) {
	t.Helper()
	join, ok := r.Join()
	_, next := r.Ends()
	if !ok {
		return
	}
	for place := join; place < next; place++ {
		if p, kept := r.At(place); !kept || p.Whole != (place == join) {
			t.Fatalf("joined at %d, next %d: at %d: %t, whole: %t", join, next, place, kept, p.Whole)
		}
	}
}

// has holds what is at a place against the chapter's words.
func has(t *testing.T, r *ring.Ring, c *pushed, place int) {
	t.Helper()
	p, ok := r.At(place)
	if ok != c.isKept(place) {
		t.Fatalf("room %d, %d pushed, at %d: %t", c.room, len(c.all), place, ok)
	}
	if ok && !isSame(p, c.all[place]) || !ok && !isNothing(p) {
		t.Fatalf("room %d, %d pushed, at %d: %v", c.room, len(c.all), place, p)
	}
}

// hasAll holds all that a ring answers against the chapter's words, at places that were, that will be, and that never are.
func hasAll(t *testing.T, r *ring.Ring, c *pushed) {
	t.Helper()
	hasEnds(t, r, c)
	for place := -3; place < len(c.all)+3; place++ {
		has(t, r, c, place)
	}
	for _, place := range []int{-1025, -1024, len(c.all) + 1023, len(c.all) + 1024, len(c.all) + 1025, 1 << 31, 1 << 40, math.MinInt, math.MinInt + 1, math.MaxInt - 1, math.MaxInt} {
		has(t, r, c, place)
	}
}

// push pushes a packet to a ring, and to what was told.
func push(t *testing.T, r *ring.Ring, c *pushed, p conceal.Packet) {
	t.Helper()
	if got, want := r.Push(p), c.push(p); got != want {
		t.Fatalf("room %d: pushed at %d, not at %d", c.room, got, want)
	}
}

// numbered is a packet that only those of the same number are like.
func numbered(number int, whole bool) conceal.Packet {
	n := uint32(number)
	return conceal.Packet{Epoch: n ^ 0xaaaaaaaa, Number: n, Whole: whole, Payload: []byte{byte(n), byte(n >> 8), 1}}
}

// P21.1: a ring has room for 1 to 1024 packets.
func TestNew(t *testing.T) {
	if ring.Most != 1024 {
		t.Error(ring.Most)
	}
	for n := -3000; n <= 3000; n++ {
		r, err := ring.New(n)
		if n < 1 || n > 1024 {
			if r != nil || err != api.ErrArg {
				t.Error(n, r != nil, err)
			}
			continue
		}
		if r == nil || err != api.OK {
			t.Fatal(n, r == nil, err)
		}
		hasAll(t, r, &pushed{room: n})
	}
	for _, n := range []int{math.MinInt, math.MinInt + 1, -1 << 32, -1<<32 + 1, 1<<16 + 1, 1<<31 - 1, 1 << 31, 1 << 32, 1<<32 + 1, 1<<32 + 1024, math.MaxInt - 1, math.MaxInt} {
		if r, err := ring.New(n); r != nil || err != api.ErrArg {
			t.Error(n, r != nil, err)
		}
	}
}

// The chapter's example.
func TestNoJoin(t *testing.T) {
	r, c := newRing(t, 2)
	for i := range 3 {
		if place := r.Push(numbered(i, i == 0)); place != i {
			t.Error(i, place)
		}
		c.push(numbered(i, i == 0))
		if place, ok := r.Join(); ok != (i < 2) || place != 0 {
			t.Error(i, place, ok)
		}
	}
	if from, to := r.Ends(); from != 1 || to != 3 {
		t.Error(from, to)
	}
	hasAll(t, r, c)
	push(t, r, c, numbered(3, true))
	if place, ok := r.Join(); place != 3 || !ok {
		t.Error(place, ok)
	}
}

// P21.1, P21.2: rings of each small room, and each row of packets that are whole, or not.
func TestSmallRings(t *testing.T) {
	for room := 1; room <= 6; room++ {
		for wholes := range 1 << 9 {
			r, c := newRing(t, room)
			for i := range 9 {
				push(t, r, c, numbered(i, wholes>>i&1 == 1))
				hasAll(t, r, c)
			}
		}
	}
}

// P21.1: a ring of each room, up to twice full, and more.
func TestEachRoom(t *testing.T) {
	for room := 1; room <= ring.Most; room++ {
		r, c := newRing(t, room)
		period := max(1, room*2/3)
		for i := range 2*room + 3 {
			push(t, r, c, numbered(i, i%period == 0))
			if from, to := r.Ends(); from != max(0, i+1-room) || to != i+1 {
				t.Fatal(room, i, from, to)
			}
			if i+1 == room {
				hasAll(t, r, c)
			}
			has(t, r, c, i)
			has(t, r, c, i+1)
			has(t, r, c, i-room)
			has(t, r, c, i-room+1)
		}
		hasAll(t, r, c)
	}
}

// P21.1: one whole packet is where one may join as long as it is kept, and no longer.
func TestJoinTillItIsDropped(t *testing.T) {
	for _, room := range []int{1, 2, 3, 7, 8, 9, 255, 256, 257, 1023, 1024} {
		for _, ahead := range []int{0, 1, room - 1, room, room + 1} {
			r, c := newRing(t, room)
			for i := range ahead {
				push(t, r, c, numbered(i, false))
			}
			push(t, r, c, numbered(ahead, true))
			for since := range room + 2 {
				place, ok := r.Join()
				if ok != (since < room) || ok && place != ahead || !ok && place != 0 {
					t.Fatal(room, ahead, since, place, ok)
				}
				push(t, r, c, numbered(ahead+since+1, false))
			}
			hasAll(t, r, c)
		}
	}
}

// P21.1: whatever a packet holds, it is kept as it is; a ring looks at nothing but whether it says that it's whole.
func TestPacketsAreKeptAsTheyAre(t *testing.T) {
	long := make([]byte, 70000)
	for i := range long {
		long[i] = byte(i * 7)
	}
	l := []conceal.Packet{
		{},
		{Payload: []byte{}},
		{Whole: true},
		{Epoch: math.MaxUint32, Number: math.MaxUint32, Whole: true, Payload: long},
		{Epoch: 1, Payload: []byte{0}},
		{Number: 1, Payload: []byte{0x80, 0, 0, 255}},
		{Number: 1, Payload: []byte{0x80, 0, 0, 255}},
		{Number: 0, Whole: true, Payload: []byte("not a payload")},
		{Epoch: 1 << 31, Number: 1 << 31, Payload: long[:600]},
	}
	for room := 1; room <= len(l)+1; room++ {
		r, c := newRing(t, room)
		for range 3 {
			for _, p := range l {
				push(t, r, c, p)
				hasAll(t, r, c)
			}
		}
	}
}

// P21.1, P21.2: of the packets of a coder: who joins hears from there on what all hear.
func TestSound(t *testing.T) {
	frames, err := coder.New(5, 100)
	if err != api.OK {
		t.Fatal(err)
	}
	random := rand.New(rand.NewSource(1))
	r, c := newRing(t, 5)
	heard := make([][]int16, 0, 60)
	for i := range 60 {
		pcm := make([]int16, 512)
		for j := range pcm {
			pcm[j] = int16(random.Intn(20000) - 10000)
		}
		payload, whole, err := frames.Encode(uint32(i), pcm, i%4 == 0)
		if err != api.OK {
			t.Fatal(i, err)
		}
		heard = append(heard, frames.Heard())
		push(t, r, c, conceal.Packet{Epoch: 9, Number: uint32(i), Whole: whole, Payload: payload})
		hasAll(t, r, c)
		from, ok := r.Join()
		if !ok || from != i/4*4 {
			t.Fatal(i, from, ok)
		}
		ear := conceal.New()
		_, to := r.Ends()
		for place := from; place < to; place++ {
			p, _ := r.At(place)
			sound, err := ear.Hear(p)
			if err != api.OK || len(sound) != 1 || place > from && !reflect.DeepEqual(sound[0], heard[place]) {
				t.Fatal(i, place, err, len(sound))
			}
		}
	}
}

// P21.1, P21.2: any packets, in rings of any room; what is asked between changes nothing.
func TestAnyPackets(t *testing.T) {
	random := rand.New(rand.NewSource(2))
	for n := range 300 {
		room := 1 + random.Intn(1<<(n%11))
		r, c := newRing(t, room)
		seldom := 1 + random.Intn(2*room)
		for range random.Intn(4 * room) {
			push(t, r, c, anyPacket(random, random.Intn(seldom) == 0))
			if random.Intn(room) == 0 {
				hasEnds(t, r, c)
				has(t, r, c, random.Intn(len(c.all)+2)-1)
			}
		}
		hasAll(t, r, c)
	}
}

func anyPacket(random *rand.Rand, whole bool) conceal.Packet {
	b := make([]byte, random.Intn(10))
	random.Read(b)
	return conceal.Packet{Epoch: random.Uint32(), Number: random.Uint32(), Whole: whole, Payload: b}
}

// P21.1: places go on to be counted, however many are pushed.
func TestManyPackets(t *testing.T) {
	const many = 1 << 20
	r, err := ring.New(1000)
	if err != api.OK {
		t.Fatal(err)
	}
	for i := range many {
		if place := r.Push(conceal.Packet{Number: uint32(i), Whole: i%997 == 0}); place != i {
			t.Fatal(i, place)
		}
	}
	if from, to := r.Ends(); from != many-1000 || to != many {
		t.Error(from, to)
	}
	if place, ok := r.Join(); place != (many-1)/997*997 || !ok {
		t.Error(place, ok)
	}
	for place := many - 1010; place < many+10; place++ {
		p, ok := r.At(place)
		if ok != (place >= many-1000 && place < many) || ok && int(p.Number) != place || !ok && p.Number != 0 {
			t.Error(place, p, ok)
		}
	}
}

// P21.1: of a nil ring: 0, false.
func TestNil(t *testing.T) {
	var r *ring.Ring
	for range 2 {
		if place := r.Push(numbered(1, true)); place != 0 {
			t.Error(place)
		}
		if from, to := r.Ends(); from != 0 || to != 0 {
			t.Error(from, to)
		}
		if place, ok := r.Join(); place != 0 || ok {
			t.Error(place, ok)
		}
		for _, place := range []int{math.MinInt, -1, 0, 1, 1024, math.MaxInt} {
			if p, ok := r.At(place); !isNothing(p) || ok {
				t.Error(place, p, ok)
			}
		}
	}
}

// P1: a ring of no one's making has no room, and doesn't panic either.
func TestZero(t *testing.T) {
	var r ring.Ring
	c := &pushed{}
	for i := range 3 {
		hasAll(t, &r, c)
		push(t, &r, c, numbered(i, true))
	}
	hasAll(t, &r, c)
}

// What isn't kept any more takes no room; nor does what lies behind a payload.
func TestKeepsLittle(t *testing.T) {
	var ahead, after runtime.MemStats
	runtime.GC()
	runtime.ReadMemStats(&ahead)
	var rings []*ring.Ring
	for n := range 50 {
		r, _ := newRing(t, 1+n%3)
		for i := range 30 {
			b := make([]byte, 1<<20)
			switch i % 3 {
			case 0:
				b = b[:1]
			case 1:
				b = b[:0]
			}
			r.Push(conceal.Packet{Payload: b, Whole: i%2 == 0})
		}
		for long := range 3 {
			r.Push(conceal.Packet{Payload: make([]byte, 1<<20)[:2-long]})
		}
		rings = append(rings, r)
	}
	runtime.GC()
	runtime.ReadMemStats(&after)
	if kept := int64(after.HeapAlloc) - int64(ahead.HeapAlloc); kept > 1<<20 {
		t.Errorf("%d bytes are kept", kept)
	}
	runtime.KeepAlive(rings)
}

// What is handed in isn't kept and not changed, and what is answered is one's own.
func TestPayloadsAreApart(t *testing.T) {
	r, _ := newRing(t, 2)
	store := []byte("abcdef")
	r.Push(conceal.Packet{Number: 1, Payload: store[:3]})
	r.Push(conceal.Packet{Number: 2, Payload: store[2:4]})
	if string(store) != "abcdef" {
		t.Errorf("%q", store)
	}
	clear(store)
	p, _ := r.At(0)
	q, _ := r.At(0)
	next, _ := r.At(1)
	if string(p.Payload) != "abc" || string(q.Payload) != "abc" || string(next.Payload) != "cd" {
		t.Fatal(p, q, next)
	}
	clear(p.Payload[:cap(p.Payload)])
	p.Number, p.Whole = 7, true
	_ = append(next.Payload, "yyyyyyyyyyyyyyyyyyyy"...)
	clear(next.Payload)
	if string(q.Payload) != "abc" {
		t.Error(q)
	}
	for place, want := range []conceal.Packet{{Number: 1, Payload: []byte("abc")}, {Number: 2, Payload: []byte("cd")}} {
		if again, ok := r.At(place); !ok || !isSame(again, want) {
			t.Error(place, again)
		}
	}
	if place, ok := r.Join(); place != 0 || ok {
		t.Error(place, ok)
	}
	// What was answered stays, also when the ring doesn't keep it any more.
	r.Push(conceal.Packet{Number: 3, Payload: []byte("xyz")})
	r.Push(conceal.Packet{Number: 4, Payload: []byte("xyz")})
	if string(q.Payload) != "abc" || q.Number != 1 {
		t.Error(q)
	}
}

// P2: a ring hangs on what it was told alone: others beside it, and copies of it, don't matter.
func TestRingsAreApart(t *testing.T) {
	for _, room := range []int{1, 2, 5, 1024} {
		r, c := newRing(t, room)
		far, of := newRing(t, room)
		for i := range room + room/2 {
			push(t, r, c, numbered(i, i%3 == 0))
			push(t, far, of, numbered(-i, i%2 == 0))
		}
		copied := *r
		ofCopy := &pushed{room: room, all: append([]conceal.Packet(nil), c.all...)}
		for i := range room {
			push(t, &copied, ofCopy, numbered(1000000+i, i%5 == 0))
			if i%2 == 0 {
				push(t, r, c, numbered(2000000+i, i%7 == 0))
			}
			if i%4 == 0 {
				push(t, far, of, numbered(3000000+i, i%6 == 0))
			}
		}
		hasAll(t, r, c)
		hasAll(t, &copied, ofCopy)
		hasAll(t, far, of)
	}
}

// answers are those of the calls for some packets.
func answers() []any {
	random := rand.New(rand.NewSource(3))
	var l []any
	for n := range 60 {
		room := random.Intn(1 << (n % 12))
		r, err := ring.New(room)
		l = append(l, err)
		for range random.Intn(100) {
			l = append(l, r.Push(anyPacket(random, random.Intn(10) == 0)))
			from, to := r.Ends()
			p, kept := r.At(random.Intn(100))
			place, ok := r.Join()
			l = append(l, from, to, p, kept, place, ok)
		}
	}
	return l
}

// P2: the same calls answer the same, also where others call beside them.
func TestAnswersStayTheSame(t *testing.T) {
	want := answers()
	var all sync.WaitGroup
	for range 8 {
		all.Go(func() {
			if !reflect.DeepEqual(answers(), want) {
				t.Error("other answers")
			}
		})
	}
	all.Wait()
}

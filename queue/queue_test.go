package queue_test

import (
	"bytes"
	"fmt"
	"math"
	"math/rand"
	"reflect"
	"runtime"
	"slices"
	"sync"
	"testing"

	"sideband/api"
	"sideband/queue"
)

// What became of a packet.
const (
	waits = iota
	went
	isLost
)

// offered is a packet that a queue was told, and what became of it.
type offered struct {
	bytes []byte
	fate  int
}

// told is all that a queue was told, and what went: the chapter's words are gone through with these, byte by byte.
type told struct {
	room    int
	drops   bool
	must    []byte
	packets []offered
}

func (c *told) waiting() int { return c.with(waits) }

// with is how many packets had a fate.
func (c *told) with(fate int) int {
	n := 0
	for _, p := range c.packets {
		if p.fate == fate {
			n++
		}
	}
	return n
}

func (c *told) flush() {
	for i := range c.packets {
		if c.packets[i].fate == waits {
			c.packets[i].fate = isLost
		}
	}
	c.drops = true
}

func (c *told) offer(b []byte, whole bool) bool {
	if c.waiting() == c.room {
		c.flush()
	}
	p := offered{bytes: bytes.Clone(b), fate: waits}
	if c.drops && !whole {
		p.fate = isLost
	}
	c.packets = append(c.packets, p)
	c.drops = c.drops && p.fate == isLost
	return p.fate == waits
}

// take takes byte by byte.
func (c *told) take(n int) []byte {
	var l []byte
	for len(l) < n {
		if len(c.must) > 0 {
			l = append(l, c.must[0])
			c.must = c.must[1:]
			continue
		}
		i := slices.IndexFunc(c.packets, func(p offered) bool { return p.fate == waits })
		if i < 0 {
			break
		}
		c.packets[i].fate = went
		c.must = c.packets[i].bytes
	}
	return l
}

// clone is one of its own, that goes on where this one is.
func (c *told) clone() *told {
	n := *c
	n.must, n.packets = bytes.Clone(c.must), slices.Clone(c.packets)
	return &n
}

// newQueue is a queue, and what it was told: nothing.
func newQueue(t *testing.T, room int) (*queue.Queue, *told) {
	t.Helper()
	q, err := queue.New(room)
	if q == nil || err != api.OK {
		t.Fatal(room, q == nil, err)
	}
	return q, &told{room: room, drops: true}
}

// has holds what a queue tells against the chapter's words.
func has(t *testing.T, q *queue.Queue, c *told) {
	t.Helper()
	packets, must := q.Waits()
	if packets != c.waiting() || must != len(c.must) || q.Lost() != c.with(isLost) {
		t.Fatalf("room %d: %d packets, %d bytes, %d lost, not %d, %d, %d", c.room, packets, must, q.Lost(), c.waiting(), len(c.must), c.with(isLost))
	}
}

func say(t *testing.T, q *queue.Queue, c *told, b []byte) {
	t.Helper()
	q.Say(b...)
	c.must = append(slices.Clip(c.must), b...)
	has(t, q, c)
}

func offer(t *testing.T, q *queue.Queue, c *told, b []byte, whole bool) {
	t.Helper()
	if got, want := q.Offer(b, whole), c.offer(b, whole); got != want {
		t.Fatalf("room %d: %q, whole: %t: %t", c.room, b, whole, got)
	}
	has(t, q, c)
}

func take(t *testing.T, q *queue.Queue, c *told, n int) []byte {
	t.Helper()
	got, want := q.Take(n), c.take(n)
	if !bytes.Equal(got, want) {
		t.Fatalf("room %d, take %d: %q, not %q", c.room, n, got, want)
	}
	has(t, q, c)
	return got
}

func flush(t *testing.T, q *queue.Queue, c *told) {
	t.Helper()
	q.Flush()
	c.flush()
	has(t, q, c)
}

// P22.1: a queue has room for 1 to 256 packets; it is empty, and drops.
func TestNew(t *testing.T) {
	if queue.Most != 256 {
		t.Error(queue.Most)
	}
	for n := -1000; n <= 1000; n++ {
		q, err := queue.New(n)
		if n < 1 || n > 256 {
			if q != nil || err != api.ErrArg {
				t.Error(n, q != nil, err)
			}
			continue
		}
		if q == nil || err != api.OK {
			t.Fatal(n, q == nil, err)
		}
		c := &told{room: n, drops: true}
		has(t, q, c)
		take(t, q, c, 9)
		offer(t, q, c, []byte("a"), false)
		offer(t, q, c, []byte("B"), true)
		take(t, q, c, 9)
	}
	for _, n := range []int{math.MinInt, math.MinInt + 1, -1 << 32, -1<<32 + 1, 1<<16 + 1, 1<<31 - 1, 1 << 31, 1 << 32, 1<<32 + 1, 1<<32 + 256, math.MaxInt - 1, math.MaxInt} {
		if q, err := queue.New(n); q != nil || err != api.ErrArg {
			t.Error(n, q != nil, err)
		}
	}
}

// The chapter's example.
func TestRoomForOne(t *testing.T) {
	for _, c := range []struct {
		goes      int
		taken     bool
		wait, due int
		lost      int
		left      string
	}{{0, false, 0, 0, 2, ""}, {1, true, 1, 2, 0, "BBc"}, {3, true, 1, 0, 0, "c"}} {
		q, err := queue.New(1)
		if err != api.OK || !q.Offer([]byte("BBB"), true) {
			t.Fatal(err)
		}
		if l := q.Take(c.goes); string(l) != "BBB"[:c.goes] {
			t.Errorf("%q", l)
		}
		if q.Offer([]byte("c"), false) != c.taken {
			t.Error(c)
		}
		if wait, due := q.Waits(); wait != c.wait || due != c.due || q.Lost() != c.lost {
			t.Error(c, wait, due, q.Lost())
		}
		if l := q.Take(9); string(l) != c.left {
			t.Errorf("%q", l)
		}
	}
}

// P22.1: a queue of each room is filled, and once more: then all is lost, up to the next whole one.
func TestEachRoom(t *testing.T) {
	for room := 1; room <= queue.Most; room++ {
		for _, lastWhole := range []bool{false, true} {
			q, c := newQueue(t, room)
			for i := range room {
				if !q.Offer([]byte{byte(i), 1}, i == 0) {
					t.Fatal(room, i)
				}
				c.offer([]byte{byte(i), 1}, i == 0)
				if n, must := q.Waits(); n != i+1 || must != 0 || q.Lost() != 0 {
					t.Fatal(room, i, n, must, q.Lost())
				}
			}
			offer(t, q, c, []byte("last"), lastWhole)
			if n, _ := q.Waits(); lastWhole && (n != 1 || q.Lost() != room) || !lastWhole && (n != 0 || q.Lost() != room+1) {
				t.Fatal(room, lastWhole, n, q.Lost())
			}
			offer(t, q, c, []byte("b"), false)
			offer(t, q, c, []byte("C"), true)
			offer(t, q, c, []byte("d"), false)
			take(t, q, c, math.MaxInt)
		}
	}
}

// P22.1, P22.2: where one of the packets that fill a queue is begun, there's room for one more; also where they stand around its end.
func TestRoomForOneMore(t *testing.T) {
	for _, room := range []int{1, 2, 3, 100, 255, 256} {
		q, c := newQueue(t, room)
		offer(t, q, c, []byte("AA"), true)
		for i := range 700 {
			for c.waiting() < room {
				offer(t, q, c, []byte{byte(i), 0}, false)
			}
			take(t, q, c, len(c.must)+1)
			offer(t, q, c, []byte{byte(i), 1}, false)
			if q.Lost() != 0 {
				t.Fatal(room, i)
			}
		}
		take(t, q, c, math.MaxInt)
	}
}

// act does one of seven things that may be done with a queue.
func act(t *testing.T, q *queue.Queue, c *told, which int, number byte) {
	t.Helper()
	switch which {
	case 0:
		say(t, q, c, []byte{number, 's'})
	case 1:
		offer(t, q, c, []byte{number, 'W', 'w'}, true)
	case 2:
		offer(t, q, c, []byte{number, 'p'}, false)
	case 3:
		offer(t, q, c, nil, number%2 == 0)
	case 4:
		take(t, q, c, 1)
	case 5:
		take(t, q, c, 3)
	case 6:
		flush(t, q, c)
	}
}

// P22.1, P22.2: each row of five things that may be done, in queues of small room.
func TestEachRow(t *testing.T) {
	const kinds, long = 7, 5
	rows := 1
	for range long {
		rows *= kinds
	}
	for room := 1; room <= 2; room++ {
		for row := range rows {
			q, c := newQueue(t, room)
			left := row
			for i := range long {
				act(t, q, c, left%kinds, byte(i))
				left /= kinds
			}
			take(t, q, c, 99)
		}
	}
}

// P22.2: those that must go are first, also those that are said when a packet is begun: they're behind what is left of it.
func TestSaid(t *testing.T) {
	q, c := newQueue(t, 3)
	say(t, q, c, nil)
	say(t, q, c, []byte("head "))
	offer(t, q, c, []byte("ABCD"), true)
	offer(t, q, c, []byte("efgh"), false)
	say(t, q, c, []byte("more "))
	for _, s := range []string{"head m", "ore A"} {
		if l := take(t, q, c, len(s)); string(l) != s {
			t.Errorf("%q", l)
		}
	}
	say(t, q, c, []byte("between "))
	say(t, q, c, []byte{})
	say(t, q, c, []byte("and "))
	if n, must := q.Waits(); n != 1 || must != 15 {
		t.Error(n, must)
	}
	for _, s := range []string{"B", "CDbetw", "een and ef"} {
		if l := take(t, q, c, len(s)); string(l) != s {
			t.Errorf("%q", l)
		}
	}
	say(t, q, c, []byte("end"))
	if l := take(t, q, c, 99); string(l) != "ghend" {
		t.Errorf("%q", l)
	}
}

// P22.1, P22.2: what is begun goes whole, whatever is lost behind it; so does what was said.
func TestBegunGoesWhole(t *testing.T) {
	for goes := range 5 {
		q, c := newQueue(t, 2)
		offer(t, q, c, []byte("ABCD"), true)
		offer(t, q, c, []byte("efgh"), false)
		take(t, q, c, goes)
		say(t, q, c, []byte("said"))
		flush(t, q, c)
		flush(t, q, c)
		if n, must := q.Waits(); n != 0 || goes > 0 && must != 8-goes || goes == 0 && must != 4 {
			t.Error(goes, n, must)
		}
		if want := map[bool]int{false: 1, true: 2}[goes == 0]; q.Lost() != want {
			t.Error(goes, q.Lost())
		}
		offer(t, q, c, []byte("ijkl"), false)
		offer(t, q, c, []byte("MNOP"), true)
		want := "ABCD"[goes:] + "saidMNOP"
		if goes == 0 {
			want = "saidMNOP"
		}
		if l := take(t, q, c, 99); string(l) != want {
			t.Errorf("%d: %q", goes, l)
		}
	}
}

// P22.1: a Flush makes a queue drop, also where nothing is lost.
func TestFlush(t *testing.T) {
	q, c := newQueue(t, 4)
	offer(t, q, c, []byte("A"), true)
	offer(t, q, c, []byte("b"), false)
	take(t, q, c, 9)
	offer(t, q, c, []byte("c"), false)
	take(t, q, c, 9)
	flush(t, q, c)
	if q.Lost() != 0 {
		t.Error(q.Lost())
	}
	offer(t, q, c, []byte("d"), false)
	if q.Lost() != 1 {
		t.Error(q.Lost())
	}
	offer(t, q, c, []byte("E"), true)
	if l := take(t, q, c, 9); string(l) != "E" {
		t.Errorf("%q", l)
	}
}

// P22.2: none is taken, if n is below 1; all there is, if it is more.
func TestHowMany(t *testing.T) {
	q, c := newQueue(t, 2)
	for _, n := range []int{0, 1, math.MaxInt} {
		take(t, q, c, n)
	}
	say(t, q, c, []byte("said"))
	offer(t, q, c, []byte("ABCD"), true)
	for _, n := range []int{0, -1, -4, -1 << 32, 1 - 1<<32, math.MinInt, math.MinInt + 1} {
		if l := q.Take(n); len(l) != 0 {
			t.Errorf("%d: %q", n, l)
		}
		has(t, q, c)
	}
	if l := take(t, q, c, math.MaxInt); string(l) != "saidABCD" {
		t.Errorf("%q", l)
	}
	for n := range 12 {
		q, c := newQueue(t, 2)
		say(t, q, c, []byte("said"))
		offer(t, q, c, []byte("ABCD"), true)
		offer(t, q, c, []byte("e"), false)
		if l := take(t, q, c, n); string(l) != "saidABCDe"[:min(n, 9)] {
			t.Errorf("%d: %q", n, l)
		}
	}
}

// P22.2: a packet of no bytes is taken where bytes are wanted, and not ahead of that.
func TestNoBytes(t *testing.T) {
	q, c := newQueue(t, 3)
	offer(t, q, c, []byte("AB"), true)
	offer(t, q, c, nil, false)
	offer(t, q, c, []byte{}, false)
	for _, w := range []struct {
		n         int
		goes      string
		wait, due int
	}{{1, "A", 2, 1}, {0, "", 2, 1}, {1, "B", 2, 0}, {0, "", 2, 0}, {-1, "", 2, 0}, {1, "", 0, 0}, {1, "", 0, 0}} {
		if l := take(t, q, c, w.n); string(l) != w.goes {
			t.Errorf("%v: %q", w, l)
		}
		if n, must := q.Waits(); n != w.wait || must != w.due {
			t.Error(w, n, must)
		}
	}
	offer(t, q, c, nil, false)
	offer(t, q, c, nil, false)
	offer(t, q, c, nil, false)
	if n, _ := q.Waits(); n != 3 {
		t.Error(n)
	}
	offer(t, q, c, nil, false)
	if q.Lost() != 4 {
		t.Error(q.Lost())
	}
	offer(t, q, c, nil, true)
	offer(t, q, c, []byte("z"), false)
	if l := take(t, q, c, 1); string(l) != "z" {
		t.Errorf("%q", l)
	}
}

// marked is a packet that tells of itself: how many bytes it has behind the first four, its number, and whether it is whole.
func marked(random *rand.Rand, number int, whole bool) []byte {
	b := []byte{byte(random.Intn(20)), byte(number), byte(number >> 8), 0}
	if whole {
		b[3] = 1
	}
	for i := range b[0] {
		b = append(b, i)
	}
	return b
}

// P22.3: what is taken is packets, whole and in order; behind a lost one the next is a whole one.
func TestWholeAndInOrder(t *testing.T) {
	random := rand.New(rand.NewSource(1))
	for n := range 200 {
		q, _ := newQueue(t, 1+random.Intn(1<<(n%9)))
		var all []byte
		for i := range 400 {
			whole := random.Intn(8) == 0
			q.Offer(marked(random, i, whole), whole)
			all = append(all, q.Take(random.Intn(26))...)
			if random.Intn(50) == 0 {
				q.Flush()
			}
		}
		waiting, _ := q.Waits()
		all = append(all, q.Take(math.MaxInt)...)
		taken, next := 0, 0
		for len(all) > 0 {
			b := all[:4+int(all[0])]
			for i, c := range b[4:] {
				if int(c) != i {
					t.Fatal("not as it was offered", b)
				}
			}
			number := int(b[1]) + int(b[2])<<8
			if number < next || b[3] == 0 && (number != next || taken == 0) {
				t.Fatal("doesn't follow, and isn't whole", number, next)
			}
			next = number + 1
			taken++
			all = all[len(b):]
		}
		if taken+q.Lost() != 400 {
			t.Fatal("none is forgotten", taken, q.Lost(), waiting)
		}
	}
}

// anyBytes are some.
func anyBytes(random *rand.Rand, most int) []byte {
	b := make([]byte, random.Intn(most+1))
	random.Read(b)
	return b
}

// P22.1, P22.2: anything done with queues of any room, in any order.
func TestAnyQueue(t *testing.T) {
	random := rand.New(rand.NewSource(2))
	for n := range 600 {
		q, c := newQueue(t, 1+random.Intn(1<<(n%9)))
		long := 1 << random.Intn(8)
		slow := 1 + random.Intn(9)
		for range 200 {
			switch k := random.Intn(12); {
			case k < 2:
				say(t, q, c, anyBytes(random, long))
			case k < 7:
				offer(t, q, c, anyBytes(random, long), random.Intn(5) == 0)
			case k < 11:
				take(t, q, c, random.Intn(3*long+3)/slow-1)
			case random.Intn(6) == 0:
				flush(t, q, c)
			}
		}
		take(t, q, c, math.MaxInt)
		take(t, q, c, 1)
	}
}

// P22.2: much that is said, little by little, or at once, goes in its order, little by little, or at once.
func TestMuch(t *testing.T) {
	random := rand.New(rand.NewSource(3))
	for _, most := range []int{1, 2, 1000, 1 << 19} {
		for _, goes := range []int{1, 3, 700, 1 << 22} {
			q, _ := newQueue(t, 1)
			b := make([]byte, 1<<19)
			random.Read(b)
			for from := 0; from < len(b); {
				to := min(from+1+random.Intn(most), len(b))
				q.Say(b[from:to]...)
				from = to
			}
			if n, must := q.Waits(); n != 0 || must != len(b) {
				t.Fatal(most, n, must)
			}
			var l []byte
			for len(l) < len(b) {
				part := q.Take(goes)
				if len(part) == 0 || len(part) > goes {
					t.Fatal(most, goes, len(part))
				}
				l = append(l, part...)
			}
			if n, must := q.Waits(); n != 0 || must != 0 || !bytes.Equal(l, b) {
				t.Fatal(most, goes, n, must)
			}
		}
	}
}

// P22.2: a long packet, and what is said between, byte by byte.
func TestLongPacket(t *testing.T) {
	q, _ := newQueue(t, 1)
	b := make([]byte, 1<<18)
	for i := range b {
		b[i] = byte(i ^ i>>8)
	}
	q.Offer(b, true)
	for i := range b {
		if l := q.Take(1); len(l) != 1 || l[0] != b[i] {
			t.Fatal(i, l)
		}
		q.Say(b[i], byte(i))
	}
	for i := range b {
		if l := q.Take(2); !bytes.Equal(l, []byte{b[i], byte(i)}) {
			t.Fatal(i, l)
		}
	}
	if l := q.Take(1); len(l) != 0 {
		t.Error(l)
	}
}

// P22.2: of a nil queue: nothing, 0, false.
func TestNil(t *testing.T) {
	var q *queue.Queue
	for range 2 {
		q.Say()
		q.Say([]byte("said")...)
		if q.Offer([]byte("A"), true) || q.Offer(nil, false) {
			t.Error("taken")
		}
		for _, n := range []int{math.MinInt, -1, 0, 1, math.MaxInt} {
			if l := q.Take(n); len(l) != 0 {
				t.Error(n, l)
			}
		}
		if n, must := q.Waits(); n != 0 || must != 0 || q.Lost() != 0 {
			t.Error(n, must, q.Lost())
		}
		q.Flush()
	}
}

// P1: a queue of no one's making has no room, and doesn't panic either.
func TestZero(t *testing.T) {
	var q queue.Queue
	for i := range 3 {
		if q.Offer([]byte("A"), true) || q.Offer([]byte("b"), false) || q.Lost() != 2*i+2 {
			t.Error(i, q.Lost())
		}
		q.Say([]byte("said")...)
		if l := q.Take(3); string(l) != "sai" {
			t.Errorf("%q", l)
		}
		if n, must := q.Waits(); n != 0 || must != 1 {
			t.Error(n, must)
		}
		q.Flush()
		if l := q.Take(3); string(l) != "d" {
			t.Errorf("%q", l)
		}
	}
}

// What went, or was lost, takes no room; nor does what lies behind a list that was handed in.
func TestKeepsLittle(t *testing.T) {
	var ahead, after runtime.MemStats
	runtime.GC()
	runtime.ReadMemStats(&ahead)
	const big = 1 << 20
	var queues []*queue.Queue
	for i := range 60 {
		q, _ := newQueue(t, 1+i%3)
		b := make([]byte, big)
		switch i % 6 {
		case 0:
			q.Offer(b, true)
			q.Take(big - 1)
		case 1:
			q.Say(b...)
			q.Take(big - 9)
			q.Say(b[:1]...)
		case 2:
			q.Offer(b, true)
			q.Flush()
		case 3:
			q.Offer(b[:0], true)
			q.Offer(b[5:6], false)
			q.Say(b[:0]...)
			q.Say(b[7:8]...)
		case 4:
			q.Offer(b, true)
			q.Take(big)
		case 5:
			for range 1000 {
				q.Offer(b[:100], true)
				q.Take(100)
				q.Say(b[:1]...)
			}
		}
		queues = append(queues, q)
	}
	runtime.GC()
	runtime.ReadMemStats(&after)
	if kept := int64(after.HeapAlloc) - int64(ahead.HeapAlloc); kept > big {
		t.Errorf("%d bytes are kept", kept)
	}
	runtime.KeepAlive(queues)
}

// What is handed in isn't kept and not changed, and what is answered is one's own.
func TestBytesAreApart(t *testing.T) {
	q, _ := newQueue(t, 3)
	store := []byte("saidABCDefgh")
	q.Say(store[:2]...)
	q.Say(store[2:4]...)
	q.Offer(store[4:8], true)
	q.Offer(store[8:12], false)
	if string(store) != "saidABCDefgh" {
		t.Errorf("%q", store)
	}
	clear(store)
	var parts [][]byte
	for _, want := range []string{"sai", "dA", "BCDe", "f", "g"} {
		l := q.Take(len(want))
		if string(l) != want {
			t.Errorf("%q, not %q", l, want)
		}
		parts = append(parts, bytes.Clone(l))
		clear(l[:cap(l)])
		_ = append(l, "yyyyyyyyyyyyyyyyyyyyyyyy"...)
	}
	if l := q.Take(9); string(l) != "h" || !bytes.Equal(bytes.Join(parts, nil), []byte("saidABCDefg")) {
		t.Errorf("%q, %q", l, parts)
	}
}

// P2: a queue hangs on what it was told alone: others beside it, and copies of it, don't matter.
func TestQueuesAreApart(t *testing.T) {
	random := rand.New(rand.NewSource(4))
	for n := range 300 {
		room := 1 + random.Intn(1<<(n%9))
		q, c := newQueue(t, room)
		queues, tolds := []*queue.Queue{q}, []*told{c}
		for i := range 150 {
			which := random.Intn(len(queues))
			if i%15 == 14 {
				copied := *queues[which]
				queues, tolds = append(queues, &copied), append(tolds, tolds[which].clone())
			}
			act(t, queues[which], tolds[which], random.Intn(7)%(1+random.Intn(7)), byte(i))
		}
		for i := range queues {
			take(t, queues[i], tolds[i], 1+random.Intn(50))
			has(t, queues[i], tolds[i])
		}
		for i := range queues {
			take(t, queues[i], tolds[i], math.MaxInt)
		}
	}
}

// answers are those of the calls for some queues.
func answers() []string {
	random := rand.New(rand.NewSource(5))
	var l []string
	for n := range 60 {
		q, err := queue.New(random.Intn(1 << (n % 10)))
		l = append(l, fmt.Sprint(err))
		for range random.Intn(100) {
			q.Say(anyBytes(random, 9)...)
			taken := q.Offer(anyBytes(random, 30), random.Intn(9) == 0)
			got := q.Take(random.Intn(25))
			packets, must := q.Waits()
			l = append(l, fmt.Sprint(taken, got, packets, must, q.Lost()))
			if random.Intn(20) == 0 {
				q.Flush()
			}
		}
	}
	return l
}

// P2: the same calls answer the same, also where others call beside them.
func TestAnswersStayTheSame(t *testing.T) {
	want := answers()
	var all sync.WaitGroup
	for range 8 {
		all.Go(func() {
			if !reflect.DeepEqual(answers(), want) {
				t.Error("other answers")
			}
		})
	}
	all.Wait()
}

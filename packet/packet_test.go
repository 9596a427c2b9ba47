package packet_test

import (
	"bytes"
	"encoding/binary"
	"hash/crc32"
	"math"
	"math/rand"
	"reflect"
	"runtime"
	"slices"
	"strings"
	"sync"
	"testing"

	"sideband/api"
	"sideband/coder"
	"sideband/conceal"
	"sideband/packet"
)

// seal puts the sum behind bytes, without layer 3.
func seal(b string) string {
	sum := crc32.Checksum([]byte(b), crc32.MakeTable(crc32.Castagnoli))
	return string(binary.LittleEndian.AppendUint32([]byte(b), sum))
}

// header is what stands ahead of a payload of so many bytes.
func header(whole byte, epoch, number uint32, long uint16) string {
	b := []byte{83, 66, whole}
	b = binary.LittleEndian.AppendUint32(b, epoch)
	b = binary.LittleEndian.AppendUint32(b, number)
	return string(binary.LittleEndian.AppendUint16(b, long))
}

// chapterBytes goes through the chapter's words.
func chapterBytes(p conceal.Packet) string {
	whole := byte(0)
	if p.Whole {
		whole = 1
	}
	return seal(header(whole, p.Epoch, p.Number, uint16(len(p.Payload))) + string(p.Payload))
}

// chapterParse goes through the chapter's words, one error behind the other.
func chapterParse(s string) (conceal.Packet, int, api.Errno) {
	if s != "" && !strings.HasPrefix("SB", s[:min(2, len(s))]) || len(s) > 2 && strings.IndexByte("\x00\x01", s[2]) < 0 {
		return conceal.Packet{}, 0, api.ErrForm
	}
	if len(s) < 13 {
		return conceal.Packet{}, 0, api.ErrCut
	}
	b := []byte(s)
	long := int(b[11]) + 256*int(b[12])
	if long > 600 {
		return conceal.Packet{}, 0, api.ErrLong
	}
	if len(s) < 13+long+4 {
		return conceal.Packet{}, 0, api.ErrCut
	}
	if s[:13+long+4] != seal(s[:13+long]) {
		return conceal.Packet{}, 0, api.ErrSum
	}
	p := conceal.Packet{Whole: b[2] == 1, Epoch: binary.LittleEndian.Uint32(b[3:]), Number: binary.LittleEndian.Uint32(b[7:]), Payload: b[13 : 13+long]}
	return p, 13 + long + 4, api.OK
}

// chapterFound is what is found in bytes from the first one on: the packets, how many bytes were passed over, and how many are left.
func chapterFound(s string) (found []conceal.Packet, lost, left int) {
	for at := 0; at < len(s); {
		p, n, err := chapterParse(s[at:])
		switch err {
		case api.ErrCut:
			return found, lost, len(s) - at
		case api.OK:
			found = append(found, p)
			at += n
		default:
			lost++
			at++
		}
	}
	return found, lost, 0
}

func isSame(a, b conceal.Packet) bool {
	return a.Epoch == b.Epoch && a.Number == b.Number && a.Whole == b.Whole && bytes.Equal(a.Payload, b.Payload)
}

func areSame(a, b []conceal.Packet) bool { return slices.EqualFunc(a, b, isSame) }

// isParsed holds what bytes are read as; the bytes stay as they are, and those behind their length don't matter.
func isParsed(t *testing.T, s string, want conceal.Packet, long int, err api.Errno) {
	t.Helper()
	behind := seal(s)[len(s):] + strings.Repeat("x", 700)
	b := []byte(s + behind)
	p, n, e := packet.Parse(b[:len(s)])
	if !isSame(p, want) || n != long || e != err {
		t.Fatalf("%q: %+v, %d, %d, not %+v, %d, %d", s, p, n, e, want, long, err)
	}
	if string(b) != s+behind {
		t.Fatalf("%q is %q", s, b)
	}
}

// isParsedAsChapter holds what bytes are read as against the chapter's words.
func isParsedAsChapter(t *testing.T, s string) api.Errno {
	t.Helper()
	want, long, err := chapterParse(s)
	isParsed(t, s, want, long, err)
	return err
}

func isNotParsed(t *testing.T, s string, err api.Errno) {
	t.Helper()
	isParsed(t, s, conceal.Packet{}, 0, err)
	isParsedAsChapter(t, s)
}

// isTold holds a packet's bytes, and that they are read as it, whatever stands behind.
func isTold(t *testing.T, p conceal.Packet, want string) {
	t.Helper()
	payload := string(p.Payload)
	b, err := packet.Bytes(p)
	if string(b) != want || err != api.OK || string(p.Payload) != payload {
		t.Fatalf("%+v: %q, %d, not %q", p, b, err, want)
	}
	for _, behind := range []string{"", "\x00", "\xff\xff", "S", "SB", want, strings.Repeat("x", 1000)} {
		isParsed(t, want+behind, p, len(want), api.OK)
	}
}

// payload has so many bytes, the same each time.
func payload(long int) []byte {
	b := make([]byte, long)
	rand.New(rand.NewSource(int64(long))).Read(b)
	return b
}

// some packets: none, few, many bytes, and bytes that look like a packet's beginning.
func some() []conceal.Packet {
	return []conceal.Packet{
		{},
		{Whole: true},
		{Epoch: 1, Number: 0x01020304, Whole: true, Payload: []byte("abc")},
		{Epoch: math.MaxUint32, Number: math.MaxUint32, Payload: payload(1)},
		{Epoch: 0x42530142, Number: 0x53420153, Whole: true, Payload: []byte("SB\x01SB\x00SB")},
		{Epoch: 7, Number: 8, Payload: payload(77)},
		{Epoch: 256, Number: 65536, Payload: []byte(chapterBytes(conceal.Packet{Epoch: 9, Number: 9, Whole: true, Payload: payload(30)}))},
		{Epoch: 1 << 31, Number: 1<<31 - 1, Whole: true, Payload: bytes.Repeat([]byte{255}, 599)},
		{Epoch: 2, Number: 3, Payload: payload(600)},
	}
}

// P19.1: bytes, one by one, and the chapter's example.
func TestTold(t *testing.T) {
	for _, c := range []struct {
		p    conceal.Packet
		want string
	}{
		{conceal.Packet{}, "SB\x00\x00\x00\x00\x00\x00\x00\x00\x00\x00\x00\x28\x4d\x22\xe4"},
		{conceal.Packet{Whole: true}, seal("SB\x01\x00\x00\x00\x00\x00\x00\x00\x00\x00\x00")},
		{conceal.Packet{Epoch: 1, Number: 0x01020304, Whole: true, Payload: []byte("abc")}, seal("SB\x01\x01\x00\x00\x00\x04\x03\x02\x01\x03\x00abc")},
		{conceal.Packet{Epoch: 0xfffefdfc, Number: 0x80000000, Payload: make([]byte, 258)}, seal("SB\x00\xfc\xfd\xfe\xff\x00\x00\x00\x80\x02\x01" + strings.Repeat("\x00", 258))},
		{conceal.Packet{Epoch: 3, Number: 4, Payload: bytes.Repeat([]byte("x"), 600)}, seal("SB\x00\x03\x00\x00\x00\x04\x00\x00\x00\x58\x02" + strings.Repeat("x", 600))},
	} {
		isTold(t, c.p, c.want)
	}
	for _, p := range some() {
		isTold(t, p, chapterBytes(p))
	}
	if b, err := packet.Bytes(conceal.Packet{Payload: []byte{}}); len(b) != 17 || err != api.OK {
		t.Error(b, err)
	}
}

// P19.1: payloads of each length; of more than 600 bytes none.
func TestLengths(t *testing.T) {
	for long := range 601 {
		p := conceal.Packet{Epoch: uint32(long), Number: uint32(7 * long), Whole: long%2 == 0, Payload: payload(long)}
		isTold(t, p, chapterBytes(p))
		if b, _ := packet.Bytes(p); len(b) != 17+long {
			t.Fatal(long, len(b))
		}
	}
	for _, long := range []int{601, 602, 603, 700, 1000, 1<<16 - 1, 1 << 16, 1<<16 + 5, 1<<16 + 600, 1 << 20} {
		for _, whole := range []bool{false, true} {
			if b, err := packet.Bytes(conceal.Packet{Epoch: 1, Number: 2, Whole: whole, Payload: make([]byte, long)}); b != nil || err != api.ErrLong {
				t.Error(long, len(b), err)
			}
		}
	}
	if packet.Most != 617 {
		t.Error(packet.Most)
	}
}

// P19.1: each bit of an epoch, and of a number.
func TestNumbers(t *testing.T) {
	for bit := range 32 {
		for _, n := range []uint32{1 << bit, ^uint32(1 << bit), 1<<bit - 1, 0x04030201 << bit} {
			for _, p := range []conceal.Packet{{Epoch: n}, {Number: n}, {Epoch: n, Number: ^n, Whole: true, Payload: payload(5)}} {
				isTold(t, p, chapterBytes(p))
			}
		}
	}
}

// P19.1: what isn't whole yet is cut, from none of its bytes on.
func TestCut(t *testing.T) {
	isNotParsed(t, "", api.ErrCut)
	if p, n, err := packet.Parse(nil); !isSame(p, conceal.Packet{}) || n != 0 || err != api.ErrCut {
		t.Error(p, n, err)
	}
	for _, p := range some() {
		s := chapterBytes(p)
		for long := range len(s) {
			isNotParsed(t, s[:long], api.ErrCut)
		}
	}
	for long := range 601 {
		begun := header(0, 1, 2, uint16(long))
		isNotParsed(t, begun, api.ErrCut)
		isNotParsed(t, begun+strings.Repeat("x", long+3), api.ErrCut)
		isNotParsed(t, begun+strings.Repeat("x", long+4), api.ErrSum)
		isNotParsed(t, begun+strings.Repeat("x", long+5), api.ErrSum)
	}
}

// P19.1: each of the first three bytes, as far as they are there, is told wrong by itself, ahead of all else.
func TestForm(t *testing.T) {
	right := chapterBytes(some()[2])
	tooLong := header(1, 1, 2, 601)
	for n := range 256 {
		one := string([]byte{byte(n)})
		for _, c := range []struct {
			s     string
			right bool
		}{
			{one, n == 83}, {"S" + one, n == 66}, {"SB" + one, n < 2},
			{one + "B", n == 83}, {one + "B\x01", n == 83}, {"S" + one + "\x01", n == 66},
			{one + right[1:], n == 83}, {right[:1] + one + right[2:], n == 66}, {right[:2] + one + right[3:], n < 2},
			{one + tooLong[1:], n == 83}, {tooLong[:1] + one + tooLong[2:], n == 66}, {tooLong[:2] + one + tooLong[3:], n < 2},
		} {
			if err := isParsedAsChapter(t, c.s); (err != api.ErrForm) != c.right {
				t.Fatalf("%q: %d", c.s, err)
			}
		}
		for m := range 256 {
			two := string([]byte{byte(n), byte(m)})
			isParsedAsChapter(t, two)
			isParsedAsChapter(t, two+"\x02")
			isParsedAsChapter(t, two+"\x01")
			isParsedAsChapter(t, "S"+two)
		}
	}
	for _, s := range []string{"T", "s", "\x00", "BS", "B", "Sb", "SS", "SB\x02", "SB\xff", "SBS", "SB0", "SB1", " SB\x00"} {
		isNotParsed(t, s, api.ErrForm)
		isNotParsed(t, s+right, api.ErrForm)
		isNotParsed(t, s+strings.Repeat("\xff", 20), api.ErrForm)
	}
}

// P19.1: each number of bytes that a payload may be told to have; too many are told ahead of a cut.
func TestToldLengths(t *testing.T) {
	for long := range 1 << 16 {
		for _, whole := range []byte{0, 1} {
			begun := header(whole, 5, 6, uint16(long))
			want, cut := api.ErrCut, api.ErrSum
			if long > 600 {
				want, cut = api.ErrLong, api.ErrLong
			}
			isNotParsed(t, begun, want)
			isNotParsed(t, begun[:12], api.ErrCut)
			if long < 700 || long%251 == 0 {
				isNotParsed(t, begun+strings.Repeat("x", 604), cut)
			}
		}
	}
	isNotParsed(t, seal(header(0, 1, 2, 601)+strings.Repeat("x", 601)), api.ErrLong)
	isNotParsed(t, seal(header(1, 1, 2, math.MaxUint16)+strings.Repeat("x", math.MaxUint16)), api.ErrLong)
}

// P19.1: each byte in the place of each one of some packets; the sum is of all bytes ahead of it, and its lowest byte is first.
func TestEachByte(t *testing.T) {
	sums := 0
	for _, p := range some() {
		s := chapterBytes(p)
		for at := range len(s) {
			for n := range 256 {
				if byte(n) == s[at] || len(s) > 100 && at > 30 && n%37 != 0 {
					continue
				}
				one := string([]byte{byte(n)})
				err := isParsedAsChapter(t, s[:at]+one+s[at+1:])
				if err == api.OK {
					t.Fatalf("%q: %d at %d is right, too", s, n, at)
				}
				if at > 12 && err != api.ErrSum {
					t.Fatalf("%q: %d at %d: %d", s, n, at, err)
				}
				if err == api.ErrSum {
					sums++
				}
				resealed := seal(s[:at] + one + s[at+1:max(at+1, len(s)-4)])
				isParsedAsChapter(t, resealed)
			}
		}
		b := []byte(s)
		slices.Reverse(b[len(b)-4:])
		isNotParsed(t, string(b), api.ErrSum)
		isNotParsed(t, s[:len(s)-4]+"\x00\x00\x00\x00", api.ErrSum)
	}
	if sums < 10000 {
		t.Error(sums)
	}
}

// isFound holds what a reader finds in pieces against what the chapter says of all of them.
func isFound(t *testing.T, pieces []string) {
	t.Helper()
	var r packet.Reader
	var found []conceal.Packet
	var all string
	for _, piece := range pieces {
		b := []byte(piece + "SB\x01")
		l := r.Feed(b[:len(piece)]...)
		if string(b) != piece+"SB\x01" {
			t.Fatalf("%q is %q", piece, b)
		}
		clear(b)
		found = append(found, l...)
		all += piece
		want, lost, left := chapterFound(all)
		if !areSame(found, want) || r.Lost() != lost || r.Left() != left {
			t.Fatalf("%q: %d, %d, %d, not %d, %d, %d", all, len(found), r.Lost(), r.Left(), len(want), lost, left)
		}
		if r.Left() > 616 {
			t.Fatalf("%d are left of %q", r.Left(), all)
		}
	}
}

// inPieces parts a text in pieces of so many bytes.
func inPieces(s string, long int) []string {
	var l []string
	for ; len(s) > long; s = s[long:] {
		l = append(l, s[:long])
	}
	return append(l, s)
}

// P19.2, P19.3: packets one behind the other, in pieces of any length: nothing is lost, nothing left.
func TestPackets(t *testing.T) {
	var all string
	for _, p := range some() {
		all += chapterBytes(p)
	}
	for long := 1; long < 700; long++ {
		var r packet.Reader
		var found []conceal.Packet
		for _, piece := range inPieces(all, long) {
			found = append(found, r.Feed([]byte(piece)...)...)
			if r.Left() > 616 || r.Lost() != 0 {
				t.Fatal(long, r.Left(), r.Lost())
			}
		}
		if !areSame(found, some()) || r.Left() != 0 {
			t.Fatalf("%d: %d, %d", long, len(found), r.Left())
		}
		isFound(t, inPieces(all, long))
	}
	isFound(t, []string{all, "", all + all})
	isFound(t, []string{"", "", all, "", "x", "", all})
}

// P19.2: a reader has nothing at first; a packet comes with its last byte, no sooner, and once.
func TestLastByte(t *testing.T) {
	var r packet.Reader
	if l := r.Feed(); l != nil || r.Lost() != 0 || r.Left() != 0 {
		t.Error(l, r.Lost(), r.Left())
	}
	for _, p := range some() {
		s := chapterBytes(p)
		for at := range len(s) - 1 {
			if l := r.Feed(s[at]); l != nil || r.Left() != at+1 {
				t.Fatal(l, r.Left(), at)
			}
			if l := r.Feed(); l != nil || r.Left() != at+1 {
				t.Fatal(l, r.Left(), at)
			}
		}
		if l := r.Feed(s[len(s)-1]); !areSame(l, []conceal.Packet{p}) || r.Left() != 0 || r.Lost() != 0 {
			t.Fatal(l, r.Left(), r.Lost())
		}
		if l := r.Feed(); l != nil {
			t.Fatal(l)
		}
	}
}

// P19.2: what is no packet's is passed over, byte by byte, ahead of packets, between them, and behind.
func TestPassedOver(t *testing.T) {
	one, other, long := chapterBytes(some()[2]), chapterBytes(some()[0]), chapterBytes(some()[8])
	within := chapterBytes(some()[6])
	broken := func(s string, at int) string {
		b := []byte(s)
		b[at] ^= 1
		return string(b)
	}
	for _, c := range []struct {
		s                 string
		found, lost, left int
	}{
		{"x", 0, 1, 0}, {"S", 0, 0, 1}, {"SS", 0, 1, 1}, {"SSB", 0, 1, 2}, {"SBSB", 0, 2, 2}, {"SB\x02", 0, 3, 0}, {"SB\x02S", 0, 3, 1}, {"xyz", 0, 3, 0},
		{"SSx" + one + one, 2, 3, 0},
		{one + "x" + other, 2, 1, 0}, {one + "S" + other, 2, 1, 0}, {one + "SB" + other, 2, 2, 0}, {one + other + "SB", 2, 0, 2},
		{"SB\x01" + other, 1, 3, 0},                                          // a header, and a sum that is another one
		{header(1, 1, 1, 601) + one, 1, 13, 0},                               // too long: its header is passed over
		{header(1, 1, 1, 600), 0, 0, 13},                                     // what isn't there may come
		{header(1, 1, 1, 600) + one + other, 0, 0, 13 + 20 + 17},             // packets in it wait
		{header(1, 1, 1, 16) + one, 1, 13, 0},                                // its sum is another one: the packet in it is found
		{header(1, 1, 1, 26) + one[:10] + one, 0, 13, 30},                    // and here one that is cut
		{broken(one, 14) + one, 1, 20, 0},                                    // a bit of the payload
		{broken(one, 19) + one, 1, 20, 0},                                    // of the sum
		{broken(one, 3) + one, 1, 20, 0},                                     // of the epoch
		{broken(one, 0) + one, 1, 20, 0},                                     // of the first byte
		{one[1:] + one, 1, 19, 0},                                            // a byte is missing
		{one[:7] + one[8:] + one + strings.Repeat("x", 100), 1, 19 + 100, 0}, // another one
		{within, 1, 0, 0},                                                    // a packet in a payload isn't found
		{broken(within, 8), 1, 13 + 4, 0},                                    // but if that isn't one
		{within[:len(within)-1], 0, 0, len(within) - 1},                      // it may be one yet
		{long + long[:616], 1, 0, 616},
		{long[1:] + long, 1, 616, 0},
		{strings.Repeat("S", 5000), 0, 4999, 1},
		{strings.Repeat("SB", 5000), 0, 9998, 2},
		{strings.Repeat("\x00", 5000), 0, 5000, 0},
	} {
		for _, length := range []int{1, 2, 3, 7, 13, 17, 616, 617, 10000} {
			var r packet.Reader
			found := 0
			for _, piece := range inPieces(c.s, length) {
				found += len(r.Feed([]byte(piece)...))
			}
			if found != c.found || r.Lost() != c.lost || r.Left() != c.left {
				t.Errorf("%q: %d, %d, %d, not %d, %d, %d", c.s, found, r.Lost(), r.Left(), c.found, c.lost, c.left)
			}
			if length > len(c.s)/200 {
				isFound(t, inPieces(c.s, length))
			}
		}
	}
}

// P19.3: 616 bytes may be left; with the next one there are none, or fewer.
func TestMostLeft(t *testing.T) {
	whole := chapterBytes(some()[8])
	wrong := whole[:616] + string([]byte{whole[616] ^ 1})
	for _, c := range []struct {
		s                 string
		found, lost, left int
	}{{whole, 1, 0, 0}, {wrong, 0, 617, 0}} {
		var r packet.Reader
		if l := r.Feed([]byte(c.s[:616])...); l != nil || r.Left() != 616 || r.Lost() != 0 {
			t.Fatal(l, r.Left(), r.Lost())
		}
		if l := r.Feed(c.s[616]); len(l) != c.found || r.Left() != c.left || r.Lost() != c.lost {
			t.Fatal(l, r.Left(), r.Lost())
		}
	}
}

// streams are of pieces of packets, the same each time: some whole, some broken, some cut, some with bytes between.
func streams() []string {
	r := rand.New(rand.NewSource(19))
	var l []string
	for range 1500 {
		var s []byte
		for range r.Intn(6) {
			p := []byte(chapterBytes(conceal.Packet{Epoch: r.Uint32(), Number: uint32(r.Intn(5)), Whole: r.Intn(2) == 0, Payload: payload(r.Intn(1 << r.Intn(10) % 601))}))
			switch r.Intn(8) {
			case 0:
				p[r.Intn(len(p))] ^= 1 << r.Intn(8)
			case 1:
				p = p[:r.Intn(len(p))]
			case 2:
				p = p[r.Intn(len(p)):]
			case 3:
				p = append(payload(r.Intn(30)), p...)
			case 4:
				p = append([]byte("SSBSB\x00SB\x01S")[r.Intn(10):], p...)
			}
			s = append(s, p...)
		}
		for range r.Intn(2) * r.Intn(100) {
			s = append(s, "SB\x00\x01"[r.Intn(4)])
		}
		l = append(l, string(s))
	}
	return l
}

// P19.1, P19.2, P19.3: any bytes, in any pieces.
func TestAnyStreams(t *testing.T) {
	r := rand.New(rand.NewSource(20))
	packets, losses, lefts := 0, 0, 0
	for _, s := range streams() {
		found, lost, left := chapterFound(s)
		packets, losses, lefts = packets+len(found), losses+lost, lefts+left
		var pieces []string
		for rest := s; rest != ""; {
			long := min(len(rest), r.Intn(1+1<<r.Intn(11)))
			pieces = append(pieces, rest[:long])
			rest = rest[long:]
		}
		isFound(t, pieces)
		isFound(t, []string{s})
		for range 5 {
			isParsedAsChapter(t, s[r.Intn(len(s)+1):])
		}
	}
	if packets < 1000 || losses < 10000 || lefts < 10000 {
		t.Error(packets, losses, lefts)
	}
}

// What an encoder makes goes through bytes to an ear, in pieces, as it is.
func TestSound(t *testing.T) {
	e, _ := coder.New(6, 300)
	straight, far := conceal.New(), conceal.New()
	var r packet.Reader
	frame := make([]int16, 512)
	noise := rand.New(rand.NewSource(3))
	heard := 0
	for n := range 40 {
		for i := range frame {
			frame[i] = int16(noise.Intn(1 << (2 + n%14)))
		}
		coded, whole, err := e.Encode(uint32(n), frame, n%8 == 0)
		p := conceal.Packet{Epoch: 1, Number: uint32(n), Whole: whole, Payload: coded}
		want, err2 := straight.Hear(p)
		b, err3 := packet.Bytes(p)
		if err != api.OK || err2 != api.OK || err3 != api.OK {
			t.Fatal(n, err, err2, err3)
		}
		for _, piece := range inPieces(string(b), 50) {
			for _, q := range r.Feed([]byte(piece)...) {
				got, err := far.Hear(q)
				if err != api.OK || !reflect.DeepEqual(got, want) {
					t.Fatal(n, err)
				}
				heard++
			}
		}
	}
	if heard != 40 || r.Lost() != 0 || r.Left() != 0 {
		t.Error(heard, r.Lost(), r.Left())
	}
}

// P1, P19.2: a nil reader has nothing.
func TestNilReader(t *testing.T) {
	var r *packet.Reader
	if l := r.Feed([]byte(chapterBytes(some()[2]))...); l != nil || r.Lost() != 0 || r.Left() != 0 {
		t.Error(l, r.Lost(), r.Left())
	}
	if l := r.Feed(); l != nil {
		t.Error(l)
	}
}

// P1: of any bytes each call ends, and none panics.
func TestNothingPanics(t *testing.T) {
	noise := rand.New(rand.NewSource(4))
	var r packet.Reader
	for range 20000 {
		b := make([]byte, noise.Intn(700))
		noise.Read(b)
		copy(b, "SB\x01"[:noise.Intn(4)])
		if len(b) > 12 {
			b[12] %= 4
		}
		packet.Parse(b)
		r.Feed(b...)
		p := conceal.Packet{Payload: b}
		if got, err := packet.Bytes(p); (err == api.OK) != (len(b) <= 600) || (got == nil) != (len(b) > 600) {
			t.Fatal(len(b), len(got), err)
		}
		if r.Left() > 616 {
			t.Fatal(r.Left())
		}
	}
	packet.Parse(make([]byte, 1<<24))
	r.Feed(bytes.Repeat([]byte("SB\x00"), 1<<20)...)
	r.Feed(bytes.Repeat([]byte(header(0, 1, 2, 600)), 1<<10)...)
}

// A reader keeps no more than what is left, and a packet no more than its own bytes.
func TestKeepsLittle(t *testing.T) {
	one := chapterBytes(some()[0])
	for _, behind := range []string{"", "x", "SB", one, one[:16]} {
		var r packet.Reader
		var ahead, after runtime.MemStats
		runtime.GC()
		runtime.ReadMemStats(&ahead)
		l := r.Feed(append(make([]byte, 1<<22), one+behind...)...)
		runtime.GC()
		runtime.ReadMemStats(&after)
		if kept := int64(after.HeapAlloc) - int64(ahead.HeapAlloc); kept > 1<<20 {
			t.Errorf("%q: %d bytes are kept", behind, kept)
		}
		if len(l) == 0 || r.Lost() < 1<<22 {
			t.Error(len(l), r.Lost())
		}
		runtime.KeepAlive(&r)
		runtime.KeepAlive(l)
	}
}

// What is answered is one's own, and what is handed in isn't kept: what is done to it changes nothing else.
func TestAnswersAreApart(t *testing.T) {
	p := some()[5]
	want := chapterBytes(p)
	b, _ := packet.Bytes(p)
	other, _ := packet.Bytes(p)
	clear(p.Payload)
	if string(b) != want {
		t.Errorf("%q", b)
	}
	got, _, _ := packet.Parse(b)
	again, _, _ := packet.Parse(b)
	clear(got.Payload)
	_ = append(got.Payload, "yyyyyyyy"...)
	if string(b) != want || !isSame(again, some()[5]) {
		t.Errorf("%q, %v", b, again)
	}
	clear(b)
	if string(other) != want || !isSame(again, some()[5]) {
		t.Errorf("%q, %v", other, again)
	}
	var r packet.Reader
	fed := []byte(want + want + want[:50])
	l := r.Feed(fed...)
	clear(fed)
	clear(l[0].Payload)
	_ = append(l[0].Payload, strings.Repeat("y", 200)...)
	if len(l) != 2 || !isSame(l[1], some()[5]) || r.Left() != 50 {
		t.Error(l, r.Left())
	}
	l = r.Feed([]byte(want[50:])...)
	if len(l) != 1 || !isSame(l[0], some()[5]) || r.Lost() != 0 {
		t.Error(l, r.Lost())
	}
}

// P2: a reader hangs on what it was told alone: others beside it, and copies of it, don't matter.
func TestReadersAreApart(t *testing.T) {
	one, other := chapterBytes(some()[5]), chapterBytes(some()[7])
	var r, far packet.Reader
	r.Feed([]byte("x" + one[:30])...)
	copied := r
	far.Feed([]byte(other[:100])...)
	if l := copied.Feed([]byte(one[30:] + "yz" + other[:20])...); !areSame(l, some()[5:6]) || copied.Left() != 20 || copied.Lost() != 3 {
		t.Error(l, copied.Left(), copied.Lost())
	}
	if l := r.Feed([]byte(one[30:])...); !areSame(l, some()[5:6]) || r.Left() != 0 || r.Lost() != 1 {
		t.Error(l, r.Left(), r.Lost())
	}
	if l := copied.Feed([]byte(other[20:])...); !areSame(l, some()[7:8]) || copied.Left() != 0 || copied.Lost() != 3 {
		t.Error(l, copied.Left(), copied.Lost())
	}
	if l := far.Feed([]byte(other[100:])...); !areSame(l, some()[7:8]) || far.Left() != 0 || far.Lost() != 0 {
		t.Error(l, far.Left(), far.Lost())
	}
}

// answers are those of the calls for some streams.
func answers() []any {
	var l []any
	var r packet.Reader
	for _, s := range streams()[:300] {
		p, n, err := packet.Parse([]byte(s))
		l = append(l, p, n, err)
		found := r.Feed([]byte(s)...)
		l = append(l, found, r.Lost(), r.Left())
		for _, p := range found {
			b, err := packet.Bytes(p)
			l = append(l, b, err)
		}
	}
	return l
}

// P2: the same calls answer the same, also where others call beside them.
func TestAnswersStayTheSame(t *testing.T) {
	want := answers()
	var all sync.WaitGroup
	for range 8 {
		all.Go(func() {
			if !reflect.DeepEqual(answers(), want) {
				t.Error("answers are others")
			}
		})
	}
	all.Wait()
}

package conceal_test

import (
	"bytes"
	"encoding/binary"
	"encoding/hex"
	"math"
	"math/rand"
	"slices"
	"sync"
	"testing"

	"sideband/api"
	"sideband/check"
	"sideband/coder"
	"sideband/conceal"
	"sideband/energy"
	"sideband/model"
	"sideband/player"
	"sideband/rangedec"
	"sideband/rangeenc"
)

// chapterEar goes through the chapter's words, sentence by sentence. It hears with a copy of its player, and has the copy if nothing is wrong.
type chapterEar struct {
	player        *player.Player
	heard, run    bool
	epoch, number uint32
}

func newChapterEar() *chapterEar { return &chapterEar{player: player.New()} }

func (e *chapterEar) follows(p conceal.Packet) bool {
	behind := (uint64(e.number) + 1) % (1 << 32)
	return e.run && p.Epoch == e.epoch && uint64(p.Number) == behind
}

func (e *chapterEar) missing(p conceal.Packet) int64 {
	switch {
	case !e.heard:
		return 0
	case p.Epoch != e.epoch:
		return 4
	}
	less := int64(p.Number) - int64(e.number) - 1
	for less < 0 {
		less += 1 << 32
	}
	return min(less, 4)
}

func (e *chapterEar) hear(p conceal.Packet) ([][]int16, api.Errno) {
	h, err := player.Read(p.Payload)
	if err != api.OK {
		return nil, err
	}
	if h.Whole != p.Whole {
		return nil, api.ErrForm
	}
	follows := e.follows(p)
	if !follows && !p.Whole {
		return nil, api.ErrState
	}
	copied := *e.player
	copied.Synth = e.player.Clone()
	var frames [][]int16
	if !follows {
		for range e.missing(p) {
			x, _ := copied.Fade()
			frames = append(frames, x)
		}
	}
	x, err := copied.Play(p.Number, p.Payload)
	if err != api.OK {
		return nil, err
	}
	*e = chapterEar{player: &copied, heard: true, run: true, epoch: p.Epoch, number: p.Number}
	return append(frames, x), api.OK
}

// call is one of an ear's.
type call struct {
	broken bool // Break; else Hear
	p      conceal.Packet
}

func (c call) of(e *conceal.Ear) ([][]int16, api.Errno) {
	if c.broken {
		e.Break()
		return nil, api.OK
	}
	return e.Hear(c.p)
}

func (c call) ofChapter(e *chapterEar) ([][]int16, api.Errno) {
	if c.broken {
		e.run = false
		return nil, api.OK
	}
	return e.hear(c.p)
}

func equal(a, b [][]int16) bool { return slices.EqualFunc(a, b, slices.Equal[[]int16]) }

// right tells whether an answer of Hear has what it may: one to five frames of 512 samples, or none beside an error.
func right(x [][]int16, err api.Errno) bool {
	if err != api.OK {
		return len(x) == 0
	}
	return len(x) >= 1 && len(x) <= 5 && !slices.ContainsFunc(x, func(pcm []int16) bool { return len(pcm) != 512 })
}

func hear(t *testing.T, e *conceal.Ear, p conceal.Packet) [][]int16 {
	t.Helper()
	x, err := e.Hear(p)
	if err != api.OK || !right(x, err) {
		t.Fatalf("Hear(%v): %d frames, %d", p, len(x), err)
	}
	return x
}

// refuses tells where an ear hears a packet, or answers another error.
func refuses(t *testing.T, e *conceal.Ear, p conceal.Packet, want api.Errno) {
	t.Helper()
	if x, err := e.Hear(p); len(x) != 0 || err != want {
		t.Errorf("Hear(%v): %d frames, %d, not %d", p, len(x), err, want)
	}
}

// sumOf is a sum of samples as bytes.
func sumOf(pcm []int16) uint32 {
	var b []byte
	for _, n := range pcm {
		b = binary.LittleEndian.AppendUint16(b, uint16(n))
	}
	return check.Of(b...)
}

// anyFrame is of any kind: silence, noise of any gain, waves, clicks, what begins amid.
func anyFrame(r *rand.Rand) []int16 {
	pcm := make([]int16, 512)
	gain, kind, period, from := r.Intn(16), r.Intn(8), 1+r.Intn(300), r.Intn(512)
	for i := range pcm {
		switch noise := int16(r.Uint32()); kind {
		case 0:
		case 1, 2:
			pcm[i] = noise >> gain
		case 3, 4:
			pcm[i] = int16(30000*math.Sin(float64(i)/float64(period))) >> (gain / 3)
		case 5:
			if i%period == 0 {
				pcm[i] = noise
			}
		default:
			pcm[i] = noise >> 13
			if i >= from {
				pcm[i] = noise >> (gain / 3)
			}
		}
	}
	return pcm
}

// coded is a packet, and what the encoder tells of its frame.
type coded struct {
	p     conceal.Packet
	heard []int16
}

// stream is an epoch's packets, from a number on, of which about one in so many is whole.
func stream(t *testing.T, r *rand.Rand, epoch, number uint32, frames, period int) []coded {
	t.Helper()
	e, err := coder.New(1+r.Intn(10), 32+r.Intn(200))
	if err != api.OK {
		t.Fatal(err)
	}
	l := make([]coded, frames)
	for i := range l {
		p := conceal.Packet{Epoch: epoch, Number: number}
		p.Payload, p.Whole, err = e.Encode(number, anyFrame(r), r.Intn(period) == 0)
		if err != api.OK {
			t.Fatal(err)
		}
		l[i] = coded{p: p, heard: e.Heard()}
		number++
	}
	return l
}

// loud is a packet, and one that goes on behind it with another sound; noise, too, that hangs on the number.
func loud(t *testing.T, epoch, number uint32) (whole, next conceal.Packet) {
	t.Helper()
	r := rand.New(rand.NewSource(11))
	e, _ := coder.New(7, 120)
	for i, p := range []*conceal.Packet{&whole, &next} {
		pcm := make([]int16, 512)
		for k := range pcm {
			pcm[k] = int16(r.Intn(20000)-10000)>>(8*i) + int16(9000*math.Sin(float64(k)/float64(5+9*i)))
		}
		b, isWhole, err := e.Encode(number+uint32(i), pcm, false)
		if err != api.OK || isWhole != (i == 0) {
			t.Fatal(err, isWhole)
		}
		*p = conceal.Packet{Epoch: epoch, Number: number + uint32(i), Whole: isWhole, Payload: b}
	}
	return whole, next
}

// at is a packet at another place.
func at(p conceal.Packet, epoch, number uint32) conceal.Packet {
	p.Epoch, p.Number = epoch, number
	return p
}

// begun is a payload's head, quality 6, loss 3.
func begun(whole bool) *rangeenc.Encoder {
	e := rangeenc.New()
	if whole {
		e.Bits(1, 1)
	} else {
		e.Bits(0, 1)
	}
	e.Bits(0, 1)
	e.Bits(6, 4)
	e.Bits(3, 5)
	return e
}

// wrongCeilings are whole: one, at a band, is above 26.
func wrongCeilings(band int) []byte {
	e := begun(true)
	for i := range 21 {
		if i == band {
			e.Bits(27, 5)
		} else {
			e.Bits(9, 5)
		}
	}
	return e.Bytes()
}

// wrongLines are whole: the first line has too many bits.
func wrongLines() []byte {
	e := begun(true)
	for range 21 {
		e.Bits(9, 5)
	}
	m, _ := model.New(13)
	e.Symbol(m, 12)
	return e.Bytes()
}

// wrongNext isn't whole: behind a whole payload the ceiling of one band is above 26.
func wrongNext(t *testing.T, ahead []byte, band int) []byte {
	t.Helper()
	d := rangedec.New(ahead)
	for _, wide := range []int{1, 1, 4, 5} {
		d.Bits(wide)
	}
	l, err := energy.Get(d)
	if err != api.OK {
		t.Fatal(err)
	}
	often := slices.Repeat([]uint32{10}, 32)
	copy(often, []uint32{3000, 1500, 500})
	copy(often[30:], []uint32{500, 1500})
	m, _ := model.Fixed(often...)
	e := begun(false)
	for i, n := range l {
		if i == band {
			e.Symbol(m, 27-n)
		} else {
			e.Symbol(m, 0)
		}
	}
	return e.Bytes()
}

// P15.1: answers that were reckoned elsewhere, from the range coder to the samples, by whole numbers without end.
func TestAnswersAreAsReckoned(t *testing.T) {
	e := conceal.New()
	for i, c := range []struct {
		broken        bool // Break; else Hear
		epoch, number uint32
		whole         bool
		b             string
		err           api.Errno
		sums          []uint32 // of each frame's samples
	}{
		{epoch: 7, number: 4294967291, whole: false, b: "54b6150fa209c36790526d5f9017ebd3546cfa0b10be", err: 8},
		{epoch: 7, number: 4294967292, whole: false, b: "", err: 3},
		{epoch: 7, number: 4294967292, whole: true, b: "94b6b49963210107fdff841f080416b58d", err: 0, sums: []uint32{1010287358}},
		{epoch: 7, number: 4294967293, whole: true, b: "14b723e3ad758b83f52abddcc9182c5e1087d34f0ff0", err: 3},
		{epoch: 7, number: 4294967293, whole: false, b: "14b723e3ad758b83f52abddcc9182c5e1087d34f0ff0", err: 0, sums: []uint32{1721474163}},
		{epoch: 7, number: 4294967294, whole: false, b: "54b0417a24a7516ccb600d65257b6ee6a0278aae", err: 0, sums: []uint32{1845340338}},
		{epoch: 7, number: 4294967295, whole: false, b: "14b8ef293f17d8fa0c553b3b382d32b39a", err: 0, sums: []uint32{1581251753}},
		{epoch: 7, number: 1, whole: true, b: "94b294ddd5a2dadf3bdefbbdf7bde94a74", err: 0, sums: []uint32{2299355361, 3695178686}},
		{epoch: 7, number: 5, whole: true, b: "98694a484a5290000000000000011b5ac5", err: 3},
		{epoch: 7, number: 2, whole: false, b: "14a0bb9b7cdef615a9aa7790110b78", err: 0, sums: []uint32{1473522533}},
		{epoch: 7, number: 3, whole: false, b: "14b6151672cacbb099b4dc1d10c67ce78920", err: 0, sums: []uint32{1273559491}},
		{epoch: 7, number: 4, whole: false, b: "14b723e3b21b2094882bdf1d0dcc9a1dcbaed4a0", err: 0, sums: []uint32{4068632930}},
		{epoch: 7, number: 8, whole: true, b: "94b294ddd5a2dadf3bcefbbef7bde94a74", err: 0, sums: []uint32{2483284183, 1067534853, 3057540488, 1628656831}},
		{epoch: 7, number: 9, whole: false, b: "54b0415b74280cb173c7f7c93e0402400da6ea", err: 0, sums: []uint32{3211915286}},
		{epoch: 7, number: 14, whole: true, b: "94b28c9983d52110be0000200041f6b58e", err: 0, sums: []uint32{1410577847, 3341369490, 2179005092, 1737153867, 1790455454}},
		{epoch: 7, number: 15, whole: false, b: "14b6151a75d1a19de5f9e053eb0318d1afdceeb0e3ccf6", err: 0, sums: []uint32{2478282540}},
		{epoch: 7, number: 21, whole: true, b: "d4b39cdebd62ecf801ff880107c206316c", err: 0, sums: []uint32{806415001, 956559242, 1441972922, 1577020979, 1306990827}},
		{broken: true},
		{epoch: 7, number: 22, whole: true, b: "94b6b49773a0cf0041ff80420801e6b58e", err: 0, sums: []uint32{2389859543}},
		{epoch: 7, number: 23, whole: false, b: "14b723e3b21aebbc65d3d593514849ca8b89ad2ecdb2", err: 0, sums: []uint32{3091008412}},
		{broken: true},
		{epoch: 7, number: 24, whole: false, b: "14a0b21211f1e000974e59aad0842660", err: 8},
		{epoch: 7, number: 25, whole: true, b: "94b6b457521eedef7a008440fffff8c211", err: 0, sums: []uint32{1698501760, 1723058356}},
		{epoch: 7, number: 25, whole: true, b: "94b6b457521eedef7a008440fffff8c211", err: 0, sums: []uint32{523208454, 518828674, 978377145, 3743030971, 1706219522}},
		{epoch: 7, number: 26, whole: false, b: "54b8ca396b821721f57e33120500518b84435f82510dec2c", err: 0, sums: []uint32{423950200}},
		{epoch: 7, number: 27, whole: false, b: "14b72fc1a771482a5398517b8d26", err: 0, sums: []uint32{2994107942}},
		{epoch: 7, number: 28, whole: true, b: "14b6205dc6dc8a031e4d4fd318daeae9d6d63db21b0248", err: 3},
		{epoch: 7, number: 28, whole: false, b: "14b6205dc6dc8a031e4d4fd318daeae9d6d63db21b0248", err: 0, sums: []uint32{2400191409}},
		{epoch: 8, number: 3, whole: false, b: "25372fd949457b89996946a0", err: 8},
		{epoch: 8, number: 4, whole: true, b: "e5349cd6b55aedf101fffc010841f62d6c", err: 0, sums: []uint32{3434762383, 1946640519, 506794901, 1555431783, 4203082194}},
		{epoch: 8, number: 5, whole: false, b: "25380d6c14faacc5780031d7fe", err: 0, sums: []uint32{1099603669}},
		{epoch: 8, number: 7, whole: true, b: "a53294d5d5a2dadf3bcefbbef7bde94a74", err: 0, sums: []uint32{3851215180, 1738814970}},
		{epoch: 8, number: 8, whole: false, b: "653042151b7fbb7d0adb7c658c1263339b5407b8", err: 0, sums: []uint32{3647483731}},
		{broken: true},
		{epoch: 7, number: 6, whole: true, b: "c8539ce4bd5f2cf87c10803f000015b16c", err: 0, sums: []uint32{1899651462, 2802198505, 3304537366, 2372094697, 3484518562}},
		{epoch: 7, number: 7, whole: false, b: "0858e8a8b830886d2195d88a57285c", err: 0, sums: []uint32{4075599152}},
		{epoch: 7, number: 8, whole: false, b: "0856206298b5aa1d75ae97336207fc060b028b4e927ae4", err: 0, sums: []uint32{433681302}},
	} {
		b, err := hex.DecodeString(c.b)
		if err != nil {
			t.Fatal(err)
		}
		x, told := call{c.broken, conceal.Packet{Epoch: c.epoch, Number: c.number, Whole: c.whole, Payload: b}}.of(e)
		var sums []uint32
		for _, pcm := range x {
			sums = append(sums, sumOf(pcm))
		}
		if told != c.err || !slices.Equal(sums, c.sums) {
			t.Fatalf("%d: %d, sums %v, not %d, %v", i, told, sums, c.err, c.sums)
		}
	}
}

// P15.1: a new one heard nothing: the first one is to be whole, and nothing is missing ahead of it, whatever its epoch and number.
func TestNew(t *testing.T) {
	e := conceal.New()
	if e == nil || e.Player == nil || e.Synth == nil || conceal.New() == e || conceal.New().Player == e.Player {
		t.Fatal("no ear, or none that has a player of its own")
	}
	if x, err := e.Fade(); len(x) != 0 || err != api.ErrState {
		t.Error("its player has ceilings:", err)
	}
	whole, next := loud(t, 0, 0)
	for _, epoch := range []uint32{0, 1, math.MaxUint32} {
		for _, number := range []uint32{0, 1, 2, 5, 1 << 31, math.MaxUint32 - 1, math.MaxUint32} {
			e := conceal.New()
			refuses(t, e, at(next, epoch, number), api.ErrState)
			want, _ := player.New().Play(number, whole.Payload)
			if x := hear(t, e, at(whole, epoch, number)); len(x) != 1 || !slices.Equal(x[0], want) {
				t.Errorf("the first one, %d of %d: %d frames, or others than a player's", number, epoch, len(x))
			}
		}
	}
}

// The chapter's example.
func TestFourFramesThatFadeAndItsOwn(t *testing.T) {
	whole, _ := loud(t, 1, 3)
	e, p := conceal.New(), player.New()
	hear(t, e, whole)
	p.Play(3, whole.Payload)
	x := hear(t, e, at(whole, 1, 9))
	if len(x) != 5 {
		t.Fatal(len(x), "frames")
	}
	for i, got := range x[:4] {
		want, _ := p.Fade()
		if !slices.Equal(got, want) {
			t.Error("frame", i, "doesn't fade")
		}
	}
	if want, _ := p.Play(9, whole.Payload); !slices.Equal(x[4], want) {
		t.Error("another one of its own")
	}
}

// places are those of packets behind one, and how many are missing between, if it is whole.
var places = []struct {
	epoch, number         uint32 // of the last one
	nextEpoch, nextNumber uint32
	missing               int
}{
	{5, 3, 5, 4, 0}, {5, 3, 5, 5, 1}, {5, 3, 5, 6, 2}, {5, 3, 5, 7, 3}, {5, 3, 5, 8, 4}, {5, 3, 5, 9, 4}, {5, 3, 5, 10, 4}, {5, 3, 5, 260, 4}, {5, 3, 5, 1 << 31, 4}, {5, 3, 5, 3 + 1<<31, 4}, {5, 3, 5, 4 + 1<<31, 4}, {5, 3, 5, math.MaxUint32, 4},
	{5, 3, 5, 3, 4}, {5, 3, 5, 2, 4}, {5, 3, 5, 1, 4}, {5, 3, 5, 0, 4}, {5, 1 << 31, 5, 3, 4},
	{5, math.MaxUint32, 5, 0, 0}, {5, math.MaxUint32, 5, 1, 1}, {5, math.MaxUint32, 5, 2, 2}, {5, math.MaxUint32, 5, 3, 3}, {5, math.MaxUint32, 5, 4, 4}, {5, math.MaxUint32, 5, 5, 4}, {5, math.MaxUint32, 5, math.MaxUint32, 4}, {5, math.MaxUint32, 5, math.MaxUint32 - 1, 4},
	{5, math.MaxUint32 - 1, 5, math.MaxUint32, 0}, {5, math.MaxUint32 - 1, 5, 0, 1}, {5, math.MaxUint32 - 1, 5, 1, 2}, {5, math.MaxUint32 - 2, 5, 2, 4}, {5, 0, 5, math.MaxUint32, 4}, {5, 0, 5, 1, 0}, {5, 0, 5, 2, 1}, {5, 1<<31 - 1, 5, 1 << 31, 0}, {0, 0, 0, 0, 4}, {0, 0, 0, 1, 0},
	{5, 3, 6, 4, 4}, {5, 3, 6, 3, 4}, {5, 3, 6, 5, 4}, {5, 3, 6, 0, 4}, {5, 3, 4, 4, 4}, {5, 3, 0, 4, 4}, {5, math.MaxUint32, 6, 0, 4}, {math.MaxUint32, 3, 0, 4, 4}, {0, 3, math.MaxUint32, 4, 4}, {5, 3, 5 + 1<<31, 4, 4}, {5, 3, 5 + 1<<16, 4, 4}, {0, 0, 1, 0, 4}, {1, 0, 0, 1, 4},
}

// P15.1: how many fade ahead of a whole packet, whether a run goes on or not; what they and its own sound like.
func TestWhatIsMissing(t *testing.T) {
	whole, _ := loud(t, 0, 0)
	for _, c := range places {
		for _, broken := range []bool{false, true} {
			e, p := conceal.New(), player.New()
			hear(t, e, at(whole, c.epoch, c.number))
			p.Play(c.number, whole.Payload)
			if broken {
				e.Break()
			}
			x := hear(t, e, at(whole, c.nextEpoch, c.nextNumber))
			var want [][]int16
			for range c.missing {
				pcm, _ := p.Fade()
				want = append(want, pcm)
			}
			pcm, _ := p.Play(c.nextNumber, whole.Payload)
			if !equal(x, append(want, pcm)) {
				t.Errorf("%v, broken %v: %d frames, or others", c, broken, len(x))
			}
		}
	}
}

// P15.1: what isn't whole is heard if it follows: as the next of its epoch, while a run goes on.
func TestWhatFollows(t *testing.T) {
	whole, next := loud(t, 0, 0)
	for _, c := range places {
		p := at(next, c.nextEpoch, c.nextNumber)
		e := conceal.New()
		hear(t, e, at(whole, c.epoch, c.number))
		if c.missing == 0 {
			beside := player.New()
			beside.Play(c.number, whole.Payload)
			want, _ := beside.Play(c.nextNumber, next.Payload)
			if x := hear(t, e, p); len(x) != 1 || !slices.Equal(x[0], want) {
				t.Errorf("%v: %d frames, or others", c, len(x))
			}
		} else {
			refuses(t, e, p, api.ErrState)
		}
		broken := conceal.New()
		hear(t, broken, at(whole, c.epoch, c.number))
		broken.Break()
		refuses(t, broken, p, api.ErrState)
	}
}

// P15.1: behind Break only a whole one is heard, and behind that a run goes on; how often it is said, or of an ear that heard nothing, is all the same.
func TestBreak(t *testing.T) {
	whole, next := loud(t, 2, 40)
	for _, times := range []int{1, 2, 5} {
		e, never := conceal.New(), conceal.New()
		breaks := func() {
			for range times {
				e.Break()
			}
		}
		breaks()
		refuses(t, e, next, api.ErrState)
		both := func(p conceal.Packet, frames int) {
			t.Helper()
			if x, want := hear(t, e, p), hear(t, never, p); len(x) != frames || !equal(x, want) {
				t.Errorf("broken %d times: %d frames at %d, or others", times, len(x), p.Number)
			}
		}
		both(whole, 1)
		both(next, 1)
		breaks()
		refuses(t, e, at(next, 2, 42), api.ErrState)
		refuses(t, e, at(next, 2, 41), api.ErrState)
		both(at(whole, 2, 42), 1) // nothing is missing
		both(at(next, 2, 43), 1)
		breaks()
		both(at(whole, 2, 46), 3) // what was heard fades, still
		breaks()
		both(at(whole, 3, 47), 5)
		both(at(next, 3, 48), 1)
	}
}

// P15.1: where several errors apply, the first one that the chapter names.
func TestWhichErrorComesFirst(t *testing.T) {
	whole, next := loud(t, 1, 7)
	said := func(p conceal.Packet, whole bool, b []byte) conceal.Packet {
		p.Whole, p.Payload = whole, b
		return p
	}
	noQuality := rangeenc.New()
	noQuality.Bits(0, 1)
	noQuality.Bits(1, 1)
	noQuality.Bits(11, 4)
	for _, heard := range []bool{false, true} {
		for _, number := range []uint32{0, 6, 7, 8, 9, 100, math.MaxUint32} {
			for _, epoch := range []uint32{0, 1, 2} {
				e := conceal.New()
				if heard {
					hear(t, e, whole)
				}
				p := conceal.Packet{Epoch: epoch, Number: number}
				// No payload of layer 14, ahead of whether it is whole, and whether it follows.
				for _, b := range [][]byte{nil, {}, {0}, {255}, noQuality.Bytes()} {
					refuses(t, e, said(p, false, b), api.ErrForm)
					refuses(t, e, said(p, true, b), api.ErrForm)
				}
				// Whether it is whole, ahead of whether it follows.
				refuses(t, e, said(p, false, whole.Payload), api.ErrForm)
				refuses(t, e, said(p, true, next.Payload), api.ErrForm)
				// Whether it follows, ahead of what Play says: its ceilings are wrong.
				wrong := said(p, false, wrongNext(t, whole.Payload, 20))
				if heard && epoch == 1 && number == 8 {
					refuses(t, e, wrong, api.ErrForm)
				} else {
					refuses(t, e, wrong, api.ErrState)
				}
				refuses(t, e, said(p, true, wrongCeilings(0)), api.ErrForm)
			}
		}
	}
	var none *conceal.Ear
	for _, p := range []conceal.Packet{{}, whole, next, said(whole, false, whole.Payload), said(next, true, nil)} {
		refuses(t, none, p, api.ErrArg)
	}
}

// wrongPackets are those that an ear doesn't hear, whose last one is a whole one.
func wrongPackets(t *testing.T, last conceal.Packet) []conceal.Packet {
	t.Helper()
	_, next := loud(t, 0, 0)
	var l []conceal.Packet
	for _, behind := range []uint32{0, 1, 2, 3, 5, 6, 1 << 31, math.MaxUint32} {
		for _, epoch := range []uint32{last.Epoch, last.Epoch + 1} {
			p := conceal.Packet{Epoch: epoch, Number: last.Number + behind}
			for _, b := range [][]byte{wrongNext(t, last.Payload, 0), wrongNext(t, last.Payload, 20), {1, 2, 3}} {
				p.Payload = b
				l = append(l, p)
			}
			if behind != 1 || epoch != last.Epoch {
				p.Payload = next.Payload // it isn't whole, and doesn't follow
				l = append(l, p)
			}
			p.Payload = last.Payload // whole, and said to be not
			l = append(l, p)
			p.Whole = true
			for _, b := range [][]byte{wrongCeilings(0), wrongCeilings(20), wrongLines(), next.Payload, nil} {
				p.Payload = b
				l = append(l, p)
			}
		}
	}
	return l
}

// P15.1: with an error nothing changes: neither the last one, nor whether a run goes on, nor what fades, nor what sounds still.
func TestWithAnErrorNothingChanges(t *testing.T) {
	whole, next := loud(t, 4, 20)
	broken := call{broken: true}
	behinds := [][]call{
		{{p: at(next, 4, 21)}, {p: at(whole, 4, 24)}},
		{{p: at(whole, 4, 22)}, {p: at(next, 4, 23)}},
		{{p: at(whole, 5, 21)}},
	}
	for i, ahead := range [][]call{{}, {broken}, {{p: whole}}, {{p: whole}, broken}, {{p: at(whole, 4, 17)}, {p: whole}}} {
		for k, wrong := range wrongPackets(t, whole) {
			e, other := conceal.New(), conceal.New()
			for _, c := range ahead {
				c.of(e)
				c.of(other)
			}
			synth, had := e.Synth, e.Player
			if x, err := e.Hear(wrong); len(x) != 0 || err != api.ErrForm && err != api.ErrState {
				t.Fatalf("%d: Hear(%v): %d frames, %d", i, wrong, len(x), err)
			}
			if e.Synth != synth || e.Player != had {
				t.Fatal("another player, or synth")
			}
			for _, c := range behinds[k%len(behinds)] {
				x, err := c.of(e)
				want, wantErr := c.of(other)
				if !equal(x, want) || err != wantErr || !right(x, err) {
					t.Errorf("%d: Hear(%v) behind Hear(%v): %d, not %d, or other frames", i, c.p, wrong, err, wantErr)
				}
			}
		}
	}
}

// P15.1: a packet that a player doesn't play, though it says nothing wrong of itself: Play's error, wherever it stands.
func TestWhatDoesNotPlay(t *testing.T) {
	whole, _ := loud(t, 6, 0)
	for _, b := range [][]byte{wrongCeilings(0), wrongCeilings(10), wrongCeilings(20), wrongLines()} {
		if h, err := player.Read(b); err != api.OK || !h.Whole {
			t.Fatal(h, err)
		}
		for number := range uint32(8) {
			wrong := conceal.Packet{Epoch: 6, Number: number, Whole: true, Payload: b}
			e := conceal.New()
			refuses(t, e, wrong, api.ErrForm)
			hear(t, e, whole)
			refuses(t, e, wrong, api.ErrForm)
			e.Break()
			refuses(t, e, wrong, api.ErrForm)
		}
	}
	for band := range 21 {
		wrong := conceal.Packet{Epoch: 6, Number: 1, Payload: wrongNext(t, whole.Payload, band)}
		if h, err := player.Read(wrong.Payload); err != api.OK || h.Whole {
			t.Fatal(h, err)
		}
		e := conceal.New()
		refuses(t, e, wrong, api.ErrState)
		hear(t, e, whole)
		refuses(t, e, wrong, api.ErrForm)
	}
}

// P15.1: a packet is played with its number, the seed of its noise.
func TestNumberIsTheSeed(t *testing.T) {
	b := begun(true)
	for i := range 21 {
		b.Bits(uint32(22-i%2*7), 5) // beside those of 22 those of 15 aren't told
	}
	var heard [][]int16
	for _, number := range []uint32{0, 1, 77, 1 << 31, math.MaxUint32} {
		want, err := player.New().Play(number, b.Bytes())
		x := hear(t, conceal.New(), conceal.Packet{Epoch: 9, Number: number, Whole: true, Payload: b.Bytes()})
		if err != api.OK || len(x) != 1 || !slices.Equal(x[0], want) {
			t.Errorf("number %d: others than a player's", number)
		}
		heard = append(heard, x...)
	}
	if equal(heard[:1], heard[1:2]) || equal(heard[:1], heard[4:]) {
		t.Error("other numbers have no other noise")
	}
}

// The chapter's words: an ear embeds its player, with which it hears.
func TestEmbeddedPlayer(t *testing.T) {
	r := rand.New(rand.NewSource(1))
	e := conceal.New()
	had := e.Player
	for i, f := range stream(t, r, 1, 0, 30, 3) {
		if i%4 == 3 {
			continue // it is lost
		}
		if _, err := e.Hear(f.p); err != api.OK {
			e.Break()
			continue
		}
		// What fades next is what the player has, and what its synth has left.
		copied := *e.Player
		copied.Synth = e.Clone()
		var want [][]int16
		for range 4 {
			x, err := copied.Fade()
			if err != api.OK {
				t.Fatal(err)
			}
			want = append(want, x)
		}
		whole, _ := loud(t, 2, 0)
		other := *e
		other.Player = &player.Player{}
		*other.Player = *e.Player
		other.Synth = e.Clone()
		if x := hear(t, &other, whole); len(x) != 5 || !equal(x[:4], want) {
			t.Fatal(i, "its player has other sound")
		}
		if e.Player != had {
			t.Fatal("another player")
		}
	}
}

// P15.1: any calls in any order, of packets as they come, lost, late, twice, of others' places, cut, with bits turned, and of any bytes.
func TestAnyCalls(t *testing.T) {
	r := rand.New(rand.NewSource(2))
	told, frames := map[api.Errno]int{}, map[int]int{}
	for range 40 {
		e, c := conceal.New(), newChapterEar()
		epoch, number := r.Uint32()%3, r.Uint32()%8-4
		for range 3 {
			l := stream(t, r, epoch, number, 12, 3)
			for i := range l {
				for _, k := range anyCallsOf(r, l, i) {
					x, err := k.of(e)
					want, wantErr := k.ofChapter(c)
					if err != wantErr || !equal(x, want) {
						t.Fatalf("%v: %d frames, %d, not %d, %d, or other samples", k, len(x), err, len(want), wantErr)
					}
					told[err]++
					frames[len(x)]++
				}
			}
			epoch += r.Uint32() % 2
			number += r.Uint32() % 12
		}
	}
	for n := range 6 {
		if frames[n] < 5 {
			t.Error("answers that seldom come:", frames)
		}
	}
	if told[api.OK] < 300 || told[api.ErrForm] < 50 || told[api.ErrState] < 50 {
		t.Error("answers that seldom come:", told)
	}
}

// anyCallsOf are calls about one of a stream's packets: most often it is heard.
func anyCallsOf(r *rand.Rand, l []coded, i int) []call {
	p := l[i].p
	calls := []call{{p: p}}
	b := slices.Clone(p.Payload)
	switch r.Intn(20) {
	case 0, 1, 2:
		return nil
	case 3:
		calls = append(calls, calls[0])
	case 4:
		calls = append(calls, call{p: l[r.Intn(len(l))].p})
	case 5:
		calls[0] = call{broken: true}
	case 6:
		calls = append(calls, call{broken: true})
	case 7:
		p.Whole = !p.Whole
		calls = append([]call{{p: p}}, calls...)
	case 8:
		b[r.Intn(len(b))] ^= 1 << r.Intn(8)
		calls[0].p.Payload = b
	case 9:
		calls[0].p.Payload = b[:r.Intn(len(b))]
	case 10:
		p.Payload = anyBytes(r)
		calls = append(calls, call{p: p}, call{p: at(p, p.Epoch, p.Number+1)})
	case 11:
		calls[0].p.Epoch++
	case 12:
		calls[0].p.Number += r.Uint32()%7 - 3
	case 13:
		p.Payload, p.Whole = wrongLines(), true
		calls = append([]call{{p: at(p, p.Epoch, p.Number+2)}}, calls...)
	}
	return calls
}

// anyBytes are of any length, often with a head that may be.
func anyBytes(r *rand.Rand) []byte {
	b := make([]byte, r.Intn(50))
	for i := range b {
		b[i] = byte(r.Intn(256) & r.Intn(256))
	}
	if len(b) > 0 && r.Intn(4) > 0 {
		b[0] = b[0]&0xc3 | byte(1+r.Intn(10))<<2
	}
	return b
}

// P15.2: of each run an ear hears, from the second packet on, what is heard by who heard the epoch from its beginning; whatever it heard ahead of it, in this epoch and others.
func TestWhatIsHeardOfEachRun(t *testing.T) {
	r := rand.New(rand.NewSource(3))
	seen := 0
	for range 25 {
		e := conceal.New()
		for epoch := range uint32(3) {
			run := 0 // how many packets of it
			beside := player.New()
			for _, f := range stream(t, r, epoch, 0, 20, 5) {
				want, err := beside.Play(f.p.Number, f.p.Payload)
				if err != api.OK || !slices.Equal(want, f.heard) {
					t.Fatal("a player hears others than the encoder tells:", err)
				}
				switch lost := r.Intn(6) == 0; {
				case lost && r.Intn(3) == 0:
					e.Break()
					fallthrough
				case lost:
					run = 0
					continue
				case run == 0 && !f.p.Whole:
					refuses(t, e, f.p, api.ErrState)
					continue
				}
				x := hear(t, e, f.p)
				if run++; run == 1 {
					continue
				}
				if seen++; len(x) != 1 || !slices.Equal(x[0], want) {
					t.Fatalf("the packet %d of a run: %d frames, or others", run, len(x))
				}
			}
		}
	}
	if seen < 300 {
		t.Error("few packets of runs:", seen)
	}
}

// P15.2: without a loss all is heard, from the first sample on, over the last number, too.
func TestWithoutALoss(t *testing.T) {
	r := rand.New(rand.NewSource(4))
	for _, first := range []uint32{0, 1, 1<<31 - 5, math.MaxUint32 - 5} {
		e := conceal.New()
		for i, f := range stream(t, r, first, first, 12, 1000) {
			if x := hear(t, e, f.p); len(x) != 1 || !slices.Equal(x[0], f.heard) || f.p.Whole != (i == 0) {
				t.Fatalf("from %d on, at %d: %d frames, or others", first, f.p.Number, len(x))
			}
		}
	}
}

// P15.1: of no ear: ErrArg, nothing; one as it is declared doesn't panic.
func TestNoEar(t *testing.T) {
	whole, next := loud(t, 1, 1)
	var none *conceal.Ear
	for range 2 {
		for _, p := range []conceal.Packet{{}, whole, next} {
			refuses(t, none, p, api.ErrArg)
		}
		none.Break()
	}
	// They have no player, or a player without a synth.
	for _, e := range []*conceal.Ear{{}, {Player: &player.Player{}}} {
		for _, p := range []conceal.Packet{{}, whole, next, at(whole, 1, 9)} {
			if x, err := e.Hear(p); len(x) != 0 || err == api.OK {
				t.Error(len(x), err)
			}
			e.Break()
		}
	}
}

// P1: of any bytes, in any order of calls, each call ends, and none panics; also where others let its player lose what it has.
func TestNothingPanics(t *testing.T) {
	r := rand.New(rand.NewSource(5))
	heard := 0
	for range 20 {
		e := conceal.New()
		for range 40 {
			p := conceal.Packet{Epoch: r.Uint32() >> 31, Number: r.Uint32() % 6, Whole: r.Intn(2) == 0, Payload: anyBytes(r)}
			if r.Intn(4) > 0 {
				p.Payload = append([]byte{byte(r.Intn(2)<<7 | 1<<5 | r.Intn(4))}, p.Payload[:len(p.Payload)/3]...)
				p.Whole = p.Payload[0]>>7 == 1
			}
			x, err := e.Hear(p)
			if !right(x, err) {
				t.Fatal(len(x), err)
			}
			heard += len(x)
			switch r.Intn(20) {
			case 0:
				e.Break()
			case 1:
				e.Lose()
			}
		}
	}
	if heard < 200 {
		t.Error("few frames are heard:", heard)
	}
	e := conceal.New()
	for _, b := range [][]byte{make([]byte, 1<<20), bytes.Repeat([]byte{255}, 1<<20), bytes.Repeat([]byte{0xa8}, 1<<20)} {
		for _, whole := range []bool{false, true} {
			x, err := e.Hear(conceal.Packet{Whole: whole, Payload: b})
			if !right(x, err) {
				t.Fatal(len(x), err)
			}
		}
	}
}

// The document's third rule: what is handed in isn't changed or kept, what lies behind its length is neither read nor written, and nothing is shared.
func TestListsAreApart(t *testing.T) {
	r := rand.New(rand.NewSource(6))
	e, other := conceal.New(), conceal.New()
	for i, f := range stream(t, r, 1, 0, 40, 2) {
		if i%3 == 1 && !f.p.Whole {
			e.Break()
			other.Break()
			continue // it is lost
		}
		room := append(slices.Clone(f.p.Payload), bytes.Repeat([]byte{255}, 30)...)
		p := f.p
		p.Payload = room[:len(f.p.Payload)]
		x, err := e.Hear(p)
		want, wantErr := other.Hear(f.p)
		if err != wantErr || !equal(x, want) {
			t.Fatal("bytes behind the length are read, or what is handed in, or answered, is kept")
		}
		if !bytes.Equal(p.Payload, f.p.Payload) || bytes.Count(room[len(f.p.Payload):], []byte{255}) != 30 {
			t.Fatal("bytes are changed")
		}
		clear(room)
		for k, pcm := range x {
			clear(pcm[:cap(pcm)])
			if !equal(x[k+1:], want[k+1:]) {
				t.Fatal("frames share their samples")
			}
		}
	}
}

// answers are those of all calls, of some packets.
func answers(t *testing.T) []int64 {
	r := rand.New(rand.NewSource(7))
	var all []int64
	for range 4 {
		e := conceal.New()
		l := stream(t, r, 1, r.Uint32(), 10, 3)
		for i := range l {
			for _, k := range anyCallsOf(r, l, i) {
				x, err := k.of(e)
				all = append(all, int64(err), int64(len(x)))
				for _, pcm := range x {
					all = append(all, int64(sumOf(pcm)))
				}
			}
		}
	}
	return all
}

// P2: an answer hangs on nothing but what was given: neither on others ahead of it nor on those beside it.
func TestAnswersStayTheSame(t *testing.T) {
	want := answers(t)
	if !slices.Equal(answers(t), want) {
		t.Error("another answer behind the first one")
	}
	var got [8][]int64
	var all sync.WaitGroup
	for i := range got {
		all.Go(func() { got[i] = answers(t) })
	}
	all.Wait()
	for i := range got {
		if !slices.Equal(got[i], want) {
			t.Error("another answer", i)
		}
	}
}

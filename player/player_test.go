package player_test

import (
	"bytes"
	"encoding/binary"
	"encoding/hex"
	"math"
	"math/rand"
	"slices"
	"sync"
	"testing"

	"sideband/api"
	"sideband/bands"
	"sideband/check"
	"sideband/coder"
	"sideband/energy"
	"sideband/mask"
	"sideband/model"
	"sideband/overlap"
	"sideband/player"
	"sideband/quant"
	"sideband/rangedec"
	"sideband/rangeenc"
)

// silence is a frame of it.
var silence = make([]int16, 512)

// numberOf is a line's number of steps, of a band's that may have so many bits.
type numberOf func(line, wide int) int32

// noughts are numbers of which none is told.
func noughts(int, int) int32 { return 0 }

// payloadOf is a payload of a head, ceilings, those ahead (if it isn't whole), and numbers.
func payloadOf(t *testing.T, h player.Head, l, ahead []int, number numberOf) []byte {
	t.Helper()
	e := rangeenc.New()
	putHead(e, h)
	var err api.Errno
	if h.Whole {
		err = energy.Put(e, l)
	} else {
		err = energy.Put(e, l, ahead...)
	}
	steps, err2 := mask.Steps(l, h.Quality, h.Loss)
	lines := make([]int32, 512)
	for i := range lines {
		if band := bands.Of(i); steps[band] < l[band] {
			lines[i] = number(i, l[band]-steps[band]) << steps[band]
		}
	}
	if err3 := quant.Put(e, lines, l, steps); err != api.OK || err2 != api.OK || err3 != api.OK {
		t.Fatal(err, err2, err3)
	}
	return e.Bytes()
}

func putHead(e *rangeenc.Encoder, h player.Head) {
	for _, b := range []bool{h.Whole, h.Brief} {
		if b {
			e.Bits(1, 1)
		} else {
			e.Bits(0, 1)
		}
	}
	e.Bits(uint32(h.Quality), 4)
	e.Bits(uint32(h.Loss), 5)
}

// level is ceilings that are all the same.
func level(n int) []int { return slices.Repeat([]int{n}, 21) }

// single is ceilings of 0, but for one.
func single(band, n int) []int {
	l := level(0)
	l[band] = n
	return l
}

// chapterPlayer goes through the chapter's words, sentence by sentence.
type chapterPlayer struct {
	synth    *overlap.Synth
	ceilings []int
	lines    []int32
	brief    bool
}

func newChapterPlayer() *chapterPlayer { return &chapterPlayer{synth: overlap.NewSynth()} }

func (p *chapterPlayer) play(number uint32, b []byte) ([]int16, api.Errno) {
	d := rangedec.New(b)
	whole, _ := d.Bits(1)
	brief, _ := d.Bits(1)
	quality, _ := d.Bits(4)
	loss, _ := d.Bits(5)
	if quality == 0 || quality > 10 {
		return nil, api.ErrForm
	}
	if whole == 0 && p.ceilings == nil {
		return nil, api.ErrState
	}
	var l []int
	var err api.Errno
	if whole == 1 {
		l, err = energy.Get(d)
	} else {
		l, err = energy.Get(d, p.ceilings...)
	}
	if err != api.OK {
		return nil, err
	}
	steps, _ := mask.Steps(l, int(quality), int(loss))
	lines, err := quant.Get(d, l, steps, number)
	if err != api.OK {
		return nil, err
	}
	for i, n := range lines {
		lines[i] = int32(math.Max(-1<<25, math.Min(float64(n), 1<<25-1)))
	}
	p.ceilings, p.lines, p.brief = l, lines, brief == 1
	return p.synth.Samples(lines, p.brief)
}

func (p *chapterPlayer) fade() ([]int16, api.Errno) {
	if p.ceilings == nil {
		return nil, api.ErrState
	}
	for i, n := range p.lines {
		p.lines[i] = int32(math.Trunc(float64(n) / 2))
	}
	return p.synth.Samples(p.lines, p.brief)
}

func (p *chapterPlayer) lose() { p.ceilings = nil }

// call is one of a player's.
type call struct {
	name   string // play, fade or lose
	number uint32
	b      []byte
}

func (c call) of(p *player.Player) ([]int16, api.Errno) {
	switch c.name {
	case "play":
		return p.Play(c.number, c.b)
	case "fade":
		return p.Fade()
	}
	p.Lose()
	return nil, api.OK
}

func (c call) ofChapter(p *chapterPlayer) ([]int16, api.Errno) {
	switch c.name {
	case "play":
		return p.play(c.number, c.b)
	case "fade":
		return p.fade()
	}
	p.lose()
	return nil, api.OK
}

// right tells whether an answer has what it may: 512 samples, or none beside an error.
func right(x []int16, err api.Errno) bool { return len(x) == 512 == (err == api.OK) && len(x)%512 == 0 }

func play(t *testing.T, p *player.Player, number uint32, b []byte) []int16 {
	t.Helper()
	x, err := p.Play(number, b)
	if err != api.OK || len(x) != 512 {
		t.Fatalf("Play(%d, %x): %d samples, %d", number, b, len(x), err)
	}
	return x
}

func fade(t *testing.T, p *player.Player) []int16 {
	t.Helper()
	x, err := p.Fade()
	if err != api.OK || len(x) != 512 {
		t.Fatalf("Fade: %d samples, %d", len(x), err)
	}
	return x
}

// refuses tells where a player plays bytes, or answers another error.
func refuses(t *testing.T, p *player.Player, number uint32, b []byte, want api.Errno) {
	t.Helper()
	if x, err := p.Play(number, b); len(x) != 0 || err != want {
		t.Errorf("Play(%d, %x): %d samples, %d, not %d", number, b, len(x), err, want)
	}
}

// hasNone tells where a player has ceilings.
func hasNone(t *testing.T, p *player.Player) {
	t.Helper()
	if x, err := p.Fade(); len(x) != 0 || err != api.ErrState {
		t.Errorf("Fade: %d samples, %d", len(x), err)
	}
}

// sumOf is a sum of samples as bytes.
func sumOf(pcm []int16) uint32 {
	var b []byte
	for _, n := range pcm {
		b = binary.LittleEndian.AppendUint16(b, uint16(n))
	}
	return check.Of(b...)
}

func fromHex(t *testing.T, s string) []byte {
	t.Helper()
	b, err := hex.DecodeString(s)
	if err != nil {
		t.Fatal(err)
	}
	return b
}

// anyFrame is of any kind: silence, noise of any gain, waves, clicks, what begins amid, the greatest samples.
func anyFrame(r *rand.Rand) []int16 {
	pcm := make([]int16, 512)
	gain, kind, period, from := r.Intn(16), r.Intn(7), 1+r.Intn(300), r.Intn(512)
	for i := range pcm {
		switch noise := int16(r.Uint32()); kind {
		case 0:
		case 1, 2:
			pcm[i] = noise >> gain
		case 3:
			pcm[i] = int16(30000*math.Sin(float64(i)/float64(period))) >> gain
		case 4:
			if i%period == 0 {
				pcm[i] = noise
			}
		case 5:
			pcm[i] = noise >> 13
			if i >= from {
				pcm[i] = noise >> (gain / 2)
			}
		case 6:
			pcm[i] = []int16{math.MinInt16, math.MaxInt16}[i/period%2]
		}
	}
	return pcm
}

// coded is a frame's payload, and what the encoder tells of it.
type coded struct {
	number uint32
	b      []byte
	whole  bool
	heard  []int16
}

// stream is frames of one encoder.
func stream(t *testing.T, r *rand.Rand, quality, budget, frames int) []coded {
	t.Helper()
	e, err := coder.New(quality, budget)
	if err != api.OK {
		t.Fatal(err)
	}
	l := make([]coded, frames)
	for i := range l {
		l[i].number = r.Uint32()
		l[i].b, l[i].whole, err = e.Encode(l[i].number, anyFrame(r), r.Intn(4) == 0)
		if l[i].heard = e.Heard(); err != api.OK {
			t.Fatal(err)
		}
	}
	return l
}

// anyBytes are of any length, often with a head that may be.
func anyBytes(r *rand.Rand) []byte {
	b := make([]byte, r.Intn(50))
	for i := range b {
		b[i] = byte(r.Intn(256) & r.Intn(256))
	}
	if len(b) > 0 && r.Intn(4) > 0 {
		b[0] = b[0]&0xc3 | byte(1+r.Intn(10))<<2
	}
	return b
}

// P14.1, P14.2, P14.3: answers that were reckoned elsewhere, from the range coder to the samples, by whole numbers without end.
func TestAnswersAreAsReckoned(t *testing.T) {
	p := player.New()
	for i, c := range []struct {
		name   string
		number uint32
		b      string
		err    api.Errno
		sum    uint32 // of its samples
	}{
		{"fade", 0, "", 8, 0},
		{"lose", 0, "", 0, 0},
		{"fade", 0, "", 8, 0},
		{"play", 7, "185ffff7", 8, 0}, // it isn't whole
		{"play", 2604938940, "986c74102094383f7ffbf4994080589fb2dae116beff0ddc47b8cb36c43c5d4e1547e697747bbf38d5fc2e433137dec99c5fb18d2c7b409345caa490059b789c38213debc31fef2e124d075eae267a1bc3cececdf985", 0, 1977946707},
		{"play", 2058194142, "1879da13d19bb38831928f202c9e5e7212209e09c6de1daceb9cb49b91ddf4120e1afc4b06d4b909a3849321c7f598439011f2e21bc873aff097f3404c78a1b802358c7c5adf998bd7321de072ccd6a80596a01bb390d7d92f229fc0cda46225", 0, 4163412035},
		{"play", 133438785, "585ffba5ee867b3b02b617cfb605ee4c89528a7dc03d65a099e3233b2dc0d67f79ff3876da6e2419df01f5d5efdbc9b8b10c345979b7b05016e78672e5068228434daf1a8b771fbb334ca3c28cb6f998ec2d5fb0de588509d3e96b6347279eaf6263edf53b00a9270640", 0, 3593368138},
		{"fade", 0, "", 0, 3801188202},
		{"fade", 0, "", 0, 4173426671},
		{"play", 2684533783, "18b7d315420547b58c2bd8f1f7edccd7d2702aabea547c460a9ae470edfbf2644ce7112905ada5695f82f7b09b9b0f91", 0, 1564258323},
		{"play", 9, "405ffffc", 3, 0}, // no such quality: 0, 11, 15
		{"play", 9, "ec65293a294a4ffffffffffffffffd6b5b", 3, 0},
		{"play", 9, "fc052939294a4ffffffffffffffffd6b5b", 3, 0},
		{"play", 9, "94052944294a50000000000000015d6b45", 3, 0}, // no such ceilings: 27 behind others, 27 ahead of them, 31
		{"play", 9, "1416be6f98cae1657e8055df2c613fd20987809422d78f2430", 3, 0},
		{"play", 9, "14172f1e14cae1657e8055df2c613fd20987809422d5a5520c", 3, 0},
		{"play", 9, "945ffff700000000000000000000e02a5e66b7", 3, 0}, // a number of too many bits: the last line, and one amid
		{"play", 9, "5476f6aef91636b1dc186cf538ae55a14d0d6a7f8c92e0d9bd0d44d558", 3, 0},
		{"fade", 0, "", 0, 47228752},
		{"play", 3690842264, "1c3718473d8093d5e3c69c67ac1e6de1804e1cd4d769e439effb153ab81e15d11a44d6151aa32c654a4ee36f86bf4a56a8185a0432eb64db5fa60f", 0, 1283621539},
		{"lose", 0, "", 0, 0},
		{"fade", 0, "", 8, 0},
		{"play", 11, "185ffff7", 8, 0},
		{"play", 3264694220, "a81a00282ffe60000000000000003d89b45b9a6cb0d1caefc080d4b0467c81c4d93ae7d25e3a82ad9f763e03cc0248e9da5316b7e9bfa5caad77f76372116227b70947d2e7153a6f9ba3932d6014d496ce10", 0, 3968303230}, // the greatest lines
		{"fade", 0, "", 0, 1946298521},
		{"fade", 0, "", 0, 567733008},
		{"play", 164408158, "e859fff130000000000000000000011f0ac691", 0, 3654808453}, // the least ones
		{"fade", 0, "", 0, 1729200094},
		{"play", 1693114669, "a80210791084200000000000000001f14aaf78d3d8b7698829087147e0dfde65aefd236bd1029976e568ca814ea0ee2c70b6c643d565c7f8ded8c5e9e1e89b010c3a600b6cf72fa54a38247f58cd6b117c47b57aeb5997d9263f1510a035fb50515b4d47b905bd6fa38338e8b7b3210bab647107cf86c8108709f178f92a41c4e7d07366a9dcdcc6fb7126854c666d6e2f7498", 0, 2526264809}, // 3 and -3
		{"fade", 0, "", 0, 1413368013},
		{"fade", 0, "", 0, 4004437628},
		{"fade", 0, "", 0, 4004437628},
		{"play", 0, "87ee737b739cdffffffffffffffff8c632", 0, 1844134230}, // noise
		{"play", 1, "47dfffdf", 0, 1489819744},
		{"play", 4294967295, "87ee737b739cdffffffffffffffff8c632", 0, 82605682},
		{"fade", 0, "", 0, 1642712504},
		{"play", 1710694190, "a7fffff5", 0, 1806872361}, // silence
		{"play", 2099543577, "07dfffe0", 0, 4004437628},
		{"fade", 0, "", 0, 4004437628},
		{"play", 3530308221, "de", 0, 2808779599}, // any bytes
		{"play", 4047510833, "96e8", 0, 1893004240},
		{"play", 1485203432, "a7", 0, 2421614701},
		{"fade", 0, "", 0, 1055914396},
		{"play", 3501766331, "9d69", 0, 2843751572},
		{"play", 1921700882, "125a9eec95d4ec8ebb4b9182e4527b13fe3791", 0, 2489604943},
		{"play", 3205302795, "53", 0, 3836258385},
		{"fade", 0, "", 0, 1855087216},
		{"play", 4062581682, "49e3d6", 0, 401764227},
		{"play", 3538816626, "c5", 0, 2632841051},
		{"play", 1652028651, "a7", 0, 4180804290},
		{"fade", 0, "", 0, 2579359775},
		{"play", 3331557928, "ceebd3c4bd", 0, 4189660930},
	} {
		x, err := call{c.name, c.number, fromHex(t, c.b)}.of(p)
		if err != c.err || sumOf(x) != c.sum || c.name != "lose" && !right(x, err) {
			t.Fatalf("%d: %s: %d, sum %d, not %d, %d", i, c.name, err, sumOf(x), c.err, c.sum)
		}
	}
}

// P14.1: heads that were reckoned elsewhere, at the bounds of the parts in which bytes lie, and of fewer bytes than a head has.
func TestHeadsAreAsReckoned(t *testing.T) {
	for _, c := range []struct {
		b    string
		want player.Head
		err  api.Errno
	}{
		{"", player.Head{}, 3},
		{"00", player.Head{}, 3},
		{"ff", player.Head{}, 3},
		{"ffffffffffff", player.Head{}, 3},
		{"7fffffff", player.Head{}, 3},
		{"7ffffffe", player.Head{}, 3},
		{"80", player.Head{}, 3},
		{"40", player.Head{}, 3},
		{"03fffffe", player.Head{}, 3},
		{"03ffffff", player.Head{false, false, 1, 0}, 0},
		{"03ffffff80", player.Head{false, false, 1, 0}, 0},
		{"04", player.Head{false, false, 1, 0}, 0},
		{"0400000000000000", player.Head{false, false, 1, 0}, 0},
		{"041f", player.Head{false, false, 1, 0}, 0},
		{"0420", player.Head{false, false, 1, 1}, 0},
		{"043f", player.Head{false, false, 1, 1}, 0},
		{"07e0", player.Head{false, false, 1, 31}, 0},
		{"07ff", player.Head{false, false, 1, 31}, 0},
		{"2bffffe0", player.Head{false, false, 10, 31}, 0},
		{"2bfffffe", player.Head{}, 3},
		{"2bffffff", player.Head{}, 3},
		{"2c", player.Head{}, 3},
		{"2c00", player.Head{}, 3},
		{"44", player.Head{false, true, 1, 0}, 0},
		{"6bff", player.Head{false, true, 10, 31}, 0},
		{"83ffffff", player.Head{true, false, 1, 0}, 0},
		{"84", player.Head{true, false, 1, 0}, 0},
		{"a7ffffff", player.Head{true, false, 10, 0}, 0},
		{"a8", player.Head{true, false, 10, 0}, 0},
		{"aaaa", player.Head{true, false, 10, 21}, 0},
		{"aaaaaaaaff", player.Head{true, false, 10, 21}, 0},
		{"abfffffe", player.Head{}, 3},
		{"abffffff", player.Head{}, 3},
		{"ac", player.Head{}, 3},
		{"c4", player.Head{true, true, 1, 0}, 0},
		{"e8", player.Head{true, true, 10, 0}, 0},
		{"eb", player.Head{true, true, 10, 24}, 0},
		{"ebff", player.Head{true, true, 10, 31}, 0},
	} {
		b := fromHex(t, c.b)
		if h, err := player.Read(b); h != c.want || err != c.err {
			t.Errorf("Read(%s): %v, %d, not %v, %d", c.b, h, err, c.want, c.err)
		}
		if h, err := player.Read(append(b, make([]byte, 9)...)); h != c.want || err != c.err {
			t.Errorf("Read(%s), and noughts: %v, %d", c.b, h, err)
		}
		if h, err := player.Read(append(b, 255, 255, 255, 255, 255)[:len(b)]); h != c.want || err != c.err {
			t.Errorf("Read(%s), and other bytes behind its length: %v, %d", c.b, h, err)
		}
	}
	if h, err := player.Read(nil); h != (player.Head{}) || err != api.ErrForm {
		t.Error("Read(nil):", h, err)
	}
}

// P14.1: each head, with and without what is behind it; qualities that there aren't.
func TestEachHead(t *testing.T) {
	r := rand.New(rand.NewSource(1))
	for _, whole := range []bool{false, true} {
		for _, brief := range []bool{false, true} {
			for quality := range 16 {
				for loss := range 32 {
					put, wantErr := player.Head{Whole: whole, Brief: brief, Quality: quality, Loss: loss}, api.OK
					want := put
					if quality == 0 || quality > 10 {
						want, wantErr = player.Head{}, api.ErrForm
					}
					e := rangeenc.New()
					putHead(e, put)
					for range 5 {
						if h, err := player.Read(e.Bytes()); h != want || err != wantErr {
							t.Errorf("%v: %v, %d", put, h, err)
						}
						e.Bits(r.Uint32()>>8, 24)
					}
				}
			}
		}
	}
}

// P14.1: a new one has no ceilings: it has nothing to fade, and plays no payload that isn't whole.
func TestNew(t *testing.T) {
	p := player.New()
	if p == nil || p.Synth == nil {
		t.Fatal("no player, or none that has a synth")
	}
	hasNone(t, p)
	for _, brief := range []bool{false, true} {
		for quality := 1; quality <= 10; quality++ {
			h := player.Head{Brief: brief, Quality: quality, Loss: quality}
			refuses(t, p, 0, payloadOf(t, h, level(0), level(0), noughts), api.ErrState)
			refuses(t, p, 5, payloadOf(t, h, level(12), level(13), noughts), api.ErrState)
		}
	}
	hasNone(t, p)
	b := payloadOf(t, player.Head{Whole: true, Quality: 8}, level(0), nil, noughts)
	if x := play(t, p, 1, b); !slices.Equal(x, silence) {
		t.Error("silence, ahead of which all was silent:", x)
	}
	if player.New() == p {
		t.Error("New() isn't new")
	}
}

// The chapter's example.
func TestNewAndNotWhole(t *testing.T) {
	e, _ := coder.New(7, 100)
	e.Encode(0, silence, false)
	b, _, _ := e.Encode(1, silence, false)
	refuses(t, player.New(), 1, b, api.ErrState)
}

// P14.2: where several errors apply, the first one that the chapter names.
func TestWhichErrorComesFirst(t *testing.T) {
	noQuality := rangeenc.New()
	putHead(noQuality, player.Head{Quality: 11})
	noQuality.Bits(0xffffff, 24)
	notWhole := rangeenc.New()
	putHead(notWhole, player.Head{Quality: 5})
	notWhole.Bits(0xffffff, 24)
	wrongCeilings := rangeenc.New()
	putHead(wrongCeilings, player.Head{Whole: true, Quality: 5})
	wrongCeilings.Bits(0xffffff, 24)

	p := player.New()
	refuses(t, p, 1, nil, api.ErrForm)
	refuses(t, p, 1, noQuality.Bytes(), api.ErrForm)
	refuses(t, p, 1, notWhole.Bytes(), api.ErrState)
	refuses(t, p, 1, wrongCeilings.Bytes(), api.ErrForm)
	// Whatever is behind a head that isn't whole.
	for mixed := range 2000 {
		b := binary.BigEndian.AppendUint32([]byte{0x14}, uint32(mixed)*2654435761)
		refuses(t, p, 1, append(b, b...), api.ErrState)
	}
	hasNone(t, p)
	var none *player.Player
	refuses(t, none, 1, nil, api.ErrArg)
	refuses(t, none, 1, noQuality.Bytes(), api.ErrArg)
	refuses(t, none, 1, notWhole.Bytes(), api.ErrArg)
}

// wrongPayloads are those that no player plays that has ceilings of 5: by their quality, their ceilings, their lines.
func wrongPayloads(t *testing.T) [][]byte {
	t.Helper()
	l := [][]byte{nil, {}, {0}, {0xff, 0xff, 0xff}}
	for _, h := range []player.Head{{Whole: true}, {Brief: true}, {Whole: true, Quality: 11}, {Brief: true, Quality: 15, Loss: 31}} {
		e := rangeenc.New()
		putHead(e, h)
		for range 21 {
			e.Bits(9, 5)
		}
		l = append(l, e.Bytes())
	}
	for _, wrong := range []uint32{27, 28, 31} {
		for _, band := range []int{0, 10, 20} {
			e := rangeenc.New()
			putHead(e, player.Head{Whole: true, Brief: true, Quality: 6, Loss: 30})
			for i := range 21 {
				if i == band {
					e.Bits(wrong, 5)
				} else {
					e.Bits(9, 5)
				}
			}
			l = append(l, e.Bytes())
		}
	}
	return slices.Concat(l, wrongLines(), wrongDifferences())
}

// wrongDifferences are payloads that aren't whole, of a ceiling that is 22 more than the one ahead of it, which was 5, or of a line of too many bits.
func wrongDifferences() [][]byte {
	often := slices.Repeat([]uint32{10}, 32)
	copy(often, []uint32{3000, 1500, 500})
	copy(often[30:], []uint32{500, 1500})
	m, _ := model.Fixed(often...)
	begun := func(h player.Head, differences []int) *rangeenc.Encoder {
		e := rangeenc.New()
		putHead(e, h)
		for _, n := range differences {
			e.Symbol(m, n)
		}
		return e
	}
	var l [][]byte
	for _, band := range []int{0, 10, 20} {
		l = append(l, begun(player.Head{Brief: true, Quality: 6, Loss: 30}, single(band, 22)).Bytes())
	}
	// Of ceilings of 6, and steps of 0, the first line's number of eight bits.
	e := begun(player.Head{Quality: 10}, level(1))
	sizes, _ := model.New(13)
	e.Symbol(sizes, 8)
	return append(l, e.Bytes())
}

// wrongLines are whole payloads, of ceilings of 7, and of the number of a line at a place that has eight bits, or twelve.
func wrongLines() [][]byte {
	var l [][]byte
	for _, place := range []int{0, 100, 511} {
		for _, wide := range []int{8, 12} {
			e := rangeenc.New()
			putHead(e, player.Head{Whole: true, Brief: place > 0, Quality: 10})
			for range 21 {
				e.Bits(7, 5)
			}
			sizes, _ := model.New(13)
			for range place {
				e.Symbol(sizes, 0)
			}
			e.Symbol(sizes, wide)
			e.Bits(0, 1)
			e.Bits(0, wide-1)
			l = append(l, e.Bytes())
		}
	}
	return l
}

// P14.2: with an error nothing changes: neither ceilings, nor lines, nor whether it was brief, nor what the synth has left.
func TestWithAnErrorNothingChanges(t *testing.T) {
	loud := func(line, _ int) int32 { return int32(line%31) - 15 }
	whole := payloadOf(t, player.Head{Whole: true, Quality: 10}, level(5), nil, loud)
	brief := payloadOf(t, player.Head{Whole: true, Brief: true, Quality: 10}, level(5), nil, loud)
	next := payloadOf(t, player.Head{Quality: 9, Loss: 3}, level(8), level(5), loud)
	for i, ahead := range [][]call{
		{},
		{{"play", 1, whole}},
		{{"play", 1, brief}},
		{{"play", 1, brief}, {"fade", 0, nil}},
		{{"play", 1, whole}, {"lose", 0, nil}},
	} {
		for _, wrong := range wrongPayloads(t) {
			p, other := player.New(), player.New()
			for _, c := range ahead {
				c.of(p)
				c.of(other)
			}
			if x, err := p.Play(77, wrong); len(x) != 0 || err != api.ErrForm && err != api.ErrState {
				t.Fatalf("%d: Play(%x): %d samples, %d", i, wrong, len(x), err)
			}
			for _, c := range []call{{"fade", 0, nil}, {"play", 2, next}, {"fade", 0, nil}, {"play", 3, whole}} {
				x, err := c.of(p)
				want, wantErr := c.of(other)
				if !slices.Equal(x, want) || err != wantErr || !right(x, err) {
					t.Errorf("%d: %s behind Play(%x): %d, not %d, or other samples", i, c.name, wrong, err, wantErr)
				}
			}
		}
	}
}

// P14.2: which errors a player with ceilings tells, of each wrong payload.
func TestWrongPayloads(t *testing.T) {
	p := player.New()
	play(t, p, 1, payloadOf(t, player.Head{Whole: true, Quality: 10}, level(5), nil, noughts))
	for _, b := range wrongPayloads(t) {
		refuses(t, p, 2, b, api.ErrForm)
	}
	// What is wrong by those ceilings isn't by others: 4 and 22 is 26, and of ceilings of 14 numbers have up to ten bits.
	for i, b := range wrongDifferences() {
		p, ahead := player.New(), level(4)
		if i == 3 {
			ahead = level(13)
		}
		play(t, p, 1, payloadOf(t, player.Head{Whole: true, Quality: 10}, ahead, nil, noughts))
		play(t, p, 2, b)
	}
}

// P14.2: whole ones have their ceilings by themselves, whatever is ahead; others by those that the player has.
func TestCeilingsAhead(t *testing.T) {
	whole := func(l []int) []byte {
		return payloadOf(t, player.Head{Whole: true, Quality: 4, Loss: 9}, l, nil, noughts)
	}
	more := payloadOf(t, player.Head{Quality: 4, Loss: 9}, level(13), level(12), noughts) // ceilings of one more
	for _, ahead := range []int{0, 3, 12, 24, 25, 26} {
		p, c := player.New(), newChapterPlayer()
		for i, b := range [][]byte{whole(single(3, 14)), whole(level(ahead)), more, more, whole(single(20, 17)), more} {
			x, err := p.Play(uint32(i), b)
			want, wantErr := c.play(uint32(i), b)
			if err != wantErr || !slices.Equal(x, want) {
				t.Errorf("behind ceilings of %d, call %d: %d, not %d, or other samples", ahead, i, err, wantErr)
			}
			if mayBe := i != 2 && i != 3 || ahead+i-1 <= 26; mayBe != (err == api.OK) {
				t.Errorf("behind ceilings of %d, call %d: %d", ahead, i, err)
			}
		}
	}
}

// P14.2: a number is the seed of noise, and of nothing else.
func TestNumberIsTheSeed(t *testing.T) {
	l := level(15)
	noisy := payloadOf(t, player.Head{Whole: true, Quality: 1, Loss: 31}, l, nil, noughts)
	told := payloadOf(t, player.Head{Whole: true, Quality: 10}, level(2), nil, noughts)
	for _, number := range []uint32{0, 1, 2, 1000, 1 << 31, math.MaxUint32 - 1, math.MaxUint32} {
		lines := make([]int32, 512)
		for i := range lines {
			lines[i] = quant.Noise(number, i, 15)
		}
		want, _ := overlap.NewSynth().Samples(lines, false)
		if x := play(t, player.New(), number, noisy); !slices.Equal(x, want) {
			t.Errorf("number %d: other noise", number)
		}
		if x := play(t, player.New(), number, told); !slices.Equal(x, silence) {
			t.Errorf("number %d: what is told hangs on it", number)
		}
	}
}

// linesOf plays lines of up to twelve bits, and tells a synth that has the same left.
func linesOf(t *testing.T, p *player.Player, brief bool, lines []int32) {
	t.Helper()
	l, _ := energy.Ceilings(lines)
	h := player.Head{Whole: true, Brief: brief, Quality: 10}
	steps, _ := mask.Steps(l, 10, 0)
	if slices.Max(steps) > 0 {
		t.Fatal("lines that are told too coarsely:", l)
	}
	want, _ := p.Clone().Samples(lines, brief)
	b := payloadOf(t, h, l, nil, func(line, _ int) int32 { return lines[line] })
	if x := play(t, p, 3, b); !slices.Equal(x, want) {
		t.Fatal("others than the synth's samples of these lines")
	}
}

// P14.3: halves are cut towards 0, of lines of either sign; a frame fades as it was, brief or long; what fades long enough is silent.
func TestFadeHalves(t *testing.T) {
	for _, brief := range []bool{false, true} {
		for _, n := range []int32{0, 1, -1, 2, -2, 3, -3, 5, -5, 500, -500, 511, -511, 1001, -1001} {
			for _, mixed := range []bool{false, true} {
				lines := make([]int32, 512)
				for i := range lines {
					lines[i] = n
					if mixed && i%2 == 1 {
						lines[i] = -n
					}
				}
				p := player.New()
				linesOf(t, p, brief, lines)
				for range 11 {
					for i, n := range lines {
						lines[i] = int32(math.Trunc(float64(n) / 2))
					}
					want, _ := p.Clone().Samples(lines, brief)
					if x := fade(t, p); !slices.Equal(x, want) {
						t.Fatalf("%d (brief %v, mixed %v): others than half as great lines", n, brief, mixed)
					}
				}
				if x := fade(t, p); !slices.Equal(x, silence) {
					t.Errorf("%d: it doesn't fade", n)
				}
			}
		}
	}
}

// P14.2, P14.3: lines of more than 26 bits are held to these: as a synth has them, and as the player fades them.
func TestLinesAreHeld(t *testing.T) {
	// Of a ceiling of 26, by a step of 16, up to 1023 steps: 1023 * 65536 is above 2^25.
	for _, c := range []struct {
		number, line int32
	}{{1023, 1<<25 - 1}, {-1023, -1 << 25}, {512, 1<<25 - 1}, {-512, -1 << 25}, {511, 511 << 16}, {-511, -511 << 16}, {-513, -1 << 25}, {1, 1 << 16}} {
		for _, brief := range []bool{false, true} {
			p, lines := player.New(), make([]int32, 512)
			lines[2] = c.line
			b := payloadOf(t, player.Head{Whole: true, Brief: brief, Quality: 10}, single(0, 26), nil, func(line, wide int) int32 {
				if wide != 10 {
					t.Fatal("numbers of", wide, "bits")
				}
				if line == 2 {
					return c.number
				}
				return 0
			})
			synth := overlap.NewSynth()
			want, _ := synth.Samples(lines, brief)
			if x := play(t, p, 0, b); !slices.Equal(x, want) {
				t.Errorf("%d steps: others than the samples of a line of %d", c.number, c.line)
			}
			for i := range 27 {
				lines[2] /= 2
				want, _ := synth.Samples(lines, brief)
				if x := fade(t, p); !slices.Equal(x, want) {
					t.Errorf("%d steps: faded %d times, others than the samples of a line of %d", c.number, i+1, lines[2])
				}
			}
		}
	}
}

// P14.3: what fades has its ceilings still: what isn't whole goes on, and is then what fades.
func TestFadeKeepsCeilings(t *testing.T) {
	first := payloadOf(t, player.Head{Whole: true, Quality: 10}, level(7), nil, func(line, _ int) int32 { return int32(line%50) - 25 })
	next := payloadOf(t, player.Head{Brief: true, Quality: 10}, level(6), level(7), func(line, _ int) int32 { return int32(line%11) - 5 })
	for fades := range 40 {
		p, c := player.New(), newChapterPlayer()
		play(t, p, 1, first)
		c.play(1, first)
		for range fades {
			fade(t, p)
			c.fade()
		}
		for i := range 3 {
			x, want := []int16(nil), []int16(nil)
			if i == 0 {
				x = play(t, p, 2, next)
				want, _ = c.play(2, next)
			} else {
				x = fade(t, p)
				want, _ = c.fade()
			}
			if !slices.Equal(x, want) {
				t.Fatal("behind", fades, "fades, call", i, "has others")
			}
		}
	}
}

// P14.3: who lost has no ceilings, until a whole one comes; what the synth has left is left.
func TestLose(t *testing.T) {
	first := payloadOf(t, player.Head{Whole: true, Quality: 10}, level(9), nil, func(line, _ int) int32 { return int32(line % 2 * 200) })
	next := payloadOf(t, player.Head{Quality: 10}, level(9), level(9), noughts)
	for _, ahead := range [][]call{
		{}, {{"play", 0, first}}, {{"play", 0, first}, {"fade", 0, nil}}, {{"play", 0, first}, {"play", 1, next}}, {{"lose", 0, nil}},
	} {
		for _, times := range []int{1, 2, 5} {
			p, stays := player.New(), player.New()
			for _, c := range ahead {
				c.of(p)
				c.of(stays)
			}
			for range times {
				p.Lose()
				hasNone(t, p)
				refuses(t, p, 3, next, api.ErrState)
			}
			for number, b := range [][]byte{first, next, next} {
				if x := play(t, p, uint32(number), b); !slices.Equal(x, play(t, stays, uint32(number), b)) {
					t.Errorf("lost %d times: others at %d", times, number)
				}
			}
			if x := fade(t, p); !slices.Equal(x, fade(t, stays)) {
				t.Errorf("lost %d times: it fades as another", times)
			}
		}
	}
}

// The chapter's words: a player embeds its synth, that goes on with each frame, and with no other call.
func TestEmbeddedSynth(t *testing.T) {
	p, silent := player.New(), make([]int32, 512)
	left := func() []int16 {
		x, err := p.Clone().Samples(silent, false) // of silent lines only what is left is heard
		if err != api.OK {
			t.Fatal(err)
		}
		return x
	}
	synth := p.Synth
	for number := range uint32(12) {
		h := player.Head{Whole: true, Brief: number%3 == 1, Quality: 1, Loss: 31}
		b := payloadOf(t, h, level(10+int(number)), nil, noughts)
		c := newChapterPlayer()
		c.synth = p.Clone()
		want, err := c.play(number, b)
		if x := play(t, p, number, b); err != api.OK || !slices.Equal(x, want) {
			t.Error("others than the samples of its synth:", err)
		}
		was := left()
		player.Read(b)
		p.Play(number, nil)
		p.Lose()
		p.Fade()
		if !slices.Equal(left(), was) || slices.Equal(was, silence) || p.Synth != synth {
			t.Error("its synth goes on without a frame, or isn't its own")
		}
	}
}

// P14.1, P14.2, P14.3: any calls in any order, of payloads as they come, cut, with bits turned, and of any bytes.
func TestAnyCalls(t *testing.T) {
	r := rand.New(rand.NewSource(3))
	told := map[api.Errno]int{}
	for range 60 {
		p, c := player.New(), newChapterPlayer()
		for _, f := range stream(t, r, 1+r.Intn(10), 32+r.Intn(200), 12) {
			for _, k := range anyCallsOf(r, f) {
				x, err := k.of(p)
				want, wantErr := k.ofChapter(c)
				if err != wantErr || !slices.Equal(x, want) {
					t.Fatalf("%s(%d, %x): %d, not %d, or other samples", k.name, k.number, k.b, err, wantErr)
				}
				told[err]++
			}
		}
	}
	if told[api.OK] < 300 || told[api.ErrForm] < 100 || told[api.ErrState] < 30 {
		t.Error("answers that seldom come:", told)
	}
}

// anyCallsOf are calls about a frame: most often it is played.
func anyCallsOf(r *rand.Rand, f coded) []call {
	l := []call{{"play", f.number, f.b}}
	b := slices.Clone(f.b)
	switch r.Intn(12) {
	case 0:
		l = nil
	case 1:
		l = append(l, call{"fade", 0, nil}, call{"fade", 0, nil})
	case 2:
		l[0] = call{"lose", 0, nil}
	case 3:
		l[0].b = b[:r.Intn(len(b))]
	case 4:
		b[r.Intn(len(b))] ^= 1 << r.Intn(8)
		l[0].b = b
	case 5:
		l = append(l, call{"play", f.number, anyBytes(r)}, call{"play", r.Uint32(), anyBytes(r)})
	case 6:
		l = append(l, l[0])
	case 7:
		l[0].b = append(b, byte(r.Uint32()), byte(r.Uint32()))
	}
	return l
}

// P14.4: who hears all payloads, from the first one on, hears what the encoder tells; who joins at a whole one, from the second one on.
func TestWhatIsHeard(t *testing.T) {
	r := rand.New(rand.NewSource(4))
	joined := 0
	for i := range 30 {
		budget := []int{32, 600, 32 + r.Intn(569)}[i%3]
		l := stream(t, r, 1+r.Intn(10), budget, 14)
		for from, first := range l {
			if !first.whole {
				refuses(t, player.New(), first.number, first.b, api.ErrState)
				continue
			}
			joined++
			p := anyPast(t, r, from, l)
			for k, f := range l[from:] {
				h, err := player.Read(f.b)
				if err != api.OK || h.Whole != f.whole {
					t.Fatal(h, err, f.whole)
				}
				x := play(t, p, f.number, f.b)
				late := 0
				if k == 0 && from > 0 {
					late = 128 // what is left of the one ahead ends here
				}
				if !slices.Equal(x[late:], f.heard[late:]) {
					t.Fatalf("joined at %d: others are heard at %d", from, from+k)
				}
			}
		}
	}
	if joined < 100 {
		t.Error("few joins:", joined)
	}
}

// anyPast is a player that heard none or some of the frames ahead of one, and others.
func anyPast(t *testing.T, r *rand.Rand, from int, l []coded) *player.Player {
	t.Helper()
	p := player.New()
	if from == 0 {
		return p
	}
	for range r.Intn(4) {
		f := l[r.Intn(from)]
		p.Play(f.number, f.b)
		switch r.Intn(3) {
		case 0:
			p.Fade()
		case 1:
			p.Lose()
		}
	}
	return p
}

// P14.1, P14.2, P14.3: of no player: ErrArg, nothing; one as it is declared doesn't panic.
func TestNoPlayer(t *testing.T) {
	whole := payloadOf(t, player.Head{Whole: true, Quality: 8}, level(0), nil, noughts)
	part := payloadOf(t, player.Head{Quality: 8}, level(0), level(0), noughts)
	var none *player.Player
	for range 2 {
		for _, b := range [][]byte{nil, {}, {1, 2, 3}, whole, part} {
			refuses(t, none, 4, b, api.ErrArg)
		}
		if x, err := none.Fade(); len(x) != 0 || err != api.ErrArg {
			t.Error("Fade of none:", len(x), err)
		}
		none.Lose()
	}
	var declared player.Player // it has no synth
	for _, b := range [][]byte{nil, {1, 2, 3}, whole, part} {
		if x, err := declared.Play(4, b); len(x) != 0 || err == api.OK {
			t.Error(len(x), err)
		}
		hasNone(t, &declared)
		declared.Lose()
	}
}

// P1: of any bytes, in any order of calls, each call ends, and none panics.
func TestNothingPanics(t *testing.T) {
	r := rand.New(rand.NewSource(5))
	for range 30 {
		p := player.New()
		for range 60 {
			b := anyBytes(r)
			h, err := player.Read(b)
			if err == api.OK != (h.Quality >= 1) || h.Quality > 10 || h.Loss < 0 || h.Loss > 31 || err != api.OK && h != (player.Head{}) {
				t.Fatal(h, err)
			}
			if x, err := p.Play(r.Uint32(), b); !right(x, err) {
				t.Fatal(len(x), err)
			}
			switch r.Intn(9) {
			case 0:
				p.Lose()
			case 1, 2:
				if x, err := p.Fade(); !right(x, err) {
					t.Fatal(len(x), err)
				}
			}
		}
	}
	p := player.New()
	for _, b := range [][]byte{make([]byte, 1<<20), bytes.Repeat([]byte{255}, 1<<20), bytes.Repeat([]byte{0xa8}, 1<<20)} {
		player.Read(b)
		p.Play(1, b)
	}
}

// The document's third rule: what is handed in isn't changed or kept, what lies behind its length is neither read nor written, and nothing is shared.
func TestListsAreApart(t *testing.T) {
	r := rand.New(rand.NewSource(6))
	p, other := player.New(), player.New()
	for _, f := range stream(t, r, 9, 220, 12) {
		want := play(t, other, f.number, f.b)
		room := append(slices.Clone(f.b), bytes.Repeat([]byte{255}, 30)...)
		b := room[:len(f.b)]
		h, err := player.Read(b)
		x := play(t, p, f.number, b)
		if !bytes.Equal(b, f.b) || bytes.Count(room[len(f.b):], []byte{255}) != 30 {
			t.Fatal("bytes are changed")
		}
		if wantHead, wantErr := player.Read(f.b); h != wantHead || err != wantErr || !slices.Equal(x, want) {
			t.Fatal("bytes behind the length are read")
		}
		clear(room)
		clear(x[:cap(x)])
		y := fade(t, p)
		if !slices.Equal(y, fade(t, other)) {
			t.Fatal("what is handed in, or answered, is kept")
		}
		clear(y[:cap(y)])
		if x := fade(t, p); !slices.Equal(x, fade(t, other)) {
			t.Fatal("what fades is kept")
		}
	}
}

// What a player has is made anew by each call: its copy, with a clone of its synth, goes on by itself.
func TestACopyIsApart(t *testing.T) {
	r := rand.New(rand.NewSource(8))
	p := player.New()
	for _, f := range stream(t, r, 8, 160, 8) {
		play(t, p, f.number, f.b)
		other := *p
		other.Synth = p.Clone()
		var want [3][]int16
		for i := range want {
			want[i] = fade(t, &other)
		}
		other.Lose()
		for i := range want {
			if x := fade(t, p); !slices.Equal(x, want[i]) {
				t.Fatal("a copy's calls change it")
			}
		}
	}
}

// answers are those of all calls, of some bytes.
func answers(t *testing.T) []int64 {
	r := rand.New(rand.NewSource(7))
	var all []int64
	for range 5 {
		p := player.New()
		for _, f := range stream(t, r, 1+r.Intn(10), 32+r.Intn(200), 6) {
			for _, k := range append(anyCallsOf(r, f), call{"play", r.Uint32(), anyBytes(r)}, call{"fade", 0, nil}) {
				x, err := k.of(p)
				h, err2 := player.Read(k.b)
				all = append(all, int64(err), int64(sumOf(x)), int64(len(x)), int64(h.Quality), int64(h.Loss), int64(err2))
			}
		}
	}
	return all
}

// P2: an answer hangs on nothing but what was given: neither on others ahead of it nor on those beside it.
func TestAnswersStayTheSame(t *testing.T) {
	want := answers(t)
	if !slices.Equal(answers(t), want) {
		t.Error("another answer behind the first one")
	}
	var got [8][]int64
	var all sync.WaitGroup
	for i := range got {
		all.Go(func() { got[i] = answers(t) })
	}
	all.Wait()
	for i := range got {
		if !slices.Equal(got[i], want) {
			t.Error("another answer", i)
		}
	}
}

package coder_test

import (
	"bytes"
	"encoding/binary"
	"encoding/hex"
	"math"
	"math/rand"
	"slices"
	"sync"
	"testing"

	"sideband/api"
	"sideband/check"
	"sideband/coder"
	"sideband/energy"
	"sideband/mask"
	"sideband/overlap"
	"sideband/quant"
	"sideband/rangedec"
	"sideband/rangeenc"
)

// The least and the greatest lines.
const leastLine, greatestLine = -1 << 25, 1<<25 - 1

// silence is a frame of it.
var silence = make([]int16, 512)

func newEncoder(t *testing.T, quality, budget int) *coder.Encoder {
	t.Helper()
	e, err := coder.New(quality, budget)
	if err != api.OK || e == nil {
		t.Fatalf("New(%d, %d): %v, %d", quality, budget, e, err)
	}
	return e
}

func encode(t *testing.T, e *coder.Encoder, number uint32, pcm []int16, refresh bool) ([]byte, bool) {
	t.Helper()
	b, whole, err := e.Encode(number, pcm, refresh)
	if err != api.OK {
		t.Fatalf("Encode(%d): %d", number, err)
	}
	return b, whole
}

// head is what a payload says of itself.
type head struct {
	whole, brief  bool
	quality, loss int
}

// headOf reads it, bit by bit as it is put.
func headOf(b []byte) (head, *rangedec.Decoder) {
	d := rangedec.New(b)
	whole, _ := d.Bits(1)
	brief, _ := d.Bits(1)
	quality, _ := d.Bits(4)
	loss, _ := d.Bits(5)
	return head{whole == 1, brief == 1, int(quality), int(loss)}, d
}

// chapterPayload is the chapter's payload, of a head, lines, and ceilings.
func chapterPayload(t *testing.T, h head, lines []int32, l, ahead []int) []byte {
	t.Helper()
	e := rangeenc.New()
	for _, b := range []bool{h.whole, h.brief} {
		if b {
			e.Bits(1, 1)
		} else {
			e.Bits(0, 1)
		}
	}
	e.Bits(uint32(h.quality), 4)
	e.Bits(uint32(h.loss), 5)
	var err api.Errno
	if h.whole {
		err = energy.Put(e, l)
	} else {
		err = energy.Put(e, l, ahead...)
	}
	steps, err2 := mask.Steps(l, h.quality, h.loss)
	if err3 := quant.Put(e, lines, l, steps); err != api.OK || err2 != api.OK || err3 != api.OK {
		t.Fatal(err, err2, err3)
	}
	return e.Bytes()
}

// chapterEncoder keeps all samples, and goes through the chapter's words.
type chapterEncoder struct {
	quality, budget int
	analyser        *overlap.Analyser
	synth           *overlap.Synth
	past            []int16
	ceilings        []int

	heard []int16
	reach int64
	head  head
	sizes []int // of the payloads with all losses that were tried
}

func newChapterEncoder(quality, budget int) *chapterEncoder {
	return &chapterEncoder{quality: quality, budget: budget, analyser: overlap.NewAnalyser(), synth: overlap.NewSynth(), past: make([]int16, 128)}
}

// chapterBrief tells of the last 640 samples, sample by sample, whether one of the last 512 is above 1000, and 8 times all of the quarter ahead of its own.
func chapterBrief(past []int16) bool {
	past = past[len(past)-640:]
	for i := 128; i < 640; i++ {
		size := math.Abs(float64(past[i]))
		above := size > 1000
		for _, n := range past[i/128*128-128 : i/128*128] {
			above = above && size > 8*math.Abs(float64(n))
		}
		if above {
			return true
		}
	}
	return false
}

func (e *chapterEncoder) encode(t *testing.T, number uint32, pcm []int16, refresh bool) ([]byte, bool) {
	t.Helper()
	e.past = append(e.past, pcm...)
	h := head{whole: refresh || e.ceilings == nil, brief: chapterBrief(e.past), quality: e.quality}
	lines, _ := e.analyser.Lines(pcm, h.brief)
	l, _ := energy.Ceilings(lines)
	payload := chapterPayload(t, h, lines, l, e.ceilings)
	e.sizes = []int{len(payload)}
	for len(payload) > e.budget {
		h.loss++
		payload = chapterPayload(t, h, lines, l, e.ceilings)
		e.sizes = append(e.sizes, len(payload))
	}
	steps, _ := mask.Steps(l, h.quality, h.loss)
	x, _ := quant.Heard(lines, l, steps, number)
	for i, n := range x {
		x[i] = int32(math.Max(leastLine, math.Min(float64(n), greatestLine)))
	}
	e.heard, _ = e.synth.Samples(x, h.brief)
	e.reach, _ = mask.Reach(l, steps)
	e.head, e.ceilings = h, l
	return payload, h.whole
}

// same encodes a frame by both, and tells where they differ.
func same(t *testing.T, e *coder.Encoder, c *chapterEncoder, number uint32, pcm []int16, refresh bool) []byte {
	t.Helper()
	b, whole := encode(t, e, number, pcm, refresh)
	want, wantWhole := c.encode(t, number, pcm, refresh)
	if !bytes.Equal(b, want) || whole != wantWhole {
		t.Fatalf("number %d: %d bytes, %v, not %d bytes, %v\n%x\n%x", number, len(b), whole, len(want), wantWhole, b, want)
	}
	if !slices.Equal(e.Heard(), c.heard) {
		t.Fatalf("number %d: others are heard", number)
	}
	if e.Reach() != c.reach {
		t.Fatalf("number %d: Reach %d, not %d", number, e.Reach(), c.reach)
	}
	return b
}

// even are frames by a rule that is the same elsewhere: noise, waves of corners, a step, silence.
func even(frames int) [][]int16 {
	l := make([][]int16, frames)
	mixed := uint32(12345)
	for f := range l {
		l[f] = make([]int16, 512)
		for i := range l[f] {
			mixed = mixed*1664525 + 1013904223
			noise, at := int(mixed>>16)-32768, 512*f+i
			saw := at%64*1000 - 31500
			var n int
			switch f % 8 {
			case 0:
				n = noise >> 3
			case 1:
				n = saw
			case 2:
				n = saw/4 + noise>>6
			case 3:
				n = noise >> 10
				if i >= 300 {
					n = 20000
				}
			case 4:
				n = noise
			case 5:
				n = 32767
				if at%32 >= 16 {
					n = -32768
				}
			case 6:
				n = 0
			case 7:
				n = at*at*37%4001 - 2000
			}
			l[f][i] = int16(n)
		}
	}
	return l
}

// anyFrame is of any kind: silence, noise of any gain, waves, single clicks, what begins amid, the greatest samples.
func anyFrame(r *rand.Rand) []int16 {
	pcm := make([]int16, 512)
	gain, kind, period, from := r.Intn(16), r.Intn(8), 1+r.Intn(300), r.Intn(512)
	for i := range pcm {
		switch noise := int16(r.Uint32()); kind {
		case 0:
		case 1, 2:
			pcm[i] = noise >> gain
		case 3:
			pcm[i] = int16(30000*math.Sin(float64(i)/float64(period))) >> gain
		case 4:
			if i%period == 0 {
				pcm[i] = noise
			}
		case 5:
			pcm[i] = noise >> 13
			if i >= from {
				pcm[i] = noise >> (gain / 2)
			}
		case 6:
			pcm[i] = []int16{math.MinInt16, math.MaxInt16}[i/period%2]
		case 7:
			pcm[i] = []int16{math.MinInt16, math.MaxInt16}[r.Intn(2)]
		}
	}
	return pcm
}

// sumOf is a sum of samples as bytes.
func sumOf(pcm []int16) uint32 {
	var b []byte
	for _, n := range pcm {
		b = binary.LittleEndian.AppendUint16(b, uint16(n))
	}
	return check.Of(b...)
}

// reckoned is a frame as it was reckoned elsewhere.
type reckoned struct {
	size         int
	whole, brief bool
	loss         int
	reach        int64
	bytes, heard uint32 // their sums
}

// P13.1, P13.2: streams that were reckoned elsewhere, by whole numbers without end.
func TestStreamsAreAsReckoned(t *testing.T) {
	for _, c := range []struct {
		quality, budget int
		frames          []reckoned
	}{
		{8, 60, []reckoned{
			{17, true, true, 8, 119144448, 292697202, 3022284850},
			{25, false, false, 8, 524288000, 3692232910, 146665579},
			{17, true, false, 8, 272629760, 1744218947, 2103155272},
			{14, false, true, 8, 128974848, 3085844471, 910125124},
			{18, false, false, 8, 979369984, 2577334498, 3890892355},
			{57, false, false, 7, 349700096, 3689074506, 1936934353},
			{17, true, false, 8, 400031744, 3984395866, 3618596930},
			{22, false, true, 8, 87162880, 3892464444, 3803703829},
			{11, false, false, 8, 127926272, 3019530245, 2105053596},
			{24, false, false, 8, 524288000, 1805466641, 1994304374},
		}},
		{10, 600, []reckoned{
			{562, true, true, 2, 232704, 3243858333, 178141031},
			{599, false, false, 1, 518144, 2834724933, 4255693443},
			{544, true, false, 2, 532480, 214792011, 4003612536},
			{599, false, true, 1, 125952, 4227742145, 975041957},
			{567, false, false, 2, 1912832, 3217499739, 2142801988},
			{568, false, false, 1, 1341440, 2879963996, 1487605143},
			{574, true, false, 1, 403968, 3168259238, 3267540911},
			{548, false, true, 2, 170240, 2997410107, 2030730576},
			{551, false, false, 2, 249856, 4123954004, 3252550643},
			{598, false, false, 1, 518144, 3826495619, 328237535},
		}},
		{1, 32, []reckoned{
			{17, true, true, 1, 119144448, 1790863765, 3022084518},
			{25, false, false, 1, 524288000, 4221755048, 2882920647},
			{17, true, false, 1, 272629760, 327762908, 3312274596},
			{14, false, true, 1, 128974848, 3309915949, 4192501652},
			{18, false, false, 1, 979369984, 4175140195, 2600145849},
			{14, false, false, 1, 1329594368, 54746299, 1204428659},
			{17, true, false, 1, 400031744, 853582103, 3009462208},
			{22, false, true, 1, 87162880, 2244846511, 1887646069},
			{11, false, false, 1, 127926272, 3426521946, 194158592},
			{24, false, false, 1, 524288000, 2118698214, 2405829421},
		}},
		{5, 200, []reckoned{
			{179, true, true, 3, 14893056, 4229721161, 3817360762},
			{152, false, false, 3, 67371008, 1178554307, 1733408417},
			{163, true, false, 3, 34078720, 79730067, 4151255657},
			{177, false, true, 3, 16121856, 412614417, 2737633415},
			{177, false, false, 3, 122421248, 4159394671, 2967270709},
			{182, false, false, 2, 85852160, 3022676805, 1771657143},
			{190, true, false, 2, 26378240, 3395825121, 4107890451},
			{159, false, true, 3, 10895360, 2401918678, 3666173525},
			{163, false, false, 3, 15990784, 2670929537, 2322801186},
			{153, false, false, 3, 67371008, 848522297, 1030333967},
		}},
		{10, 32, []reckoned{
			{17, true, true, 10, 119144448, 3907369597, 816147583},
			{25, false, false, 10, 524288000, 3231062776, 4287534780},
			{17, true, false, 10, 272629760, 897802910, 1437813053},
			{14, false, true, 10, 128974848, 2553485383, 541597257},
			{18, false, false, 10, 979369984, 2444246629, 3914590305},
			{14, false, false, 10, 1329594368, 3402272302, 2399353849},
			{17, true, false, 10, 400031744, 350912597, 3082147284},
			{22, false, true, 10, 87162880, 2846127762, 2949537253},
			{11, false, false, 10, 127926272, 64369206, 1332078055},
			{24, false, false, 10, 524288000, 3770803749, 822421921},
		}},
		{3, 121, []reckoned{
			{106, true, true, 2, 29786112, 1534771805, 2866637793},
			{98, false, false, 2, 132644864, 1320731095, 3107507117},
			{90, true, false, 2, 68157440, 2677360475, 3687133118},
			{109, false, true, 2, 32243712, 1858452758, 4068588789},
			{110, false, false, 2, 244842496, 3143175827, 1981728714},
			{113, false, false, 1, 176947200, 3648337924, 2739562537},
			{83, true, false, 2, 105512960, 3128336425, 1717417183},
			{96, false, true, 2, 21790720, 1319634800, 1045986359},
			{96, false, false, 2, 31981568, 962166866, 1214343291},
			{97, false, false, 2, 132644864, 2733643322, 85154200},
		}},
	} {
		e := newEncoder(t, c.quality, c.budget)
		for f, pcm := range even(len(c.frames)) {
			b, whole := encode(t, e, uint32(f*1000000007+c.quality), pcm, f%4 == 2)
			h, _ := headOf(b)
			got := reckoned{len(b), whole, h.brief, h.loss, e.Reach(), check.Of(b...), sumOf(e.Heard())}
			if got != c.frames[f] || h.whole != whole || h.quality != c.quality {
				t.Fatalf("New(%d, %d), frame %d: %v, not %v", c.quality, c.budget, f, got, c.frames[f])
			}
		}
	}
}

// P13.1, P13.2: bytes, and samples, that were reckoned elsewhere.
func TestBytesAreAsReckoned(t *testing.T) {
	want := []string{
		"e1108c4c82db1010001004000841f739cf",
		"2116098655ae17a4b0ad02f64f4dc5139ce151d0430da4c3c8",
		"a1129d19c4e12f003deffbdef7bde6b9cf",
		"6116148129038d7637e09244133e",
		"2117ef313c170df8cb44fd97ab206b6a317c",
		"20f8c9d6f39b2250fa6552493f36fc0db78a0c53d5fe831ffb3a248261007666915290c36de145283ad676295ab08dbc7923cdeef3596cb6f8",
		"a11294d5a52f71f6f3b10c02f785e635ae",
		"6118ca6178e41cb1f3013e81603ac48c9b728e1157de",
		"211c5dd7ea3a47683f15c0",
		"2116150b7a0191d0e3b848ec2d72b1aea2b1073025b0e3b0",
	}
	e := newEncoder(t, 8, 60)
	for f, pcm := range even(len(want)) {
		b, _ := encode(t, e, uint32(f*1000000007+8), pcm, f%4 == 2)
		if got := hex.EncodeToString(b); got != want[f] {
			t.Errorf("frame %d: %s, not %s", f, got, want[f])
		}
		if f != 5 {
			continue
		}
		x := e.Heard()
		first := []int16{-4838, -14857, 10081, 746, 6829, 3487, -917, 1169, 2571, 721, -1097, -720, 4019, -372, 2235, 1712, -485, -889, -2777, 1443, -1355, 6175, -1721, 5107}
		last := []int16{-19798, -23148, -25062, -24212, -21007, -24411, -25714, -19813, -8953, -22554, -20678, -19055}
		if !slices.Equal(x[:24], first) || !slices.Equal(x[500:], last) {
			t.Error("others are heard:", x)
		}
	}
}

// The chapter's example: at every quality, and budget, whole and not.
func TestSilence(t *testing.T) {
	for quality := 1; quality <= 10; quality++ {
		for _, budget := range []int{32, 33, 300, 600} {
			e := newEncoder(t, quality, budget)
			for number := range uint32(6) {
				b, whole := encode(t, e, number, silence, number == 4)
				if len(b) > 5 || whole != (number%4 == 0) || e.Reach() != 1024 || !slices.Equal(e.Heard(), silence) {
					t.Errorf("New(%d, %d): %x, %v, %d", quality, budget, b, whole, e.Reach())
				}
				if h, _ := headOf(b); h != (head{whole, false, quality, 0}) {
					t.Errorf("New(%d, %d): %v", quality, budget, h)
				}
			}
		}
	}
	e := newEncoder(t, 8, 32)
	for _, want := range []string{"9ffffff7", "1ffffff8", "1ffffff8"} {
		if b, _ := encode(t, e, 3, silence, false); hex.EncodeToString(b) != want {
			t.Errorf("%x, not %s", b, want)
		}
	}
}

// P13.1: which encoders there may be.
func TestNew(t *testing.T) {
	for quality := 1; quality <= 10; quality++ {
		for budget := 32; budget <= 600; budget++ {
			if e, err := coder.New(quality, budget); e == nil || err != api.OK {
				t.Errorf("New(%d, %d): %v, %d", quality, budget, e, err)
			}
		}
	}
	far := []int{math.MinInt, math.MinInt32, -600, -32, -1, 0, 601, 1000, 1 << 16, 1<<32 + 5, 1<<32 + 100, math.MaxInt32, math.MaxInt}
	refuses := func(quality, budget int) {
		t.Helper()
		if e, err := coder.New(quality, budget); e != nil || err != api.ErrArg {
			t.Errorf("New(%d, %d): %v, %d", quality, budget, e, err)
		}
	}
	for _, n := range append(far, 11, 12, 15, 16, 31, 32, 600) {
		refuses(n, 32)
		refuses(n, 600)
		refuses(n, 31)
		refuses(n, 601)
	}
	for _, n := range append(far, 1, 5, 10, 31) {
		refuses(1, n)
		refuses(10, n)
		refuses(0, n)
	}
}

// briefOf tells of a frame whether it is coded as a brief one, behind others.
func briefOf(t *testing.T, frames ...[]int16) bool {
	t.Helper()
	e := newEncoder(t, 1, 32)
	var h head
	for i, pcm := range frames {
		b, _ := encode(t, e, uint32(i), pcm, false)
		h, _ = headOf(b)
	}
	return h.brief
}

// click is a frame of silence, with samples at places.
func click(samples map[int]int16) []int16 {
	pcm := slices.Clone(silence)
	for at, n := range samples {
		pcm[at] = n
	}
	return pcm
}

// P13.1: behind silence a frame is brief by a sample above 1000, at any place.
func TestBriefBySize(t *testing.T) {
	for _, c := range []struct {
		n    int16
		want bool
	}{{0, false}, {1, false}, {999, false}, {1000, false}, {1001, true}, {-1000, false}, {-1001, true}, {-999, false}, {32767, true}, {-32767, true}, {-32768, true}} {
		for _, at := range []int{0, 1, 127, 128, 129, 255, 256, 300, 383, 384, 511} {
			pcm := click(map[int]int16{at: c.n})
			if briefOf(t, pcm) != c.want || briefOf(t, silence, pcm) != c.want {
				t.Errorf("%d at %d: not %v", c.n, at, c.want)
			}
		}
	}
}

// P13.1: by a sample above 8 times the greatest one of the quarter ahead, of its own frame or of the one ahead; of either sign.
func TestBriefByWhatIsAhead(t *testing.T) {
	for _, c := range []struct {
		ahead, n int16
		want     bool
	}{
		{125, 1000, false}, {125, 1001, true}, {126, 1008, false}, {126, 1009, true}, {-126, 1008, false}, {-126, 1009, true}, {126, -1008, false}, {126, -1009, true},
		{127, 1015, false}, {4095, 32760, false}, {4095, 32761, true}, {4095, -32760, false}, {4095, -32761, true}, {-4095, -32768, true}, {4096, 32767, false}, {-4096, -32768, false}, {4096, -32768, false},
		{5000, 32767, false}, {32767, 32767, false}, {-32768, 32767, false}, {-32768, -32768, false}, {0, 1001, true}, {1, 1001, true}, {1000, 8000, false}, {1000, 8001, true},
	} {
		for quarter := range 4 {
			for _, place := range []int{0, 60, 127} {
				// All other samples are too small to make a frame brief, or to keep it from that.
				ahead, pcm := slices.Clone(silence), slices.Clone(silence)
				for i := range 512 {
					ahead[i], pcm[i] = c.ahead/2, c.ahead/2
				}
				for i := 128 * quarter; i < 512; i++ {
					pcm[i] = c.n / 8
				}
				if quarter == 0 {
					ahead[384+place] = c.ahead
				} else {
					pcm[128*quarter-128+place] = c.ahead
				}
				pcm[128*quarter+127-place] = c.n
				if got := briefOf(t, ahead, pcm); got != c.want {
					t.Errorf("%d behind %d, quarter %d: %v", c.n, c.ahead, quarter, got)
				}
			}
		}
	}
}

// P13.1: only the quarter ahead counts: neither one ahead of it, nor a sample's own, nor one behind.
func TestBriefByThatQuarterAlone(t *testing.T) {
	loud := click(map[int]int16{0: 3000, 383: 3000}) // its last quarter is silent
	for i, c := range []struct {
		frames [][]int16
		want   bool
	}{
		{[][]int16{loud, click(map[int]int16{5: 1001})}, true},
		{[][]int16{loud, click(map[int]int16{5: 1000})}, false},
		{[][]int16{click(map[int]int16{384: 3000}), click(map[int]int16{5: 20000})}, false},
		{[][]int16{click(map[int]int16{384: 3000}), click(map[int]int16{5: 24001})}, true},
		{[][]int16{click(map[int]int16{511: -3000}), silence, click(map[int]int16{5: 1001})}, true},
		{[][]int16{click(map[int]int16{511: -3000}), click(map[int]int16{127: 20000, 128: 20000, 300: 20000, 400: 20000})}, false},
		{[][]int16{click(map[int]int16{511: -3000}), click(map[int]int16{127: 20000, 300: 20000})}, true},
		{[][]int16{click(map[int]int16{511: -3000}), click(map[int]int16{127: 20000, 255: 2501, 256: 20000, 511: 20000})}, false},
		{[][]int16{click(map[int]int16{511: -3000}), click(map[int]int16{127: 20000, 255: 2499, 256: 20000, 511: 20000})}, true},
		{[][]int16{click(map[int]int16{511: -3000}), click(map[int]int16{0: 900, 100: -20000, 127: 900})}, false},
		{[][]int16{click(map[int]int16{500: 126}), click(map[int]int16{3: 1001, 4: 1008, 5: 900})}, false},
		{[][]int16{click(map[int]int16{500: 126}), click(map[int]int16{3: 1001, 4: -1009, 5: 900})}, true},
		{[][]int16{silence, silence}, false},
	} {
		if got := briefOf(t, c.frames...); got != c.want {
			t.Errorf("%d: %v", i, got)
		}
	}
}

// P13.1: a brief frame's lines are others than a long one's.
func TestBriefLines(t *testing.T) {
	for _, n := range []int16{1000, 1001} {
		e, a := newEncoder(t, 10, 600), overlap.NewAnalyser()
		pcm := click(map[int]int16{300: n})
		b, _ := encode(t, e, 7, pcm, false)
		want, _ := a.Lines(pcm, n > 1000)
		h, d := headOf(b)
		l, err := energy.Get(d)
		wantCeilings, _ := energy.Ceilings(want)
		if h.brief != (n > 1000) || err != api.OK || !slices.Equal(l, wantCeilings) {
			t.Fatal(n, h, l, err)
		}
		steps, _ := mask.Steps(l, 10, h.loss)
		lines, err := quant.Get(d, l, steps, 7)
		x, _ := quant.Heard(want, l, steps, 7)
		if err != api.OK || !slices.Equal(lines, x) {
			t.Error(n, "other lines", err)
		}
	}
}

// P13.1: the first frame is whole, whatever its number; each other one, if that is asked.
func TestWhole(t *testing.T) {
	for _, first := range []bool{false, true} {
		for _, number := range []uint32{0, 1, 5, math.MaxUint32} {
			e := newEncoder(t, 5, 100)
			for i, pcm := range even(9) {
				refresh := i == 0 && first || i == 3 || i == 4 || i == 8
				b, whole := encode(t, e, number*uint32(1-i%2), pcm, refresh)
				h, _ := headOf(b)
				if want := i == 0 || refresh; whole != want || h.whole != want {
					t.Errorf("frame %d: %v, %v, not %v", i, whole, h.whole, want)
				}
			}
		}
	}
}

// P13.1: each quality, each budget of some, any frames, asked or not.
func TestAnyStreams(t *testing.T) {
	r := rand.New(rand.NewSource(1))
	for quality := 1; quality <= 10; quality++ {
		for _, budget := range []int{32, 33, 32 + r.Intn(40), 32 + r.Intn(569), 32 + r.Intn(569), 599, 600} {
			e, c := newEncoder(t, quality, budget), newChapterEncoder(quality, budget)
			for range 8 {
				same(t, e, c, r.Uint32(), anyFrame(r), r.Intn(4) == 0)
			}
		}
	}
}

// P13.1: the least loss whose payload has no more bytes than the budget: just as many are enough, one too many isn't.
func TestTheLeastLoss(t *testing.T) {
	r := rand.New(rand.NewSource(2))
	tried := map[int]bool{}
	for i := range 60 {
		quality, pcm, number := 1+r.Intn(10), anyFrame(r), r.Uint32()
		sizes := map[int]bool{600: true, 32: true}
		all := newChapterEncoder(quality, 32)
		if all.encode(t, number, pcm, i%2 == 0); len(all.sizes) < 2 {
			continue
		}
		for _, size := range all.sizes {
			sizes[size], sizes[size-1], sizes[size+1] = true, true, true
		}
		for size := range sizes {
			if size < 32 || size > 600 {
				continue
			}
			e, c := newEncoder(t, quality, size), newChapterEncoder(quality, size)
			b := same(t, e, c, number, pcm, i%2 == 0)
			h, _ := headOf(b)
			if h.loss != len(c.sizes)-1 || len(b) > size {
				t.Fatalf("budget %d: loss %d, %d bytes, not %v", size, h.loss, len(b), c.sizes)
			}
			tried[h.loss] = true
		}
	}
	if len(tried) < 9 {
		t.Error("few losses:", tried)
	}
}

// P13.1: a greater loss may need more bytes: of this frame 232 with none, 233 with one, 230 with two, at quality 9 (and with none, one, two, three at 10).
func TestAGreaterLossMayNeedMoreBytes(t *testing.T) {
	pcm := make([]int16, 512)
	for i := range pcm {
		pcm[i] = int16(i/246%2*2 - 1)
	}
	for _, c := range []struct {
		quality, budget, size, loss int
		start                       string
	}{
		{9, 600, 232, 0, "a409394008ca4ef77dff"}, {9, 233, 232, 0, "a409394008ca4ef77dff"}, {9, 232, 232, 0, "a409394008ca4ef77dff"}, {9, 231, 230, 2, "a449393e08ca4ef77dff"},
		{10, 600, 232, 0, "a809393f08ca4ef77dff"}, {10, 232, 232, 0, "a809393f08ca4ef77dff"}, {10, 231, 230, 3, "a869393c08ca4ef77dff"},
	} {
		e := newEncoder(t, c.quality, c.budget)
		b, _ := encode(t, e, 0, pcm, false)
		h, _ := headOf(b)
		if len(b) != c.size || h.loss != c.loss || hex.EncodeToString(b[:10]) != c.start {
			t.Errorf("New(%d, %d): %d bytes, loss %d, %x", c.quality, c.budget, len(b), h.loss, b[:10])
		}
		same(t, newEncoder(t, c.quality, c.budget), newChapterEncoder(c.quality, c.budget), 1, pcm, true)
	}
}

// P13.1, P13.3: where all ceilings leap, and nothing fits but them, a payload has 32 bytes at most.
func TestTheLeastBudget(t *testing.T) {
	r := rand.New(rand.NewSource(3))
	for _, quality := range []int{1, 7, 10} {
		e, c := newEncoder(t, quality, 32), newChapterEncoder(quality, 32)
		for i := range 60 {
			pcm := slices.Clone(silence)
			for k := range pcm {
				switch i % 4 {
				case 1:
					pcm[k] = int16(r.Uint32())
				case 3:
					pcm[k] = int16(r.Uint32()) >> r.Intn(16)
				}
			}
			if b := same(t, e, c, uint32(i), pcm, false); len(b) > 32 {
				t.Fatal(len(b), "bytes")
			}
		}
	}
}

// P13.1: a number is a seed, and no more: payloads, and how far lines are, don't hang on it; what is heard does.
func TestNumbersAreSeeds(t *testing.T) {
	one, other := newEncoder(t, 6, 50), newEncoder(t, 6, 50)
	differ := 0
	for i, pcm := range even(16) {
		b, whole := encode(t, one, uint32(i), pcm, i%5 == 0)
		b2, whole2 := encode(t, other, uint32(1000*i+77), pcm, i%5 == 0)
		if !bytes.Equal(b, b2) || whole != whole2 || one.Reach() != other.Reach() {
			t.Error(i, "by its number:", len(b), len(b2), whole, whole2)
		}
		if !slices.Equal(one.Heard(), other.Heard()) {
			differ++
		}
	}
	if differ < 12 {
		t.Error("its number is no seed of what is heard:", differ)
	}
}

// P13.2: whoever reads the payloads, one by one from the beginning on, hears what the encoder tells.
func TestHeardIsWhatIsRead(t *testing.T) {
	r := rand.New(rand.NewSource(4))
	for range 20 {
		quality, budget := 1+r.Intn(10), 32+r.Intn(569)
		e, y := newEncoder(t, quality, budget), overlap.NewSynth()
		var ahead []int
		for i := range 12 {
			number := r.Uint32()
			b, whole := encode(t, e, number, anyFrame(r), r.Intn(3) == 0)
			h, d := headOf(b)
			if h.whole != whole || h.quality != quality {
				t.Fatal(i, h, whole)
			}
			if whole {
				ahead = nil
			}
			l, err := energy.Get(d, ahead...)
			if err != api.OK {
				t.Fatal(i, err)
			}
			steps, _ := mask.Steps(l, h.quality, h.loss)
			lines, err := quant.Get(d, l, steps, number)
			if err != api.OK {
				t.Fatal(i, err)
			}
			want, err := y.Samples(coder.Held(lines), h.brief)
			if err != api.OK || !slices.Equal(e.Heard(), want) {
				t.Fatal(i, err, "others are heard")
			}
			if far, _ := mask.Reach(l, steps); e.Reach() != far {
				t.Fatal(i, e.Reach(), far)
			}
			ahead = l
		}
	}
}

// P13.2: ahead of all nothing is heard; asked once, more often or not at all, it is the same.
func TestHeardAndReachMayBeAskedAtAnyTime(t *testing.T) {
	e, seldom := newEncoder(t, 4, 90), newEncoder(t, 4, 90)
	for range 3 {
		if len(e.Heard()) != 0 || e.Reach() != 0 {
			t.Error("ahead of all:", e.Heard(), e.Reach())
		}
	}
	frames := even(11)
	for i, pcm := range frames {
		encode(t, e, uint32(i), pcm, false)
		encode(t, seldom, uint32(i), pcm, false)
		x, far := e.Heard(), e.Reach()
		if len(x) != 512 || far < 1 || !slices.Equal(e.Heard(), x) || e.Reach() != far {
			t.Error(i, "asked again:", len(x), far, e.Reach())
		}
	}
	if !slices.Equal(seldom.Heard(), e.Heard()) || seldom.Reach() != e.Reach() {
		t.Error("asked seldom, another answer")
	}
}

// P13.1: other than 512 samples; all is then as it was.
func TestWrongSamples(t *testing.T) {
	wrong := func(e *coder.Encoder) {
		t.Helper()
		for _, pcm := range [][]int16{nil, {}, {30000}, make([]int16, 128), slices.Repeat([]int16{-32768}, 511), slices.Repeat([]int16{32767}, 513), make([]int16, 640), slices.Repeat([]int16{9}, 1024), make([]int16, 511, 512), make([]int16, 1<<16)} {
			for _, refresh := range []bool{false, true} {
				if b, whole, err := e.Encode(1, pcm, refresh); len(b) != 0 || whole || err != api.ErrArg {
					t.Errorf("%d samples: %d bytes, %v, %d", len(pcm), len(b), whole, err)
				}
			}
		}
	}
	e, other := newEncoder(t, 7, 150), newEncoder(t, 7, 150)
	wrong(e)
	if len(e.Heard()) != 0 || e.Reach() != 0 {
		t.Error("ahead of all:", len(e.Heard()), e.Reach())
	}
	for i, pcm := range even(10) {
		b, whole := encode(t, e, uint32(i), pcm, i == 6)
		want, wantWhole := encode(t, other, uint32(i), pcm, i == 6)
		if !bytes.Equal(b, want) || whole != wantWhole || whole != (i == 0 || i == 6) {
			t.Fatal(i, "other bytes behind wrong samples")
		}
		wrong(e)
		if !slices.Equal(e.Heard(), other.Heard()) || e.Reach() != other.Reach() {
			t.Fatal(i, "others are heard behind wrong samples")
		}
	}
}

// P13.1: lines, held to 26 bits.
func TestHeld(t *testing.T) {
	lines := []int32{
		0, 1, -1, 4095, -4096, leastLine, leastLine + 1, leastLine - 1, greatestLine, greatestLine - 1, greatestLine + 1,
		1 << 26, -1 << 26, 1<<26 - 1, 1 << 30, -1 << 30, math.MaxInt32, math.MinInt32, math.MaxInt32 - 1, math.MinInt32 + 1, 12345678, -12345678,
	}
	want := []int32{
		0, 1, -1, 4095, -4096, leastLine, leastLine + 1, leastLine, greatestLine, greatestLine - 1, greatestLine,
		greatestLine, leastLine, greatestLine, greatestLine, leastLine, greatestLine, leastLine, greatestLine, leastLine, 12345678, -12345678,
	}
	if got := coder.Held(lines); !slices.Equal(got, want) {
		t.Errorf("%v, not %v", got, want)
	}
	if len(coder.Held(nil)) != 0 || len(coder.Held([]int32{})) != 0 || len(coder.Held(make([]int32, 0, 9))) != 0 {
		t.Error("lines of none")
	}
	r := rand.New(rand.NewSource(5))
	for _, count := range []int{1, 2, 511, 512, 513, 5000} {
		lines, want := make([]int32, count), make([]int32, count)
		for i := range lines {
			lines[i] = int32(r.Uint32()) >> r.Intn(32)
			want[i] = int32(math.Max(leastLine, math.Min(float64(lines[i]), greatestLine)))
		}
		got := coder.Held(lines)
		if !slices.Equal(got, want) || !slices.Equal(coder.Held(got), want) {
			t.Error(count, "lines: others")
		}
		if count == 512 {
			if _, err := overlap.NewSynth().Samples(got, false); err != api.OK {
				t.Error("they may not be lines:", err)
			}
		}
	}
}

// P13.3: no payload has more bytes than the budget, and what is heard is near to the samples, 128 late.
func TestNearness(t *testing.T) {
	r := rand.New(rand.NewSource(6))
	near := 0
	for i := range 80 {
		budget := []int{32, 600, 32 + r.Intn(569), 600}[i%4]
		e := newEncoder(t, 1+r.Intn(10), budget)
		late := make([]int16, 128)
		var far int64
		for f := range 14 {
			pcm := anyFrame(r)
			if i%8 == 7 {
				pcm = even(f + 1)[f]
			}
			b, _ := encode(t, e, r.Uint32(), pcm, r.Intn(5) == 0)
			if len(b) > budget {
				t.Fatalf("%d bytes, budget %d", len(b), budget)
			}
			bound, all := (far+e.Reach())/8+700, slices.Concat(late, pcm)
			for k, n := range e.Heard() {
				apart := int64(n) - int64(all[k])
				if apart = max(apart, -apart); apart > bound {
					t.Fatalf("frame %d, sample %d: %d from it, bound %d", f, k, apart, bound)
				}
			}
			if bound < 5000 {
				near++
			}
			far, late = e.Reach(), all[512:]
		}
	}
	if near < 50 {
		t.Error("few bounds that say something:", near)
	}
}

// P13.3: quiet frames, of which all is told, are as near as layer 9's.
func TestQuietFramesAreNear(t *testing.T) {
	r := rand.New(rand.NewSource(7))
	e := newEncoder(t, 10, 600)
	late := make([]int16, 128)
	for f := range 10 {
		pcm := make([]int16, 512)
		for i := range pcm {
			pcm[i] = int16(40*math.Sin(float64(512*f+i)/20)) + int16(r.Intn(3))
		}
		encode(t, e, uint32(f), pcm, f%3 == 0)
		all := slices.Concat(late, pcm)
		for k, n := range e.Heard() {
			if n-all[k] > 4 || all[k]-n > 4 {
				t.Fatalf("frame %d, sample %d: %d, not %d", f, k, n, all[k])
			}
		}
		late = all[512:]
	}
}

// P13.2: no encoder; one as it is declared doesn't panic.
func TestNoEncoder(t *testing.T) {
	var none *coder.Encoder
	for _, e := range []*coder.Encoder{none, new(coder.Encoder)} {
		for _, pcm := range [][]int16{nil, silence, make([]int16, 511), even(4)[3]} {
			for _, refresh := range []bool{false, true} {
				if b, whole, err := e.Encode(3, pcm, refresh); len(b) != 0 || whole || err != api.ErrArg {
					t.Error(len(b), whole, err)
				}
			}
		}
		if len(e.Heard()) != 0 || e.Reach() != 0 {
			t.Error(e.Heard(), e.Reach())
		}
	}
}

// P1: of any samples, of any count, each call ends, and none panics.
func TestNothingPanics(t *testing.T) {
	r := rand.New(rand.NewSource(8))
	for range 30 {
		e, err := coder.New(r.Intn(13)-1, r.Intn(640))
		if (e == nil) != (err != api.OK) {
			t.Fatal(e, err)
		}
		for range 5 {
			pcm := anyFrame(r)
			if r.Intn(3) == 0 {
				pcm = pcm[:r.Intn(513)]
			}
			e.Encode(r.Uint32(), pcm, r.Intn(2) == 0)
			e.Heard()
			e.Reach()
			lines := make([]int32, r.Intn(600))
			for i := range lines {
				lines[i] = int32(r.Uint32())
			}
			coder.Held(lines)
		}
	}
}

// The document's third rule: what is handed in isn't changed or kept, what lies behind its length is neither read nor written, and nothing is shared.
func TestListsAreApart(t *testing.T) {
	e, other := newEncoder(t, 9, 220), newEncoder(t, 9, 220)
	for i, pcm := range even(10) {
		want, _ := encode(t, other, uint32(i), pcm, i == 5)
		room := append(slices.Clone(pcm), 32767, 32767)[:512]
		b, _ := encode(t, e, uint32(i), room, i == 5)
		if !slices.Equal(room, pcm) || !slices.Equal(room[:514][512:], []int16{32767, 32767}) {
			t.Fatal(i, "samples are changed")
		}
		clear(room)
		if !bytes.Equal(b, want) {
			t.Fatal(i, "other bytes")
		}
		x := e.Heard()
		if !slices.Equal(x, other.Heard()) {
			t.Fatal(i, "others are heard")
		}
		clear(b[:cap(b)])
		clear(x[:cap(x)])
		if !slices.Equal(e.Heard(), other.Heard()) {
			t.Fatal(i, "what is heard is shared")
		}
	}
	lines := append(make([]int32, 0, 9), 1<<30, -1<<30, 5, 99)[:3]
	held := coder.Held(lines)
	if !slices.Equal(lines[:4], []int32{1 << 30, -1 << 30, 5, 99}) {
		t.Error("lines are changed:", lines[:4])
	}
	clear(lines)
	if !slices.Equal(held, []int32{greatestLine, leastLine, 5}) {
		t.Error("lines are shared:", held)
	}
}

// answers are those of all calls, of some frames.
func answers() []int64 {
	r := rand.New(rand.NewSource(9))
	var all []int64
	for range 6 {
		e, err := coder.New(1+r.Intn(11), 32+r.Intn(600))
		all = append(all, int64(err))
		for range 5 {
			b, whole, err := e.Encode(r.Uint32(), anyFrame(r), r.Intn(3) == 0)
			all = append(all, int64(err), int64(check.Of(b...)), int64(len(b)), e.Reach(), int64(sumOf(e.Heard())))
			if whole {
				all = append(all, 1)
			}
		}
	}
	return all
}

// P2: an answer hangs on nothing but what was given: neither on others ahead of it nor on those beside it.
func TestAnswersStayTheSame(t *testing.T) {
	want := answers()
	if !slices.Equal(answers(), want) {
		t.Error("another answer behind the first one")
	}
	var got [8][]int64
	var all sync.WaitGroup
	for i := range got {
		all.Go(func() { got[i] = answers() })
	}
	all.Wait()
	for i := range got {
		if !slices.Equal(got[i], want) {
			t.Error("another answer", i)
		}
	}
}

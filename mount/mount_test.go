package mount_test

import (
	"bytes"
	"math"
	"math/rand"
	"reflect"
	"regexp"
	"runtime"
	"slices"
	"strings"
	"sync"
	"testing"
	"unicode/utf8"

	"sideband/api"
	"sideband/coder"
	"sideband/conceal"
	"sideband/mount"
)

// usual is what a mount may be like.
func usual() mount.Config {
	return mount.Config{Path: "/live", Name: "Radio 1", Password: "hackme", Fallback: "/night", Quality: 5, Budget: 200, Period: 3, Ring: 8, Every: 256}
}

var paths = regexp.MustCompile(`^/[a-zA-Z0-9._-]{1,19}$`)

// isPath reads layer 16's words by other means; $ alone would let a line's end stand behind.
func isPath(s string) bool { return paths.MatchString(s) && !strings.HasSuffix(s, "\n") }

// titleOf reads layer 16's words rune by rune.
func titleOf(s string) string {
	var l []byte
	for len(s) > 0 {
		r, n := utf8.DecodeRuneInString(s)
		switch {
		case r == utf8.RuneError && n == 1, r < 32, r == 127, r == ';':
			r = ' '
		case r == '\'':
			r = '’'
		}
		s = s[n:]
		if len(l)+utf8.RuneLen(r) > 60 {
			return string(l)
		}
		l = utf8.AppendRune(l, r)
	}
	return string(l)
}

// isRight goes through the chapter's sentence.
func isRight(c mount.Config) bool {
	switch {
	case !isPath(c.Path), titleOf(c.Name) != c.Name, c.Fallback != "" && !isPath(c.Fallback):
		return false
	case c.Quality < 1, c.Quality > 10, c.Budget < 32, c.Budget > 600:
		return false
	case c.Period < 1, c.Period > c.Ring, c.Ring > 1024, c.Every < 1, c.Every > 65536:
		return false
	}
	return true
}

// chapterMount has all packets and titles that were ever made, and an encoder of its own.
type chapterMount struct {
	config  mount.Config
	live    bool
	encoder *coder.Encoder
	epoch   uint32
	packets []conceal.Packet
	titles  []string
}

func (c *chapterMount) start(epoch uint32) api.Errno {
	if c.live {
		return api.ErrState
	}
	encoder, _ := coder.New(c.config.Quality, c.config.Budget)
	c.live, c.epoch, c.encoder, c.packets = true, epoch, encoder, nil
	return api.OK
}

func (c *chapterMount) stop() api.Errno {
	if !c.live {
		return api.ErrState
	}
	c.live = false
	return api.OK
}

func (c *chapterMount) frame(pcm []int16) (conceal.Packet, api.Errno) {
	if len(pcm) != 512 {
		return conceal.Packet{}, api.ErrArg
	}
	if !c.live {
		return conceal.Packet{}, api.ErrState
	}
	number := len(c.packets)
	payload, whole, _ := c.encoder.Encode(uint32(number), pcm, number%c.config.Period == 0)
	c.packets = append(c.packets, conceal.Packet{Epoch: c.epoch, Number: uint32(number), Whole: whole, Payload: payload})
	return c.packets[number], api.OK
}

func (c *chapterMount) title(s string) api.Errno {
	if s = titleOf(s); s != c.now() {
		c.titles = append(c.titles, s)
	}
	return api.OK
}

func (c *chapterMount) now() string {
	if len(c.titles) == 0 {
		return ""
	}
	return c.titles[len(c.titles)-1]
}

func (c *chapterMount) history() []string {
	if len(c.titles) > 5 {
		return c.titles[len(c.titles)-5:]
	}
	return c.titles
}

// burst goes back from the last packet to a whole one, among those for which there's room.
func (c *chapterMount) burst() []conceal.Packet {
	if !c.live {
		return nil
	}
	for n := 1; n <= len(c.packets) && n <= c.config.Ring; n++ {
		if last := c.packets[len(c.packets)-n:]; last[0].Whole {
			return last
		}
	}
	return nil
}

// both are a mount, and the chapter's words.
type both struct {
	t    *testing.T
	m    *mount.Mount
	want *chapterMount
}

func newBoth(t *testing.T, c mount.Config) both {
	t.Helper()
	m, err := mount.New(c)
	if m == nil || err != api.OK {
		t.Fatalf("%+v: %t, %d", c, m == nil, err)
	}
	return both{t: t, m: m, want: &chapterMount{config: c}}
}

func (b both) start(epoch uint32) {
	b.t.Helper()
	if got, want := b.m.Start(epoch), b.want.start(epoch); got != want {
		b.t.Fatal(epoch, got, want)
	}
}

func (b both) stop() {
	b.t.Helper()
	if got, want := b.m.Stop(), b.want.stop(); got != want {
		b.t.Fatal(got, want)
	}
}

func (b both) frame(pcm []int16) {
	b.t.Helper()
	got, err := b.m.Frame(pcm)
	want, wantErr := b.want.frame(pcm)
	if err != wantErr || !isSame(got, want) {
		b.t.Fatalf("%d samples: %v, %d, not %v, %d", len(pcm), got, err, want, wantErr)
	}
}

func (b both) title(s string) {
	b.t.Helper()
	if got, want := b.m.Title(s), b.want.title(s); got != want {
		b.t.Fatal(s, got, want)
	}
}

// hold holds all that a mount tells against the chapter's words.
func (b both) hold() {
	b.t.Helper()
	if got := b.m.Live(); got != b.want.live {
		b.t.Fatal("live:", got)
	}
	if got, want := b.m.Now(), b.want.now(); got != want {
		b.t.Fatalf("now: %q, not %q", got, want)
	}
	if got, want := b.m.History(), b.want.history(); !slices.Equal(got, want) {
		b.t.Fatalf("history: %q, not %q", got, want)
	}
	burst := b.m.Burst()
	if !slices.EqualFunc(burst, b.want.burst(), isSame) {
		b.t.Fatalf("%+v, %d frames: another burst, of %d", b.want.config, len(b.want.packets), len(burst))
	}
	b.follows(burst)
	// The ring that it embeds has room for Ring packets.
	from, next := b.m.Ends()
	if n := len(b.want.packets); b.want.live && (next != n || from != max(0, n-b.want.config.Ring)) {
		b.t.Fatalf("room %d, %d frames: kept are those from %d to %d", b.want.config.Ring, n, from, next)
	}
}

// follows is P23.4: a burst begins with a whole packet, and has at most Period; and it ends with the last one.
func (b both) follows(burst []conceal.Packet) {
	b.t.Helper()
	if (len(burst) == 0) != (!b.want.live || len(b.want.packets) == 0) || len(burst) > b.want.config.Period {
		b.t.Fatalf("period %d, %d frames: %d in a burst", b.want.config.Period, len(b.want.packets), len(burst))
	}
	for i, p := range burst {
		if p.Whole != (i == 0) || p.Epoch != b.want.epoch || int(p.Number) != len(b.want.packets)-len(burst)+i {
			b.t.Fatalf("period %d, %d frames: packet %d of a burst of %d: epoch %d, number %d, whole: %t", b.want.config.Period, len(b.want.packets), i, len(burst), p.Epoch, p.Number, p.Whole)
		}
	}
}

func isSame(a, b conceal.Packet) bool {
	return a.Epoch == b.Epoch && a.Number == b.Number && a.Whole == b.Whole && bytes.Equal(a.Payload, b.Payload)
}

func isNothing(p conceal.Packet) bool {
	return p.Epoch == 0 && p.Number == 0 && !p.Whole && len(p.Payload) == 0
}

// anySound is a frame, loud or not.
func anySound(random *rand.Rand) []int16 {
	pcm := make([]int16, 512)
	loud := 1 << random.Intn(16)
	from := random.Intn(512)
	for i := range pcm[from:] {
		pcm[from+i] = int16(random.Intn(2*loud) - loud)
	}
	return pcm
}

// checkRight holds whether a mount may be like that against the chapter's words, and what New makes of it.
func checkRight(t *testing.T, c mount.Config) {
	t.Helper()
	want := isRight(c)
	if got := c.Right(); got != want {
		t.Fatalf("%+v: %t", c, got)
	}
	m, err := mount.New(c)
	if !want {
		if m != nil || err != api.ErrArg {
			t.Fatalf("%+v: %t, %d", c, m == nil, err)
		}
		return
	}
	if m == nil || err != api.OK || m.Config != c || m.Ring == nil || m.Live() {
		t.Fatalf("%+v: %t, %d", c, m == nil, err)
	}
}

// P23.1: paths, and what stands in.
func TestRightPaths(t *testing.T) {
	l := []string{"", "/", "//", "/a", "a", "aa", "/.", "/-", "/_", "/..", "/live.mp3", "/LIVE_9-z.Z", "/a/b", "/a b", "/a ", " /a", "/a\n", "/é", "/a?", "/a*", "/a+", "/a,", "/a:", "/a@", "/a[", "/a`", "/a{", "/\x00", "/\xff", "/ａ", strings.Repeat("/", 5)}
	for n := range 24 {
		l = append(l, "/"+strings.Repeat("a", n), strings.Repeat("a", n))
	}
	for b := range 256 {
		l = append(l, "/a"+string([]byte{byte(b)}), string([]byte{byte(b)})+"a")
	}
	for _, s := range l {
		c := usual()
		c.Path = s
		checkRight(t, c)
		c = usual()
		c.Fallback = s
		checkRight(t, c)
	}
	c := usual()
	c.Fallback = c.Path
	checkRight(t, c)
	if !c.Right() {
		t.Error("its own path is one, too")
	}
}

// P23.1: names are titles.
func TestRightNames(t *testing.T) {
	l := []string{"", " ", "a", "It's", "It’s", "a;b", "\x1f", "\x7f", "\t", "a\n", "é", "\xc3", "\xff", "a\xe2\x80", "\ufffd", "\U0010ffff", "\u0080", "Radio 1", strings.Repeat("’", 20), strings.Repeat("’", 21), strings.Repeat("a", 58) + "é", strings.Repeat("a", 59) + "é"}
	for n := 57; n < 64; n++ {
		l = append(l, strings.Repeat("a", n), strings.Repeat("a", n-1)+"'")
	}
	for b := range 256 {
		l = append(l, string([]byte{byte(b)}), "a"+string([]byte{byte(b)})+"b", string(rune(b)))
	}
	for _, s := range l {
		c := usual()
		c.Name = s
		checkRight(t, c)
	}
}

// P23.1: a password may be any.
func TestAnyPassword(t *testing.T) {
	for _, s := range []string{"", "a", ":", "\x00\xff;'\n", strings.Repeat("long", 1000)} {
		c := usual()
		c.Password = s
		checkRight(t, c)
		if !c.Right() {
			t.Errorf("%q", s)
		}
	}
}

// numbers are such at which something begins, or ends.
func numbers() []int {
	l := []int{math.MinInt, math.MinInt + 1, math.MinInt32, -65536, -1024, -32, -1, 0, 1 << 31, 1 << 32, 1<<32 + 1, 1<<32 + 32, math.MaxInt - 1, math.MaxInt}
	for _, n := range []int{1, 5, 10, 32, 100, 600, 1024, 65536} {
		l = append(l, n-1, n, n+1)
	}
	return l
}

// P23.1: each number alone, and each period with each ring.
func TestRightNumbers(t *testing.T) {
	for _, n := range numbers() {
		for _, set := range []func(*mount.Config){
			func(c *mount.Config) { c.Quality = n },
			func(c *mount.Config) { c.Budget = n },
			func(c *mount.Config) { c.Period = n },
			func(c *mount.Config) { c.Ring = n },
			func(c *mount.Config) { c.Every = n },
		} {
			c := usual()
			set(&c)
			checkRight(t, c)
		}
		for _, room := range numbers() {
			c := usual()
			c.Period, c.Ring = n, room
			checkRight(t, c)
		}
	}
	for n := -2; n < 620; n++ {
		c := usual()
		c.Budget = n
		checkRight(t, c)
		c = usual()
		c.Quality = n
		checkRight(t, c)
	}
	checkRight(t, mount.Config{})
}

// P23.1: any of all of these together.
func TestAnyConfig(t *testing.T) {
	random := rand.New(rand.NewSource(1))
	texts := []string{"", "/", "/a", "/live.mp3", "/a b", "It's", "It’s", strings.Repeat("x", 61), "/" + strings.Repeat("x", 19), "/" + strings.Repeat("x", 20)}
	pick := func(l []int) int { return l[random.Intn(len(l))] }
	right := 0
	for range 50000 {
		c := mount.Config{
			Path: texts[2+random.Intn(2)], Name: texts[random.Intn(4)], Password: texts[random.Intn(len(texts))], Fallback: texts[8*random.Intn(2)],
			Quality: 1 + random.Intn(10), Budget: 32 + random.Intn(569), Ring: 1 + random.Intn(1024), Every: 1 + random.Intn(65536),
		}
		c.Period = 1 + random.Intn(c.Ring)
		switch random.Intn(9) {
		case 0:
			c.Path = texts[random.Intn(len(texts))]
		case 1:
			c.Name = texts[random.Intn(len(texts))]
		case 2:
			c.Fallback = texts[random.Intn(len(texts))]
		case 3:
			c.Quality = pick(numbers())
		case 4:
			c.Budget = pick(numbers())
		case 5:
			c.Period = pick(numbers())
		case 6:
			c.Ring = pick(numbers())
		case 7:
			c.Every = pick(numbers())
		}
		checkRight(t, c)
		if isRight(c) {
			right++
		}
	}
	if right < 10000 || right > 40000 {
		t.Error(right, "of them are right")
	}
}

// The chapter's example, and the document's tenth.
func TestBurstOfFive(t *testing.T) {
	b := newBoth(t, usual())
	b.start(1)
	for range 5 {
		b.frame(make([]int16, 512))
		b.hold()
	}
	burst := b.m.Burst()
	if len(burst) != 2 || burst[0].Number != 3 || !burst[0].Whole || burst[1].Number != 4 || burst[1].Whole {
		t.Error(burst)
	}
}

// P23.1: a mount is live from Start to Stop, over and over; each epoch begins anew.
func TestEpochs(t *testing.T) {
	random := rand.New(rand.NewSource(2))
	b := newBoth(t, usual())
	pcm := anySound(random)
	for n, epoch := range []uint32{1, 0, 5, 5, math.MaxUint32, 2, 1 << 31} {
		b.hold()
		b.stop()
		b.frame(pcm)
		b.hold()
		b.start(epoch)
		b.hold()
		if from, next := b.m.Ends(); from != 0 || next != 0 {
			t.Error(epoch, from, next)
		}
		b.start(epoch + 1)
		for range n {
			b.frame(pcm)
			b.start(epoch + 1)
			b.hold()
		}
		b.frame(pcm)
		b.stop()
		b.hold()
		b.frame(pcm)
		b.stop()
	}
}

// P23.1: what Start answers, in numbers.
func TestStartAndStop(t *testing.T) {
	m, err := mount.New(usual())
	if err != api.OK {
		t.Fatal(err)
	}
	if m.Stop() != api.ErrState || m.Live() {
		t.Error("a new mount is live")
	}
	for range 3 {
		if m.Start(9) != api.OK || !m.Live() || m.Start(9) != api.ErrState || m.Start(8) != api.ErrState || !m.Live() {
			t.Error("Start")
		}
		p, err := m.Frame(make([]int16, 512))
		if err != api.OK || p.Epoch != 9 || p.Number != 0 || !p.Whole || len(p.Payload) == 0 {
			t.Error(p, err)
		}
		if m.Stop() != api.OK || m.Live() || m.Stop() != api.ErrState || m.Live() {
			t.Error("Stop")
		}
	}
}

// P23.1, P23.3: where others push to its ring: no burst has it while the mount isn't live, nor is it in the next epoch's; and none begins with a packet that isn't whole.
func TestOthersPush(t *testing.T) {
	m, _ := mount.New(usual())
	m.Push(conceal.Packet{Epoch: 7, Whole: true})
	if m.Live() || len(m.Burst()) != 0 {
		t.Error(m.Burst())
	}
	m.Start(1)
	m.Push(conceal.Packet{Epoch: 7})
	if len(m.Burst()) != 0 {
		t.Error(m.Burst())
	}
	m.Stop()
	m.Push(conceal.Packet{Epoch: 7, Whole: true})
	if len(m.Burst()) != 0 {
		t.Error(m.Burst())
	}
	m.Start(1)
	if from, next := m.Ends(); from != 0 || next != 0 || len(m.Burst()) != 0 {
		t.Error(from, next)
	}
	m.Frame(make([]int16, 512))
	if burst := m.Burst(); len(burst) != 1 || burst[0].Epoch != 1 {
		t.Error(burst)
	}
}

// P23.1, P23.2: its encoder is of its quality and budget.
func TestQualityAndBudget(t *testing.T) {
	random := rand.New(rand.NewSource(3))
	for quality := 1; quality <= 10; quality++ {
		for _, budget := range []int{32, 33, 80, 599, 600} {
			c := usual()
			c.Quality, c.Budget = quality, budget
			b := newBoth(t, c)
			b.start(4)
			for range 5 {
				pcm := anySound(random)
				b.frame(pcm)
				b.hold()
			}
			for _, p := range b.m.Burst() {
				if len(p.Payload) > budget {
					t.Error(quality, budget, len(p.Payload))
				}
			}
		}
	}
}

// P23.2, P23.3, P23.4: each small period with each small ring.
func TestSmallPeriods(t *testing.T) {
	random := rand.New(rand.NewSource(4))
	sounds := [][]int16{anySound(random), anySound(random), make([]int16, 512)}
	for room := 1; room <= 5; room++ {
		for period := 1; period <= room; period++ {
			c := usual()
			c.Period, c.Ring, c.Quality, c.Budget = period, room, 1, 32
			b := newBoth(t, c)
			for epoch := range uint32(2) {
				b.start(epoch)
				for i := range 2*room + 2 {
					b.frame(sounds[i%3])
					b.hold()
				}
				b.stop()
				b.hold()
			}
		}
	}
}

// P23.2, P23.3, P23.4: the longest ring, and the longest period: a burst of all that there's room for, and then one packet.
func TestLongestRing(t *testing.T) {
	c := usual()
	c.Period, c.Ring = 1024, 1024
	b := newBoth(t, c)
	b.m.Start(0)
	b.want.live = true
	for i := range 1027 {
		p, err := b.m.Frame(make([]int16, 512))
		b.want.packets = append(b.want.packets, p)
		if err != api.OK || int(p.Number) != i || p.Whole != (i%1024 == 0) {
			t.Fatal(i, p, err)
		}
		if i < 3 || i > 1020 {
			b.hold()
		}
	}
}

// P23.2: a frame has 512 samples, and no other count; which is told ahead of whether it is live. What is wrong changes nothing.
func TestWrongFrames(t *testing.T) {
	random := rand.New(rand.NewSource(5))
	b := newBoth(t, usual())
	wrong := func() {
		t.Helper()
		b.frame(nil)
		for _, n := range []int{0, 1, 128, 256, 511, 513, 1023, 1024, 1536, 65536 + 512} {
			b.frame(make([]int16, n))
			if _, err := b.m.Frame(make([]int16, n)); err != api.ErrArg {
				t.Fatal(n, err)
			}
		}
		b.hold()
	}
	wrong()
	b.frame(make([]int16, 512))
	if _, err := b.m.Frame(make([]int16, 512)); err != api.ErrState {
		t.Error(err)
	}
	b.start(3)
	wrong()
	for range 7 {
		b.frame(anySound(random))
		wrong()
	}
	b.stop()
	wrong()
}

// P23.2: what lies behind a frame's length isn't read.
func TestFrameOfALongerList(t *testing.T) {
	random := rand.New(rand.NewSource(6))
	b := newBoth(t, usual())
	b.start(1)
	for range 4 {
		all := append(anySound(random), anySound(random)...)
		before := slices.Clone(all)
		got, err := b.m.Frame(all[:512])
		want, _ := b.want.frame(slices.Clone(all[:512]))
		if err != api.OK || !isSame(got, want) || !slices.Equal(all, before) {
			t.Fatal(err, got.Number)
		}
	}
}

// P23.2, P23.4: who joins hears, from the second frame of a burst on, what all others hear.
func TestWhoJoinsHears(t *testing.T) {
	random := rand.New(rand.NewSource(7))
	c := usual()
	c.Period = 5
	m, _ := mount.New(c)
	m.Start(6)
	all := conceal.New()
	var last []int16
	for range 23 {
		p, err := m.Frame(anySound(random))
		if err != api.OK {
			t.Fatal(err)
		}
		sound, err := all.Hear(p)
		if err != api.OK || len(sound) != 1 {
			t.Fatal(p.Number, err, len(sound))
		}
		last = sound[0]
		ear, burst := conceal.New(), m.Burst()
		for i, told := range burst {
			sound, err := ear.Hear(told)
			if err != api.OK || len(sound) != 1 {
				t.Fatal(p.Number, i, err, len(sound))
			}
			if i > 0 && i == len(burst)-1 && !slices.Equal(sound[0], last) {
				t.Fatal(p.Number, "another sound")
			}
		}
	}
}

// P23.3: titles, live or not.
func TestTitles(t *testing.T) {
	b := newBoth(t, usual())
	told := func(l ...string) {
		t.Helper()
		for _, s := range l {
			b.title(s)
			b.title(s)
			b.hold()
		}
	}
	b.hold()
	told("", "a", "It's", "It’s", "a;b", "a b", "\xff", " ", "", "é\xc3", "a", "b", "a", "b")
	b.start(1)
	b.hold()
	told("c", "d", strings.Repeat("x", 100), strings.Repeat("x", 60), strings.Repeat("x", 59)+"’", strings.Repeat("x", 59))
	b.frame(make([]int16, 512))
	b.hold()
	b.stop()
	b.hold()
	told("c", "", "c")
	b.start(2)
	told("d")
}

// P23.3: the last five, the oldest first.
func TestHistory(t *testing.T) {
	m, _ := mount.New(usual())
	if m.Now() != "" || len(m.History()) != 0 || mount.Titles != 5 {
		t.Error(m.Now(), m.History())
	}
	for i, want := range []string{"a", "ab", "abc", "abcd", "abcde", "bcdef", "cdefg", "defgh"} {
		s := string(rune('a' + i))
		if err := m.Title(s); err != api.OK || m.Now() != s {
			t.Error(s, err, m.Now())
		}
		if got := strings.Join(m.History(), ""); got != want {
			t.Errorf("%q, not %q", got, want)
		}
		m.Title(s)
		if got := strings.Join(m.History(), ""); got != want {
			t.Errorf("%q, not %q", got, want)
		}
	}
	m.Title("it's")
	m.Title("it’s")
	if l := m.History(); !slices.Equal(l, []string{"e", "f", "g", "h", "it’s"}) {
		t.Error(l)
	}
}

// P23.1 to P23.4: anything that may be done, in any order.
func TestAnyCalls(t *testing.T) {
	random := rand.New(rand.NewSource(8))
	for range 40 {
		c := usual()
		c.Quality, c.Budget = 1+random.Intn(10), 32+random.Intn(569)
		c.Ring = 1 + random.Intn(12)
		c.Period = 1 + random.Intn(c.Ring)
		b := newBoth(t, c)
		for range 50 {
			switch n := random.Intn(20); n {
			case 0:
				b.stop()
			case 1:
				b.start(random.Uint32())
			case 2, 3:
				text := make([]byte, random.Intn(4))
				random.Read(text)
				b.title(string(text))
			case 4:
				b.title([]string{"a", "b", "'"}[random.Intn(3)])
			case 5:
				b.frame(make([]int16, random.Intn(1030)))
			default:
				b.frame(anySound(random))
			}
			b.hold()
		}
	}
}

// P23.3: of a nil mount: ErrArg, false, nothing.
func TestNil(t *testing.T) {
	var m *mount.Mount
	for range 2 {
		if m.Start(1) != api.ErrArg || m.Stop() != api.ErrArg || m.Title("a") != api.ErrArg || m.Live() {
			t.Error("a nil mount is live")
		}
		for _, n := range []int{0, 511, 512, 513} {
			if p, err := m.Frame(make([]int16, n)); !isNothing(p) || err != api.ErrArg {
				t.Error(n, p, err)
			}
		}
		if m.Now() != "" || len(m.History()) != 0 || len(m.Burst()) != 0 {
			t.Error(m.Now(), m.History(), m.Burst())
		}
	}
}

// P1: a mount of no one's making never panics, and none such begins; of a Config that may be it does.
func TestZero(t *testing.T) {
	var m mount.Mount
	for range 2 {
		if m.Start(1) != api.ErrArg || m.Live() || m.Stop() != api.ErrState || len(m.Burst()) != 0 {
			t.Error("it is live")
		}
		if p, err := m.Frame(make([]int16, 512)); !isNothing(p) || err != api.ErrState {
			t.Error(p, err)
		}
		if m.Title("a") != api.OK || m.Now() != "a" || len(m.History()) != 1 {
			t.Error(m.Now(), m.History())
		}
	}
	b := both{t: t, m: &mount.Mount{Config: usual()}, want: &chapterMount{config: usual()}}
	b.hold()
	b.start(1)
	for range 5 {
		b.frame(make([]int16, 512))
		b.hold()
	}
}

// P1: not even where others make a live mount's parts such as they may not be.
func TestWrongParts(t *testing.T) {
	for _, n := range numbers() {
		m, _ := mount.New(usual())
		m.Start(1)
		m.Frame(make([]int16, 512))
		m.Period, m.Config.Ring, m.Quality, m.Budget = n, n, n, n
		for range 3 {
			for range 3 {
				m.Frame(make([]int16, 512))
				m.Burst()
			}
			m.Ring = nil
			m.Frame(make([]int16, 512))
			m.Burst()
			m.Stop()
			m.Burst()
			m.Start(2)
		}
	}
}

// What isn't needed any more takes no room: packets that are dropped, an epoch that ended, the rest of a long title.
func TestKeepsLittle(t *testing.T) {
	random := rand.New(rand.NewSource(9))
	c := usual()
	c.Quality, c.Budget, c.Ring = 10, 600, 1024
	var ahead, after runtime.MemStats
	runtime.GC()
	runtime.ReadMemStats(&ahead)
	var all []*mount.Mount
	for range 4 {
		m, _ := mount.New(c)
		m.Start(1)
		for range 6 {
			m.Title(strings.Repeat("x", 1<<20) + "y")
			m.Title("z" + strings.Repeat("x", 1<<20))
		}
		for range 100 {
			m.Frame(anySound(random))
		}
		m.Stop()
		all = append(all, m)
	}
	runtime.GC()
	runtime.ReadMemStats(&after)
	if kept := int64(after.HeapAlloc) - int64(ahead.HeapAlloc); kept > 1<<17 {
		t.Errorf("%d bytes are kept", kept)
	}
	runtime.KeepAlive(all)
}

// What is handed in isn't kept, and what is answered is one's own.
func TestAnswersAreApart(t *testing.T) {
	random := rand.New(rand.NewSource(10))
	b := newBoth(t, usual())
	b.start(1)
	for range 8 {
		pcm := anySound(random)
		p, _ := b.m.Frame(pcm)
		b.want.frame(pcm)
		clear(pcm)
		clear(p.Payload[:cap(p.Payload)])
		b.hold()
		burst, again := b.m.Burst(), b.m.Burst()
		for i := range burst {
			clear(burst[i].Payload[:cap(burst[i].Payload)])
			burst[i].Number = 99
		}
		if !slices.EqualFunc(again, b.want.burst(), isSame) {
			t.Fatal("two bursts share something")
		}
		clear(burst)
		b.hold()
	}
	for _, s := range []string{"a", "b", "c", "d", "e", "f", "g"} {
		b.title(s)
		l, before := b.m.History(), b.m.History()
		for i := range l {
			l[i] = "x"
		}
		_ = append(l, "y")
		b.title(s)
		b.hold()
		b.title(s + "'")
		b.hold()
		if len(before) > 0 && before[len(before)-1] != s {
			t.Error("what was told changes")
		}
	}
	copied := *b.m
	b.title("behind it")
	copied.Title("of the copy")
	if b.m.Now() != "behind it" || copied.Now() != "of the copy" {
		t.Error(b.m.Now(), copied.Now())
	}
	b.hold()
}

// P2: a mount hangs on what it was told alone: others beside it don't matter.
func TestMountsAreApart(t *testing.T) {
	random := rand.New(rand.NewSource(11))
	one, other := newBoth(t, usual()), newBoth(t, usual())
	for i := range 30 {
		if i%7 == 0 {
			one.start(uint32(i))
		}
		if i%11 == 3 {
			other.start(uint32(100 + i))
		}
		one.frame(anySound(random))
		other.frame(anySound(random))
		one.title(string(rune('a' + i%5)))
		other.title(string(rune('a' + i%3)))
		one.hold()
		other.hold()
		if i%7 == 6 {
			one.stop()
		}
		if i%11 == 9 {
			other.stop()
		}
	}
}

// answers are those of the calls for some epochs.
func answers() []any {
	random := rand.New(rand.NewSource(12))
	var l []any
	for range 8 {
		c := usual()
		c.Quality, c.Budget, c.Period = 1+random.Intn(11), 20+random.Intn(600), 1+random.Intn(9)
		m, err := mount.New(c)
		l = append(l, c.Right(), err)
		for i := range 12 {
			if random.Intn(4) == 0 {
				l = append(l, m.Start(random.Uint32()))
			}
			p, err := m.Frame(anySound(random))
			l = append(l, p, err, m.Title(string(rune('a'+i%4))), m.Live(), m.Now(), m.History(), m.Burst())
			if random.Intn(7) == 0 {
				l = append(l, m.Stop())
			}
		}
	}
	return l
}

// P2: the same calls answer the same, also where others call beside them.
func TestAnswersStayTheSame(t *testing.T) {
	want := answers()
	var all sync.WaitGroup
	for range 8 {
		all.Go(func() {
			if !reflect.DeepEqual(answers(), want) {
				t.Error("other answers")
			}
		})
	}
	all.Wait()
}

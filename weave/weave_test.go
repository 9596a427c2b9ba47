package weave_test

import (
	"bytes"
	"fmt"
	"math"
	"math/rand"
	"reflect"
	"regexp"
	"runtime"
	"slices"
	"strings"
	"sync"
	"testing"

	"sideband/api"
	"sideband/weave"
	"sideband/word"
)

// chapterBlock goes through the chapter's words.
func chapterBlock(title string) string {
	s := "StreamTitle='" + word.Title(title) + "';"
	for len(s)%16 != 0 {
		s += "\x00"
	}
	return string([]byte{byte(len(s) / 16)}) + s
}

// event is a title that a weaver is told, or bytes of sound.
type event struct {
	title bool
	text  string
}

func title(s string) event { return event{true, s} }
func sound(s string) event { return event{false, s} }

// chapterWoven is what comes of events, one by one: titles are held against those of all blocks ahead.
func chapterWoven(every int, l []event) []string {
	var woven []string
	titles := []string{""} // since the last block, that one's first
	all := 0
	for _, e := range l {
		if e.title {
			titles = append(titles, word.Title(e.text))
			woven = append(woven, "")
			continue
		}
		s := ""
		for i := range len(e.text) {
			s += e.text[i : i+1]
			all++
			if every == 0 || all%every != 0 {
				continue
			}
			titles = slices.Compact(titles)
			if len(titles) > 1 {
				titles = titles[len(titles)-1:]
				s += chapterBlock(titles[0])
			} else {
				s += "\x00"
			}
		}
		woven = append(woven, s)
	}
	return woven
}

// isWoven holds what a weaver makes of events against the chapter's words; all that it wove.
func isWoven(t *testing.T, every int, l []event) string {
	t.Helper()
	w, err := weave.New(every)
	if w == nil || err != api.OK {
		t.Fatal(every, err)
	}
	want := chapterWoven(every, l)
	for i, e := range l {
		if e.title {
			w.Title(e.text)
			continue
		}
		b := []byte(e.text + "behind")
		got := w.Weave(b[:len(e.text)]...)
		if string(got) != want[i] {
			t.Fatalf("%d, %v: %d gives %q, not %q", every, l, i, got, want[i])
		}
		if string(b) != e.text+"behind" {
			t.Fatalf("%q is %q", e.text, b)
		}
	}
	return strings.Join(want, "")
}

// kind is what a byte of a stream brings.
type kind int

const (
	isSound kind = iota
	isNothing
	isTitle
	isWrong
)

var titlesText = regexp.MustCompile(`^StreamTitle='([^';]*)';\x00*$`)

// chapterTitle is the title whose block it is, as the chapter's words have it.
func chapterTitle(block string) (string, bool) {
	found := titlesText.FindStringSubmatch(block[1:])
	if found == nil || word.Title(found[1]) != found[1] || len(block)-1 != (13+len(found[1])+2+15)/16*16 {
		return "", false
	}
	return found[1], true
}

// chapterKinds is what each byte of a stream brings, and the titles, each at the byte that brings it.
func chapterKinds(every int, s string) ([]kind, map[int]string) {
	kinds := make([]kind, len(s))
	titles := map[int]string{}
	if every == 0 {
		return kinds, titles
	}
	for at := every; at < len(s); {
		end := at + 1 + 16*int(s[at])
		for i := at; i < min(end, len(s)); i++ {
			kinds[i] = isNothing
		}
		if end > len(s) {
			break
		}
		if text, ok := chapterTitle(s[at:end]); ok {
			kinds[end-1], titles[end-1] = isTitle, text
		} else if s[at] != 0 {
			kinds[end-1] = isWrong
		}
		at = end + every
	}
	return kinds, titles
}

// chapterParted is what each piece of a stream brings, and its error.
func chapterParted(every int, pieces []string) ([][]weave.Piece, []api.Errno) {
	kinds, titles := chapterKinds(every, strings.Join(pieces, ""))
	var all [][]weave.Piece
	var errs []api.Errno
	at := 0
	for _, piece := range pieces {
		var l []weave.Piece
		err := api.OK
		beside := "" // sound that no title parted yet
		for i := range len(piece) {
			switch kinds[at+i] {
			case isSound:
				beside += piece[i : i+1]
			case isTitle:
				if beside != "" {
					l = append(l, weave.Sound(beside))
				}
				l, beside = append(l, weave.Told(titles[at+i])), ""
			case isWrong:
				err = api.ErrForm
			}
		}
		if beside != "" {
			l = append(l, weave.Sound(beside))
		}
		at += len(piece)
		all, errs = append(all, l), append(errs, err)
	}
	return all, errs
}

// isParted holds what a parter makes of pieces against the chapter's words; all that they bring.
func isParted(t *testing.T, every int, pieces ...string) []weave.Piece {
	t.Helper()
	p, err := weave.NewParter(every)
	if p == nil || err != api.OK {
		t.Fatal(every, err)
	}
	want, errs := chapterParted(every, pieces)
	var all []weave.Piece
	for i, piece := range pieces {
		b := []byte(piece + "behind")
		l, err := p.Part(b[:len(piece)]...)
		if string(b) != piece+"behind" {
			t.Fatalf("%q is %q", piece, b)
		}
		clear(b)
		if !slices.EqualFunc(l, want[i], areSame) || err != errs[i] {
			t.Fatalf("%d, %q: %d gives %q, %d, not %q, %d", every, pieces, i, l, err, want[i], errs[i])
		}
		all = append(all, l...)
	}
	return all
}

func areSame(a, b weave.Piece) bool { return reflect.DeepEqual(a, b) }

// inPieces parts a text in pieces of so many bytes.
func inPieces(s string, long int) []string {
	var l []string
	for ; len(s) > long; s = s[long:] {
		l = append(l, s[:long])
	}
	return append(l, s)
}

// anyPieces parts a text anywhere.
func anyPieces(r *rand.Rand, s string) []string {
	l := []string{""}
	for s != "" {
		long := min(len(s), r.Intn(1+1<<r.Intn(9)))
		l = append(l, s[:long])
		s = s[long:]
	}
	return l
}

// texts are titles, and texts that become some: none, short and long ones, of runes of each length, and bytes that are none.
func texts() []string {
	l := []string{"", "a", "Song", "It's", "a;b", "';", "StreamTitle='x';", "\x00", "a\x00b", "\x7f\x1f", "\xff\xfe", "a\x80", "\xe2\x82", "ü", "€", "🎵", "\ufffd", "’", "\u0080",
		strings.Repeat("'", 25), strings.Repeat(";", 70), strings.Repeat("\xff", 70), strings.Repeat("x", 1000)}
	for _, one := range []string{"x", "ü", "€", "🎵"} {
		for n := range 63 {
			l = append(l, strings.Repeat(one, n))
		}
	}
	return l
}

// P20.1: blocks, byte by byte, and the chapter's example.
func TestBlocks(t *testing.T) {
	noughts := func(n int) string { return strings.Repeat("\x00", n) }
	for _, c := range []struct{ title, want string }{
		{"a", "\x01StreamTitle='a';"},
		{"", "\x01StreamTitle='';" + noughts(1)},
		{"ab", "\x02StreamTitle='ab';" + noughts(15)},
		{"Song", "\x02StreamTitle='Song';" + noughts(13)},
		{"It's; live", "\x02StreamTitle='It’s  live';" + noughts(5)},
		{"\xff\x00\n", "\x02StreamTitle='   ';" + noughts(14)},
		{strings.Repeat("x", 17), "\x02StreamTitle='" + strings.Repeat("x", 17) + "';"},
		{strings.Repeat("x", 18), "\x03StreamTitle='" + strings.Repeat("x", 18) + "';" + noughts(15)},
		{strings.Repeat("€", 11), "\x03StreamTitle='" + strings.Repeat("€", 11) + "';"},
		{strings.Repeat("x", 34), "\x04StreamTitle='" + strings.Repeat("x", 34) + "';" + noughts(15)},
		{strings.Repeat("x", 49), "\x04StreamTitle='" + strings.Repeat("x", 49) + "';"},
		{strings.Repeat("x", 50), "\x05StreamTitle='" + strings.Repeat("x", 50) + "';" + noughts(15)},
		{strings.Repeat("x", 60), "\x05StreamTitle='" + strings.Repeat("x", 60) + "';" + noughts(5)},
		{strings.Repeat("x", 61), "\x05StreamTitle='" + strings.Repeat("x", 60) + "';" + noughts(5)},
		{strings.Repeat("🎵", 20), "\x05StreamTitle='" + strings.Repeat("🎵", 15) + "';" + noughts(5)},
	} {
		if b := weave.Block(c.title); string(b) != c.want {
			t.Errorf("%q: %q, not %q", c.title, b, c.want)
		}
		if c.want != chapterBlock(c.title) {
			t.Errorf("%q: %q", c.title, c.want)
		}
	}
	most := 0
	for _, s := range texts() {
		b := weave.Block(s)
		if string(b) != chapterBlock(s) || len(b) != 1+16*int(b[0]) || len(b) > weave.Most {
			t.Errorf("%q: %q", s, b)
		}
		most = max(most, len(b))
	}
	if most != 81 || weave.Most != 81 {
		t.Error(most, weave.Most)
	}
}

// P20.1: from 0 to 65536 bytes may stand ahead of each block.
func TestNew(t *testing.T) {
	for _, n := range []int{math.MinInt, -65536, -2, -1, 65537, 65538, 131072, 1 << 32, math.MaxInt} {
		if w, err := weave.New(n); w != nil || err != api.ErrArg {
			t.Error(n, w, err)
		}
		if p, err := weave.NewParter(n); p != nil || err != api.ErrArg {
			t.Error(n, p, err)
		}
	}
	for _, n := range []int{0, 1, 2, 255, 256, 65535, 65536} {
		if w, err := weave.New(n); w == nil || err != api.OK {
			t.Error(n, w, err)
		}
		if p, err := weave.NewParter(n); p == nil || err != api.OK {
			t.Error(n, p, err)
		}
	}
}

// P20.1: the chapter's example, and what a weaver does one by one.
func TestWoven(t *testing.T) {
	a, none := "\x01StreamTitle='a';", "\x01StreamTitle='';\x00"
	for _, c := range []struct {
		every int
		l     []event
		want  string
	}{
		{4, []event{title("a"), sound("12345")}, "1234" + a + "5"},
		{4, []event{title("a"), sound("1234")}, "1234" + a},            // straight behind the byte
		{4, []event{title("a"), sound("123"), sound("4")}, "1234" + a}, // however they come
		{4, []event{title("a"), sound("123"), sound(""), sound("")}, "123"},
		{4, []event{sound("12345678")}, "1234\x005678\x00"}, // at first there is no title
		{1, []event{sound("123")}, "1\x002\x003\x00"},
		{2, []event{title(""), sound("123")}, "12\x003"},             // that is none, too
		{2, []event{title("a"), sound("1234")}, "12" + a + "34\x00"}, // it is told once
		{2, []event{title("a"), sound("12"), title("a"), sound("34")}, "12" + a + "34\x00"},
		{2, []event{sound("1"), title("a"), sound("234")}, "12" + a + "34\x00"},
		{2, []event{sound("12"), title("a"), sound("34")}, "12\x0034" + a},         // at the next block
		{2, []event{title("a"), title(""), sound("1234")}, "12" + none + "34\x00"}, // it changed back
		{2, []event{title("a"), sound("12"), title("b"), title("a"), sound("34")}, "12" + a + "34" + a},
		{2, []event{title("a"), sound("12"), title("b"), sound("3"), title("a"), sound("4")}, "12" + a + "34" + a},
		{2, []event{title("a"), sound("12"), title(""), sound("3456")}, "12" + a + "34" + none + "56\x00"},
		{2, []event{title("b"), title("c"), title("a"), sound("12")}, "12" + a}, // the last one
		{2, []event{title("a"), title("a"), sound("12"), title("a"), sound("34")}, "12" + a + "34\x00"},
		{2, []event{title("';"), sound("12"), title("’ "), title("'\x01"), sound("34")}, "12\x02StreamTitle='’ ';" + strings.Repeat("\x00", 13) + "34\x00"}, // layer 16's doesn't change
		{2, []event{title(strings.Repeat("x", 60)), sound("12"), title(strings.Repeat("x", 61)), sound("34")}, "12" + chapterBlock(strings.Repeat("x", 60)) + "34\x00"},
		{0, []event{title("a"), sound("12345"), title("b"), sound("6")}, "123456"}, // no blocks
		{3, []event{title("a")}, ""},
		{3, nil, ""},
	} {
		if got := isWoven(t, c.every, c.l); got != c.want {
			t.Errorf("%d, %v: %q, not %q", c.every, c.l, got, c.want)
		}
	}
}

// P20.1: a block stands behind each so many bytes, in whatever pieces they come, for small and great ones.
func TestEvery(t *testing.T) {
	all := strings.Repeat("0123456789abc", 20)
	for every := range 40 {
		for long := 1; long < 50; long++ {
			l := []event{title("one")}
			for i, piece := range inPieces(all, long) {
				l = append(l, sound(piece))
				if i%3 == 1 {
					l = append(l, title("two"), sound(""))
				}
				if i%5 == 4 {
					l = append(l, title("one"))
				}
			}
			isWoven(t, every, l)
		}
	}
	for _, every := range []int{255, 256, 257, 4095, 65535, 65536} {
		b := bytes.Repeat([]byte("y"), 3*every+1)
		for _, long := range []int{every - 1, every, every + 1, 2 * every, 3*every + 1} {
			w, _ := weave.New(every)
			w.Title("far")
			var woven []byte
			for _, piece := range inPieces(string(b), long) {
				woven = append(woven, w.Weave([]byte(piece)...)...)
			}
			own := string(b[:every])
			if string(woven) != own+chapterBlock("far")+own+"\x00"+own+"\x00y" {
				t.Error(every, long, len(woven))
			}
		}
	}
	w, _ := weave.New(0)
	w.Title("never")
	if b := w.Weave(make([]byte, 300000)...); len(b) != 300000 {
		t.Error(len(b))
	}
}

// P20.2: pieces, one by one: what stands beside each other is one sound, a title parts it.
func TestParted(t *testing.T) {
	a, none, long := chapterBlock("a"), chapterBlock(""), chapterBlock(strings.Repeat("x", 60))
	wrong := "\x01StreamTitle=x;  "
	for _, c := range []struct {
		every  int
		pieces []string
		want   []weave.Piece
	}{
		{4, []string{"1234" + a + "5"}, []weave.Piece{weave.Sound("1234"), weave.Told("a"), weave.Sound("5")}},
		{4, []string{"12", "34", a, "5"}, []weave.Piece{weave.Sound("12"), weave.Sound("34"), weave.Told("a"), weave.Sound("5")}},
		{4, []string{"1234\x005678\x00" + "9"}, []weave.Piece{weave.Sound("123456789")}},
		{2, []string{"12" + a + "34\x0056" + none + "78" + a}, []weave.Piece{weave.Sound("12"), weave.Told("a"), weave.Sound("3456"), weave.Told(""), weave.Sound("78"), weave.Told("a")}},
		{2, []string{"12" + a[:5], a[5:] + "3"}, []weave.Piece{weave.Sound("12"), weave.Told("a"), weave.Sound("3")}},
		{2, []string{"12" + a + "34", a}, []weave.Piece{weave.Sound("12"), weave.Told("a"), weave.Sound("34"), weave.Told("a")}},
		{2, []string{"12" + a[:16]}, []weave.Piece{weave.Sound("12")}}, // it isn't whole
		{2, []string{"12" + long + "3"}, []weave.Piece{weave.Sound("12"), weave.Told(strings.Repeat("x", 60)), weave.Sound("3")}},
		{1, []string{"1" + wrong + "2\x003" + wrong}, []weave.Piece{weave.Sound("123")}},
		{1, []string{"1" + wrong + "2" + a + "3" + wrong + "4"}, []weave.Piece{weave.Sound("12"), weave.Told("a"), weave.Sound("34")}},
		{1, []string{"1", wrong, "2"}, []weave.Piece{weave.Sound("1"), weave.Sound("2")}},
		{0, []string{"1\x00" + a, wrong}, []weave.Piece{weave.Sound("1\x00" + a), weave.Sound(wrong)}}, // no blocks
		{3, []string{"", "", "\x00\x00\x00"}, []weave.Piece{weave.Sound("\x00\x00\x00")}},
		{3, []string{"\x01\x01\x01\x00"}, []weave.Piece{weave.Sound("\x01\x01\x01")}},
		{3, []string{""}, nil},
	} {
		if got := isParted(t, c.every, c.pieces...); !slices.EqualFunc(got, c.want, areSame) {
			t.Errorf("%d, %q: %q, not %q", c.every, c.pieces, got, c.want)
		}
	}
}

// P20.2: a title comes with its block's last byte, no sooner; so does an error; and what comes behind is read.
func TestLastByte(t *testing.T) {
	wrong := "StreamTitle=x;  "
	for _, c := range []struct {
		block string
		want  []weave.Piece
		err   api.Errno
	}{
		{"\x00", nil, api.OK},
		{chapterBlock("a"), []weave.Piece{weave.Told("a")}, api.OK},
		{chapterBlock(""), []weave.Piece{weave.Told("")}, api.OK},
		{chapterBlock(strings.Repeat("€", 20)), []weave.Piece{weave.Told(strings.Repeat("€", 20))}, api.OK},
		{"\x01" + wrong, nil, api.ErrForm},
		{"\x05" + strings.Repeat(wrong, 5), nil, api.ErrForm},
		{"\x06" + strings.Repeat(wrong, 6), nil, api.ErrForm},
		{"\xff" + strings.Repeat(wrong, 255), nil, api.ErrForm},
		{"\x06" + chapterBlock(strings.Repeat("x", 60))[1:] + strings.Repeat("\x00", 16), nil, api.ErrForm},
	} {
		p, _ := weave.NewParter(2)
		for range 3 {
			if l, err := p.Part('1', '2'); len(l) != 1 || !areSame(l[0], weave.Sound("12")) || err != api.OK {
				t.Fatalf("%q: %q, %d", c.block, l, err)
			}
			last := len(c.block) - 1
			for i := range last {
				if l, err := p.Part(c.block[i]); l != nil || err != api.OK {
					t.Fatalf("%q: %q, %d at %d", c.block, l, err, i)
				}
				if l, err := p.Part(); l != nil || err != api.OK {
					t.Fatalf("%q: %q, %d at %d", c.block, l, err, i)
				}
			}
			if l, err := p.Part(c.block[last]); !slices.EqualFunc(l, c.want, areSame) || err != c.err {
				t.Fatalf("%q: %q, %d", c.block, l, err)
			}
			if l, err := p.Part(); l != nil || err != api.OK {
				t.Fatalf("%q: %q, %d", c.block, l, err)
			}
		}
	}
}

// P20.2: a block that isn't some title's is an error, and brings nothing; all else is told.
func TestNoTitles(t *testing.T) {
	fill := func(s string) string {
		s += strings.Repeat("\x00", (16-len(s)%16)%16)
		return string([]byte{byte(len(s) / 16)}) + s
	}
	noughts := strings.Repeat("\x00", 16)
	for _, block := range []string{
		"\x01" + noughts, "\x02" + noughts + noughts, "\x10" + strings.Repeat(noughts, 16),
		"\x01StreamTitle=x;  ", "\x01StreamTitle='a'\x00", "\x01StreamTitle='aaa", "\x01StreamTitle='\x00\x00\x00", "\x01StreamTitle=''\x00\x00",
		"\x01StreamTitle='';;", "\x01StreamTitle='';x", "\x01StreamTitle='\x00';", "\x01streamtitle='a';", "\x01StreamTitle=\"a\"", "\x01 StreamTitle='';", "\x01\x00StreamTitle='';",
		fill("';"), fill("StreamTitle="), fill("StreamTitle=';"), fill("x';"), fill("StreamTitle='Song'; "), fill("StreamTitle='Song';\x00x"),
		"\x02" + chapterBlock("a")[1:] + noughts, "\x03" + chapterBlock("Song")[1:] + noughts, "\x06" + chapterBlock(strings.Repeat("x", 60))[1:] + noughts, // needless noughts
		fill("StreamTitle='" + strings.Repeat("x", 61) + "';"), fill("StreamTitle='" + strings.Repeat("x", 65) + "';"), fill("StreamTitle='" + strings.Repeat("x", 66) + "';"),
		fill("StreamTitle='" + strings.Repeat("x", 4000) + "';"),
		fill("StreamTitle='It's';"), fill("StreamTitle='a;b';"), fill("StreamTitle='a';StreamUrl='b';"), fill("StreamTitle='a\x00b';"), fill("StreamTitle='\x1f';"), fill("StreamTitle='\x7f';"), fill("StreamTitle='\xff';"), fill("StreamTitle='\xe2\x82';"), fill("StreamTitle='a\n';"), fill("StreamTitle='';';"), fill("StreamTitle='StreamTitle='a';';"),
	} {
		for _, pieces := range [][]string{{"1" + block + "2"}, {"1", block, "2"}, {"1" + block + "2" + block + "3" + chapterBlock("a") + "4\x00" + "5"}, {"1" + block + "2" + chapterBlock("a") + "3" + block, block}} {
			p, _ := weave.NewParter(1)
			wrong := 0
			for _, piece := range pieces {
				if _, err := p.Part([]byte(piece)...); err != api.OK {
					wrong++
				}
			}
			if wrong == 0 {
				t.Errorf("%q is right", pieces)
			}
			isParted(t, 1, pieces...)
			isParted(t, 1, inPieces(strings.Join(pieces, ""), 1)...)
		}
	}
}

// P20.2: each byte in the place of each one of some blocks: a title's is another title's, or none's.
func TestEachByte(t *testing.T) {
	titles, errs := 0, 0
	for _, s := range []string{"", "a", "Song", "It’s", "€€", strings.Repeat("x", 33), strings.Repeat("🎵", 15)} {
		block := chapterBlock(s)
		for at := range len(block) {
			for n := range 256 {
				other := "12" + block[:at] + string([]byte{byte(n)}) + block[at+1:] + "34\x00" + "56"
				for _, piece := range isParted(t, 2, other) {
					if _, ok := piece.(weave.Told); ok {
						titles++
					}
				}
				if _, wrong := chapterParted(2, []string{other}); wrong[0] != api.OK {
					errs++
				}
			}
		}
	}
	if titles < 1000 || errs < 10000 {
		t.Error(titles, errs)
	}
}

// P20.2: each length of a block, of noughts, of a title, and of anything.
func TestEachLength(t *testing.T) {
	r := rand.New(rand.NewSource(20))
	for n := range 256 {
		first := string([]byte{byte(n)})
		noise := make([]byte, 16*n)
		r.Read(noise)
		for _, text := range []string{strings.Repeat("\x00", 16*n), string(noise), ("StreamTitle='" + strings.Repeat("x", 16*n))[:16*n], (strings.Repeat("x", 16*n) + "';")[2:]} {
			s := "12" + first + text + "34" + chapterBlock("a") + "5"
			isParted(t, 2, s)
			isParted(t, 2, inPieces(s, 7)...)
		}
		for long := range 62 {
			text := "StreamTitle='" + strings.Repeat("x", long) + "';"
			if len(text) <= 16*n && n < 9 {
				isParted(t, 1, "1"+first+text+strings.Repeat("\x00", 16*n-len(text))+"2")
			}
		}
	}
}

// P20.2: blocks stand where a weaver of as many bytes puts them.
func TestPartedEvery(t *testing.T) {
	for every := range 40 {
		l := isWoven(t, every, []event{title("one"), sound(strings.Repeat("a", 100)), title("two"), sound(strings.Repeat("b", 99)), title("one"), sound("c")})
		for _, other := range []int{every, every + 1, 2*every + 1} {
			for long := 1; long < 60; long++ {
				isParted(t, other, inPieces(l, long)...)
			}
		}
	}
	for _, every := range []int{65535, 65536} {
		own := strings.Repeat("\x00", every)
		p, _ := weave.NewParter(every)
		l, _ := p.Part([]byte(own + chapterBlock("far") + own + "\x00" + own + "\x00\x00")...)
		if len(l) != 3 || len(l[0].(weave.Sound)) != every || l[1] != weave.Piece(weave.Told("far")) || len(l[2].(weave.Sound)) != 2*every+1 {
			t.Error(every, len(l))
		}
	}
}

// P20.3: the bytes of all sounds, and of nothing else.
func TestBytes(t *testing.T) {
	parter, _ := weave.NewParter(3)
	text := "text"
	for _, c := range []struct {
		l    []weave.Piece
		want string
	}{
		{nil, ""},
		{[]weave.Piece{}, ""},
		{[]weave.Piece{weave.Told("a")}, ""},
		{[]weave.Piece{weave.Sound("a")}, "a"},
		{[]weave.Piece{weave.Sound(nil), weave.Sound{}, weave.Sound("\x00")}, "\x00"},
		{[]weave.Piece{weave.Sound("ab"), weave.Told("x"), weave.Sound("cd"), weave.Sound("e"), weave.Told(""), weave.Told("yz"), weave.Sound("f")}, "abcdef"},
		{[]weave.Piece{nil, 1, "text", []byte("bytes"), 'r', &text, parter, *parter, struct{}{}, []weave.Piece{weave.Sound("inner")}, func() {}, map[string]int{}, weave.Sound("s"), (*weave.Sound)(nil)}, "s"},
	} {
		if b := weave.Bytes(c.l); string(b) != c.want {
			t.Errorf("%q: %q", c.want, b)
		}
	}
}

// panics tells whether First of pieces does.
func panics(l []weave.Piece) (does bool) {
	defer func() { does = recover() != nil }()
	weave.First(l)
	return
}

// P20.3: the title that pieces begin with; First panics, if they don't.
func TestFirst(t *testing.T) {
	for _, s := range []string{"", "a", "It's; \x00 any text", "\xff"} {
		for _, behind := range [][]weave.Piece{nil, {weave.Told("other")}, {weave.Sound("x"), nil}} {
			if got := weave.First(append([]weave.Piece{weave.Told(s)}, behind...)); got != s {
				t.Errorf("%q: %q", s, got)
			}
		}
	}
	text, told := "text", weave.Told("a")
	for i, l := range [][]weave.Piece{
		nil, {}, {weave.Sound("a")}, {weave.Sound(nil)}, {weave.Sound("a"), told}, {nil}, {nil, told}, {"text"}, {[]byte("a")}, {1}, {&told}, {&text}, {(*weave.Told)(nil)}, {[]weave.Piece{told}},
		[]weave.Piece{told}[:0],
	} {
		if !panics(l) {
			t.Error(i, l)
		}
	}
	if panics([]weave.Piece{told}) {
		t.Error("a title")
	}
}

// P20.3, P1: of a nil weaver nothing; of a nil parter ErrArg.
func TestNil(t *testing.T) {
	var w *weave.Weaver
	var p *weave.Parter
	w.Title("a")
	if b := w.Weave(1, 2, 3); b != nil {
		t.Error(b)
	}
	if b := w.Weave(); b != nil {
		t.Error(b)
	}
	for _, b := range [][]byte{nil, {}, {1}, []byte("1" + chapterBlock("a"))} {
		if l, err := p.Part(b...); l != nil || err != api.ErrArg {
			t.Error(l, err)
		}
	}
}

// someEvents are titles and sound, the same each time.
func someEvents(r *rand.Rand) []event {
	all := texts()
	var l []event
	for range r.Intn(30) {
		switch r.Intn(4) {
		case 0:
			l = append(l, title(all[r.Intn(len(all))]))
		case 1:
			l = append(l, title([]string{"", "a", "b", "a'", "a’"}[r.Intn(5)]))
		default:
			b := make([]byte, r.Intn(1<<r.Intn(8)))
			r.Read(b)
			l = append(l, sound(string(b)))
		}
	}
	return l
}

// P20.4: what is woven is parted, in whatever pieces: the sound, and each title where it stood.
func TestWovenIsParted(t *testing.T) {
	r := rand.New(rand.NewSource(4))
	titles := 0
	for range 4000 {
		l := someEvents(r)
		every := r.Intn(1 << r.Intn(8))
		woven := isWoven(t, every, l)
		var all, told string
		for _, e := range l {
			if !e.title {
				all += e.text
			}
		}
		for _, pieces := range [][]string{{woven}, anyPieces(r, woven)} {
			got := isParted(t, every, pieces...)
			if string(weave.Bytes(got)) != all {
				t.Fatalf("%d, %v: %q", every, l, got)
			}
			told = ""
			heard := 0
			for _, piece := range got {
				if s, ok := piece.(weave.Told); ok {
					titles++
					told += fmt.Sprintf("%d %s\n", heard, s)
				} else {
					heard += len(piece.(weave.Sound))
				}
			}
			if want := chapterTold(every, l); told != want {
				t.Fatalf("%d, %v: %q, not %q", every, l, told, want)
			}
		}
	}
	if titles < 5000 {
		t.Error(titles)
	}
}

// chapterTold is behind how many bytes of sound each title is told: at the next block since it changed.
func chapterTold(every int, l []event) string {
	if every == 0 {
		return ""
	}
	due := map[int]string{} // by the number of the block
	now, all := "", 0
	for _, e := range l {
		if !e.title {
			all += len(e.text)
		} else if s := word.Title(e.text); s != now {
			now = s
			due[all/every+1] = s
		}
	}
	told := ""
	for n := 1; n <= all/every; n++ {
		if s, ok := due[n]; ok {
			told += fmt.Sprintf("%d %s\n", n*every, s)
		}
	}
	return told
}

// P20.2, P1: any bytes, in any pieces: each call ends, and none panics.
func TestAnyBytes(t *testing.T) {
	r := rand.New(rand.NewSource(5))
	titles, errs := 0, 0
	some := texts()
	for range 6000 {
		every := r.Intn(1 << r.Intn(7))
		var s strings.Builder
		for range r.Intn(20) {
			b := make([]byte, every)
			r.Read(b)
			s.Write(b)
			block := []byte(chapterBlock(some[r.Intn(len(some))]))
			switch r.Intn(6) {
			case 0:
				block = []byte{0}
			case 1:
				block[r.Intn(len(block))] ^= 1 << r.Intn(8)
			case 2:
				block = make([]byte, 1+16*r.Intn(20))
				r.Read(block)
				block[0] = byte(len(block) / 16)
			case 3:
				s.WriteString("x"[:r.Intn(2)])
			}
			s.Write(block)
		}
		pieces := anyPieces(r, s.String())
		for _, piece := range isParted(t, every, pieces...) {
			if _, ok := piece.(weave.Told); ok {
				titles++
			}
		}
		_, wrong := chapterParted(every, pieces)
		errs += len(slices.DeleteFunc(wrong, func(err api.Errno) bool { return err == api.OK }))
	}
	if titles < 5000 || errs < 5000 {
		t.Error(titles, errs)
	}
}

// A weaver and a parter of no one's making have no blocks, and panic neither.
func TestZeroes(t *testing.T) {
	var w weave.Weaver
	w.Title("a")
	if b := w.Weave(1, 2, 3); string(b) != "\x01\x02\x03" {
		t.Error(b)
	}
	var p weave.Parter
	if l, err := p.Part(1, 2, 3); len(l) != 1 || string(weave.Bytes(l)) != "\x01\x02\x03" || err != api.OK {
		t.Error(l, err)
	}
}

// What is kept is a title, and a block's beginning, whatever came.
func TestKeepsLittle(t *testing.T) {
	var ahead, after runtime.MemStats
	runtime.GC()
	runtime.ReadMemStats(&ahead)
	var weavers []*weave.Weaver
	var parters []*weave.Parter
	var told []weave.Piece
	for n := range 500 {
		w, _ := weave.New(1)
		w.Title(strings.Repeat(string(rune('a'+n%20)), 1<<16))
		w.Weave(make([]byte, 100)...)
		w.Title(strings.Repeat(string(rune('A'+n%20)), 1<<16))
		p, _ := weave.NewParter(1)
		p.Part(bytes.Repeat([]byte("\xffStreamTitle='"), 2000)...)
		q, _ := weave.NewParter(1 << 16)
		l, _ := q.Part([]byte(strings.Repeat("x", 1<<16) + chapterBlock("a"))...)
		weavers, parters, told = append(weavers, w), append(parters, p, q), append(told, l[1])
	}
	runtime.GC()
	runtime.ReadMemStats(&after)
	if kept := int64(after.HeapAlloc) - int64(ahead.HeapAlloc); kept > 500*1024 {
		t.Errorf("%d bytes are kept", kept)
	}
	runtime.KeepAlive(weavers)
	runtime.KeepAlive(parters)
	runtime.KeepAlive(told)
}

// What is answered is one's own, and what is handed in isn't kept: what is done to it changes nothing else.
func TestAnswersAreApart(t *testing.T) {
	b := weave.Block("a")
	_ = append(b[:1], strings.Repeat("y", 90)...)
	if again := weave.Block("a"); string(again) != chapterBlock("a") {
		t.Errorf("%q", again)
	}
	w, _ := weave.New(2)
	w.Title("a")
	given := []byte("1234")
	woven := w.Weave(given...)
	clear(woven)
	if string(given) != "1234" {
		t.Errorf("%q", given)
	}
	if woven = w.Weave(given...); string(woven) != "12\x0034\x00" {
		t.Errorf("%q", woven)
	}
	clear(given)
	if string(woven) != "12\x0034\x00" {
		t.Errorf("%q", woven)
	}

	p, _ := weave.NewParter(2)
	given = []byte("12" + chapterBlock("a") + "34" + chapterBlock("b") + "56" + chapterBlock("c")[:9])
	l, _ := p.Part(given...)
	clear(given)
	want := []weave.Piece{weave.Sound("12"), weave.Told("a"), weave.Sound("34"), weave.Told("b"), weave.Sound("56")}
	if !slices.EqualFunc(l, want, areSame) {
		t.Errorf("%q", l)
	}
	_ = append(l[0].(weave.Sound), "yyyyyyyyyyyyyyyyyyyyyyyyyyyy"...)
	clear(l[0].(weave.Sound)[:cap(l[0].(weave.Sound))])
	want[0] = weave.Sound("\x00\x00")
	if !slices.EqualFunc(l, want, areSame) {
		t.Errorf("%q", l)
	}
	all := weave.Bytes(l)
	clear(all[:cap(all)])
	if !slices.EqualFunc(l, want, areSame) {
		t.Errorf("%q", l)
	}
	all = weave.Bytes(l[4:])
	clear(l[4].(weave.Sound))
	if string(all) != "56" {
		t.Errorf("%q", all)
	}
	_ = append(l, weave.Told("x"))
	if l, err := p.Part([]byte(chapterBlock("c")[9:])...); len(l) != 1 || weave.First(l) != "c" || err != api.OK {
		t.Errorf("%q", l)
	}
	pieces := []weave.Piece{weave.Sound("ab"), weave.Told("x"), nil}
	weave.Bytes(pieces)
	weave.First(pieces[1:])
	if !slices.EqualFunc(pieces, []weave.Piece{weave.Sound("ab"), weave.Told("x"), nil}, areSame) {
		t.Errorf("%q", pieces)
	}
}

// P2: a weaver, and a parter, hang on what they were told alone: others beside them, and copies of them, don't matter.
func TestObjectsAreApart(t *testing.T) {
	w, _ := weave.New(2)
	far, _ := weave.New(3)
	w.Title("a")
	w.Weave('1')
	far.Title("b")
	copied := *w
	copied.Title("c")
	if b := copied.Weave([]byte("234")...); string(b) != "2"+chapterBlock("c")+"34\x00" {
		t.Errorf("%q", b)
	}
	if b := w.Weave([]byte("234")...); string(b) != "2"+chapterBlock("a")+"34\x00" {
		t.Errorf("%q", b)
	}
	if b := far.Weave([]byte("1234")...); string(b) != "123"+chapterBlock("b")+"4" {
		t.Errorf("%q", b)
	}

	a, b := chapterBlock("aaaa"), chapterBlock("bbbb")
	p, _ := weave.NewParter(1)
	q, _ := weave.NewParter(1)
	p.Part([]byte("1" + a[:16])...)
	q.Part([]byte("1" + b[:16])...)
	other := *p
	other.Part([]byte("zz")...)
	if l, err := p.Part([]byte(a[16:])...); len(l) != 1 || weave.First(l) != "aaaa" || err != api.OK {
		t.Errorf("%q, %d", l, err)
	}
	if l, err := q.Part([]byte(b[16:])...); len(l) != 1 || weave.First(l) != "bbbb" || err != api.OK {
		t.Errorf("%q, %d", l, err)
	}
	if l, err := other.Part([]byte(a[18:])...); len(l) != 1 || weave.First(l) != "aazz" || err != api.OK {
		t.Errorf("%q, %d", l, err)
	}
}

// answers are those of the calls for some events and bytes.
func answers() []any {
	r := rand.New(rand.NewSource(6))
	var l []any
	for range 300 {
		every := r.Intn(20)
		w, err := weave.New(every)
		p, err2 := weave.NewParter(every)
		l = append(l, err, err2)
		for _, e := range someEvents(r) {
			if e.title {
				w.Title(e.text)
				l = append(l, weave.Block(e.text))
				continue
			}
			b := w.Weave([]byte(e.text)...)
			if len(b) > 0 && r.Intn(5) == 0 {
				b[r.Intn(len(b))]++
			}
			pieces, err := p.Part(b...)
			l = append(l, b, pieces, err, weave.Bytes(pieces))
		}
	}
	return l
}

// P2: the same calls answer the same, also where others call beside them.
func TestAnswersStayTheSame(t *testing.T) {
	want := answers()
	var all sync.WaitGroup
	for range 8 {
		all.Go(func() {
			if !reflect.DeepEqual(answers(), want) {
				t.Error("other answers")
			}
		})
	}
	all.Wait()
}

package word_test

import (
	"bytes"
	"math"
	"math/big"
	"math/rand"
	"slices"
	"strconv"
	"strings"
	"sync"
	"testing"

	"sideband/api"
	"sideband/word"
)

// unit is a rune of a text, with its bytes, or a stray byte.
type unit struct {
	n     rune
	bytes string
	stray bool
}

// coded is a rune as UTF-8 has it; nothing, if UTF-8 has no such rune.
func coded(n rune) string {
	switch {
	case n < 0, 0xd800 <= n && n < 0xe000, n > 0x10ffff:
		return ""
	case n < 0x80:
		return string([]byte{byte(n)})
	case n < 0x800:
		return string([]byte{byte(0xc0 + n>>6), byte(0x80 + n&63)})
	case n < 0x10000:
		return string([]byte{byte(0xe0 + n>>12), byte(0x80 + n>>6&63), byte(0x80 + n&63)})
	}
	return string([]byte{byte(0xf0 + n>>18), byte(0x80 + n>>12&63), byte(0x80 + n>>6&63), byte(0x80 + n&63)})
}

// spelt is the rune that some bytes are, all of them; -1, if they are none.
func spelt(s string) rune {
	first := []byte{0x7f, 0, 0x1f, 0x0f, 0x07}
	if len(s) < 1 || len(s) > 4 {
		return -1
	}
	n := rune(s[0])
	if len(s) > 1 {
		n &= rune(first[len(s)])
	}
	for _, c := range []byte(s[1:]) {
		n = n<<6 + rune(c&63)
	}
	if coded(n) != s {
		return -1
	}
	return n
}

// units are a text's, found without the library's own reading of runes.
func units(s string) []unit {
	var l []unit
	for at := 0; at < len(s); {
		u := unit{bytes: s[at : at+1], stray: true}
		for wide := 1; wide <= 4 && at+wide <= len(s); wide++ {
			if n := spelt(s[at : at+wide]); n >= 0 {
				u = unit{n: n, bytes: s[at : at+wide]}
				break
			}
		}
		l = append(l, u)
		at += len(u.bytes)
	}
	return l
}

// chapterFold goes through the chapter's words.
func chapterFold(s string) string {
	folded, inRow := "", false
	for _, u := range units(s) {
		switch {
		case u.stray && !inRow:
			folded += "?"
		case u.stray:
		case strings.Contains("ABCDEFGHIJKLMNOPQRSTUVWXYZ", u.bytes):
			folded += string("abcdefghijklmnopqrstuvwxyz"[u.n-65])
		default:
			folded += u.bytes
		}
		inRow = u.stray
	}
	return folded
}

// chapterTitle goes through the chapter's words.
func chapterTitle(s string) string {
	title := ""
	for _, u := range units(s) {
		b := u.bytes
		switch {
		case u.stray, u.n < 32, u.n == 127, u.n == 59:
			b = " "
		case u.n == 39:
			b = coded(8217)
		}
		if len(title)+len(b) > 60 {
			return title
		}
		title += b
	}
	return title
}

// chapterSeal writes the bits of bytes as figures, and cuts them in sixes.
func chapterSeal(b []byte) string {
	bits := ""
	for _, c := range b {
		figures := strconv.FormatInt(int64(c), 2)
		bits += strings.Repeat("0", 8-len(figures)) + figures
	}
	for len(bits)%6 != 0 {
		bits += "0"
	}
	sealed := ""
	for at := 0; at < len(bits); at += 6 {
		n, _ := strconv.ParseInt(bits[at:at+6], 2, 8)
		sealed += string(rune(letterOf(int(n))))
	}
	for len(sealed)%4 != 0 {
		sealed += "="
	}
	return sealed
}

func letterOf(value int) byte {
	switch {
	case value < 26:
		return byte(65 + value)
	case value < 52:
		return byte(97 + value - 26)
	case value < 62:
		return byte(48 + value - 52)
	case value == 62:
		return '+'
	}
	return '/'
}

// strays are bytes, none of which belongs to a rune.
var strays = []string{
	"\x80", "\xbf", "\xc0", "\xc1", "\xc3", "\xe6", "\xe6\x97", "\xf0", "\xf0\x9f", "\xf0\x9f\x98", "\xf4\x90\x80\x80", "\xf5\x80\x80\x80", "\xfe", "\xff",
	"\xc0\x80", "\xc1\xbf", "\xe0\x80\x80", "\xe0\x9f\xbf", "\xf0\x80\x80\x80", "\xf0\x8f\xbf\xbf", // more bytes than the rune needs
	"\xed\xa0\x80", "\xed\xbf\xbf", // no runes of their own: halves of pairs
	"\xf8\x88\x80\x80\x80", "\xef\xbf", "\xe2\x80",
}

// texts are of many kinds, the same each time: runes of each number of bytes, stray bytes, and what lies at edges.
func texts() []string {
	l := []string{"", " ", "It's", "It’s", "a;b", "\x00", "\x1f", "\x7f", "\u0080", "\u009f", "\ufffd", "\ufffd\xff\ufffd", "\xff\ufffd\xff", "\ufeffa", "É", "\u212a", "\u0130", "\U0010ffff"}
	l = append(l, strays...)
	pieces := slices.Concat(l, []string{"a", "Z", "0", "-", "_", ".", "/", "=", "+", "é", "ß", "Ж", "日", "😀", "'", ";", "\n", "xyz"})
	r := rand.New(rand.NewSource(1))
	for range 3000 {
		s := ""
		for range r.Intn(40) {
			s += pieces[r.Intn(len(pieces))]
		}
		l = append(l, s)
	}
	for range 2000 {
		b := make([]byte, r.Intn(100))
		r.Read(b)
		l = append(l, string(b))
	}
	return l
}

// The reckonings of these tests read UTF-8 as the language does.
func TestUnits(t *testing.T) {
	for _, s := range texts() {
		var told []rune
		for _, u := range units(s) {
			if u.stray {
				u.n = 0xfffd
			}
			told = append(told, u.n)
		}
		if !slices.Equal(told, []rune(s)) {
			t.Fatalf("%q: %q", s, told)
		}
	}
}

// P16.1: Fold.
func TestFold(t *testing.T) {
	for _, c := range []struct{ s, want string }{
		{"", ""}, {"abc", "abc"}, {"ABCXYZ", "abcxyz"}, {"Icy-MetaData", "icy-metadata"}, {"AUTHORIZATION", "authorization"}, {"@AZ[`az{09", "@az[`az{09"},
		{"ÀÉÞ", "ÀÉÞ"}, {"ЖΩ", "ЖΩ"}, {"\u212a\u0130ſ", "\u212a\u0130ſ"}, {"Ａ", "Ａ"}, {"\x00\n\x7f;'", "\x00\n\x7f;'"},
		{"\xff", "?"}, {"\xff\xfe\xfd", "?"}, {"A\xffB", "a?b"}, {"A\xff\xffB\xffC", "a?b?c"}, {"\xff?\xff", "???"}, {"\xc3A", "?a"}, {"\xe6\x97A", "?a"}, {"É\xffÉ", "É?É"},
		{"\ufffd", "\ufffd"}, {"\ufffd\ufffd", "\ufffd\ufffd"}, {"\xff\ufffd\xff", "?\ufffd?"}, {"\xe6\xe6\x97\xa5\x97", "?日?"},
	} {
		if got := word.Fold(c.s); got != c.want {
			t.Errorf("Fold(%q) = %q, not %q", c.s, got, c.want)
		}
	}
}

// P16.1: Fold of each rune.
func TestFoldEachRune(t *testing.T) {
	for n := range rune(0x110000) {
		s := coded(n)
		want := s
		if 'A' <= n && n <= 'Z' {
			want = string(n + 32)
		}
		if got := word.Fold(s); got != want {
			t.Fatalf("Fold(%q) = %q, not %q", s, got, want)
		}
	}
}

// P16.1: Fold of each two bytes, and of stray ones beside others.
func TestFoldBytes(t *testing.T) {
	for n := range 1 << 16 {
		s := string([]byte{byte(n >> 8), byte(n)})
		if got, want := word.Fold(s), chapterFold(s); got != want {
			t.Fatalf("Fold(%q) = %q, not %q", s, got, want)
		}
	}
	for _, s := range strays {
		for _, n := range []int{1, 2, 30} {
			row := strings.Repeat(s, n)
			if got := word.Fold("A" + row + "B" + row); got != "a?b?" {
				t.Errorf("%q, %d times: %q", s, n, got)
			}
		}
	}
}

func TestFoldTexts(t *testing.T) {
	for _, s := range texts() {
		got, want := word.Fold(s), chapterFold(s)
		if got != want || word.Fold(got) != got {
			t.Fatalf("Fold(%q) = %q, not %q", s, got, want)
		}
	}
	if got, want := word.Fold(strings.Repeat("ABC\xff\xff", 1<<16)), strings.Repeat("abc?", 1<<16); got != want {
		t.Error("a long text is another")
	}
}

const (
	some  = "abcdefghijklmnopqrstuvwxyzABCDEFGHIJKLMNOPQRSTUVWXYZ0123456789"
	names = some + "-"
	paths = some + ".-_"
)

// P16.1: Name: each byte at each place of names of each length.
func TestName(t *testing.T) {
	for _, s := range []string{"a", "-", "0", "Z", "icy-metadata", "Authorization", "--", strings.Repeat("-", 40), some[:40]} {
		if !word.Name(s) {
			t.Errorf("%q is no name", s)
		}
	}
	for _, s := range []string{"", " ", "a b", " a", "a ", "a:", "a_b", "a.b", "/a", "é", "\xff", "a\x00", "٣", strings.Repeat("a", 41), strings.Repeat("a", 1000), strings.Repeat("é", 20)} {
		if word.Name(s) {
			t.Errorf("%q is a name", s)
		}
	}
	for long := range 44 {
		if got := word.Name(strings.Repeat("a", long)); got != (long >= 1 && long <= 40) {
			t.Error(long, "bytes:", got)
		}
	}
	for _, long := range []int{1, 2, 7, 40} {
		eachByte(long, func(s string, c byte, at int) {
			if got, want := word.Name(s), strings.IndexByte(names, c) >= 0; got != want {
				t.Fatalf("Name(%q) = %v", s, got)
			}
		})
	}
}

// eachByte tells texts of so many bytes, each byte at each place of one.
func eachByte(long int, tell func(s string, c byte, at int)) {
	for at := range long {
		for n := range 256 {
			b := bytes.Repeat([]byte{'x'}, long)
			b[at] = byte(n)
			tell(string(b), byte(n), at)
		}
	}
}

// P16.1: Mount: each byte at each place of paths of each length.
func TestMount(t *testing.T) {
	for _, s := range []string{"/a", "/.", "/-", "/_", "/..", "/0", "/live", "/live.mp3", "/Live-2_x.ogg", "/" + some[:19], "/" + strings.Repeat("_", 19)} {
		if !word.Mount(s) {
			t.Errorf("%q is no path", s)
		}
	}
	for _, s := range []string{"", "/", "a", "ab", "live", "live/", "//", "//a", "/a/", "/a/b", " /a", "/a ", "/a b", "\\a", "/é", "/\xff", "/a\n", "/%20", "/?", "/٣", "/" + strings.Repeat("a", 20), "/" + strings.Repeat("a", 1000), strings.Repeat("a", 20)} {
		if word.Mount(s) {
			t.Errorf("%q is a path", s)
		}
	}
	for long := range 24 {
		if got := word.Mount("/" + strings.Repeat("a", long)); got != (long >= 1 && long <= 19) {
			t.Error(1+long, "bytes:", got)
		}
	}
	for _, long := range []int{1, 2, 6, 19} {
		eachByte(long, func(s string, c byte, at int) {
			if got, want := word.Mount("/"+s), strings.IndexByte(paths, c) >= 0; got != want {
				t.Fatalf("Mount(%q) = %v", "/"+s, got)
			}
		})
	}
	eachByte(20, func(s string, c byte, at int) {
		if got, want := word.Mount(s), at == 0 && c == '/'; got != want {
			t.Fatalf("Mount(%q) = %v", s, got)
		}
	})
}

// P16.1: Title.
func TestTitle(t *testing.T) {
	for _, c := range []struct{ s, want string }{
		{"", ""}, {"a", "a"}, {"It's", "It’s"}, {"It’s", "It’s"}, {"''", "’’"}, {"a;b;", "a b "}, {" a  b ", " a  b "},
		{"a\nb\tc\x00d\x1fe\x7ff", "a b c d e f"}, {"\r\n", "  "}, {"\u0080\u009f\u00a0", "\u0080\u009f\u00a0"}, {"`\"´:<>&", "`\"´:<>&"},
		{"c\xffd", "c d"}, {"c\xff\xff\xffd", "c   d"}, {"\xe6\x97", "  "}, {"\xe6\x97\xa5", "日"}, {"\xe6\xe6\x97\xa5\xa5", " 日 "}, {"\xed\xa0\x80", "   "}, {"\xc0\x80", "  "},
		{"\ufffd", "\ufffd"}, {"\xff\ufffd\xff", " \ufffd "}, {"\ufffd;\ufffd", "\ufffd \ufffd"}, {"😀 Ж", "😀 Ж"}, {"\u0301\u200b\ufeff", "\u0301\u200b\ufeff"},
	} {
		if got := word.Title(c.s); got != c.want {
			t.Errorf("Title(%q) = %q, not %q", c.s, got, c.want)
		}
	}
}

// P16.1: a title of each rune.
func TestTitleOfEachRune(t *testing.T) {
	for n := range rune(0x110000) {
		s := coded(n)
		want := "<" + s + ">"
		switch {
		case s == "":
			continue
		case n < 32, n == 59, n == 127:
			want = "< >"
		case n == 39:
			want = "<\xe2\x80\x99>"
		}
		if got := word.Title("<" + s + ">"); got != want {
			t.Fatalf("Title of the rune %d: %q, not %q", n, got, want)
		}
	}
}

// P16.1: it is cut at sixty bytes, between runes, and the first one that doesn't go in ends it.
func TestTitleIsCut(t *testing.T) {
	x := strings.Repeat("x", 70)
	for _, c := range []struct{ s, want string }{
		{x[:59], x[:59]}, {x[:60], x[:60]}, {x[:61], x[:60]}, {x, x[:60]},
		{x[:59] + "é", x[:59]}, {x[:59] + "éy", x[:59]}, {x[:58] + "é", x[:58] + "é"}, {x[:58] + "éy", x[:58] + "é"},
		{x[:58] + "日", x[:58]}, {x[:58] + "日yy", x[:58]}, {x[:57] + "日yy", x[:57] + "日"},
		{x[:57] + "😀", x[:57]}, {x[:57] + "😀éy", x[:57]}, {x[:56] + "😀yy", x[:56] + "😀"},
		{x[:58] + "'", x[:58]}, {x[:58] + "'y", x[:58]}, {x[:59] + "'", x[:59]}, {x[:57] + "'", x[:57] + "’"}, {x[:57] + "'y", x[:57] + "’"},
		{x[:59] + ";;", x[:59] + " "}, {x[:59] + "\xff\xff", x[:59] + " "}, {x[:59] + "\xc3", x[:59] + " "}, {x[:58] + "\xe6\x97", x[:58] + "  "}, {x[:57] + "\xf0\x9f\x98", x[:57] + "   "},
		{x[:58] + "\ufffdy", x[:58]}, {x[:57] + "\ufffdy", x[:57] + "\ufffd"},
		{strings.Repeat("'", 30), strings.Repeat("’", 20)}, {strings.Repeat("é", 31), strings.Repeat("é", 30)}, {strings.Repeat("😀", 16), strings.Repeat("😀", 15)},
		{"a" + strings.Repeat("é", 31), "a" + strings.Repeat("é", 29)}, {strings.Repeat("\xff", 100), strings.Repeat(" ", 60)}, {strings.Repeat("日\xff", 1<<16), strings.Repeat("日 ", 15)},
	} {
		if got := word.Title(c.s); got != c.want {
			t.Errorf("Title(%q) = %q, not %q", c.s[:min(len(c.s), 200)], got, c.want)
		}
	}
}

// P16.1, P16.3: any text's title is as the chapter's words say, and a title's title is it.
func TestTitlesOfTexts(t *testing.T) {
	for _, s := range texts() {
		got, want := word.Title(s), chapterTitle(s)
		if got != want {
			t.Fatalf("Title(%q) = %q, not %q", s, got, want)
		}
		if again := word.Title(got); again != got || len(got) > 60 || strings.ContainsAny(got, ";'\x00\n\x7f") {
			t.Fatalf("Title(%q) = %q", got, again)
		}
	}
	for n := range 1 << 16 {
		s := string([]byte{byte(n >> 8), byte(n)})
		got, want := word.Title(s), chapterTitle(s)
		if got != want || word.Title(got) != got {
			t.Fatalf("Title(%q) = %q, not %q", s, got, want)
		}
	}
}

// P16.1: Number.
func TestNumber(t *testing.T) {
	const most = math.MaxInt
	for _, c := range []struct {
		s    string
		most int
		want int
	}{
		{"0", 0, 0}, {"0", 9, 0}, {"1", 0, -1}, {"1", 1, 1}, {"9", 9, 9}, {"10", 9, -1}, {"42", 42, 42}, {"43", 42, -1}, {"42", 43, 42}, {"99", 100, 99}, {"100", 99, -1}, {"65536", 65536, 65536}, {"65537", 65536, -1},
		{"00", 9, -1}, {"01", 9, -1}, {"007", 9, -1}, {"042", 99, -1}, {"-0", 9, -1}, {"+0", 9, -1}, {"+1", 9, -1}, {"-1", 9, -1}, {"-1", -1, -1}, {"-5", 9, -1}, {"--1", 9, -1},
		{"", 9, -1}, {" ", 9, -1}, {" 1", 9, -1}, {"1 ", 9, -1}, {"1\n", 9, -1}, {"1\x00", 9, -1}, {"1 2", 99, -1}, {"1_0", 99, -1}, {"1,0", 99, -1}, {"1.0", 99, -1}, {"1e1", 99, -1}, {"0x1", 99, -1}, {"0b1", 99, -1}, {"0o7", 99, -1}, {"a", 99, -1}, {"1a", 99, -1}, {"a1", 99, -1}, {"/", 99, -1}, {":", 99, -1}, {"٣", 99, -1}, {"３", 99, -1}, {"²", 99, -1}, {"\xff", 99, -1}, {"1\xff", 99, -1}, {"=", 99, -1},
		{"0", -1, -1}, {"1", -1, -1}, {"0", math.MinInt, -1}, {"5", -5, -1}, {"-5", -5, -1}, {"", -1, -1}, {"-9223372036854775808", math.MinInt, -1},
		{"9223372036854775807", most, most}, {"9223372036854775806", most, most - 1}, {"9223372036854775807", most - 1, -1}, {"9223372036854775808", most, -1}, {"9223372036854775809", most, -1}, {"9223372036854775810", most, -1}, {"18446744073709551615", most, -1}, {"18446744073709551616", most, -1}, {"18446744073709551617", most, -1}, {"18446744073709551658", 99, -1}, {"99999999999999999999", most, -1}, {"340282366920938463463374607431768211457", most, -1},
		{"09223372036854775807", most, -1}, {strings.Repeat("9", 400), most, -1}, {strings.Repeat("0", 400), most, -1}, {strings.Repeat("0", 400) + "1", most, -1}, {"1" + strings.Repeat("0", 64), most, -1},
	} {
		if got := word.Number(c.s, c.most); got != c.want {
			t.Errorf("Number(%q, %d) = %d, not %d", c.s, c.most, got, c.want)
		}
	}
}

// P16.1: each number to 1100, beside bounds of any size.
func TestNumbers(t *testing.T) {
	bounds := []int{math.MinInt, -1, 0, 1, 8, 9, 10, 11, 98, 99, 100, 101, 998, 999, 1000, 1001, 1099, 1100, math.MaxInt}
	for n := range 1101 {
		s := strconv.Itoa(n)
		for _, most := range append([]int{n - 1, n, n + 1}, bounds...) {
			want := n
			if n > most {
				want = -1
			}
			if got := word.Number(s, most); got != want {
				t.Fatalf("Number(%q, %d) = %d, not %d", s, most, got, want)
			}
			for _, wrong := range []string{"0" + s, "+" + s, "-" + s, " " + s, s + " ", s + "x"} {
				if got := word.Number(wrong, most); got != -1 {
					t.Fatalf("Number(%q, %d) = %d", wrong, most, got)
				}
			}
		}
	}
}

// P16.1: numbers of up to twenty-two figures, beside numbers without end.
func TestLongNumbers(t *testing.T) {
	r := rand.New(rand.NewSource(2))
	for range 20000 {
		b := make([]byte, 1+r.Intn(22))
		for i := range b {
			b[i] = '0' + byte(r.Intn(10))
		}
		n, _ := new(big.Int).SetString(string(b), 10)
		most := int(r.Uint64()) >> r.Intn(64)
		want := -1
		if (b[0] != '0' || len(b) == 1) && n.Cmp(big.NewInt(int64(most))) <= 0 {
			want = int(n.Int64())
		}
		if got := word.Number(string(b), most); got != want {
			t.Fatalf("Number(%q, %d) = %d, not %d", b, most, got, want)
		}
	}
}

// sealed are texts that are known elsewhere.
var sealed = []struct{ b, s string }{
	{"", ""}, {"f", "Zg=="}, {"fo", "Zm8="}, {"foo", "Zm9v"}, {"foob", "Zm9vYg=="}, {"fooba", "Zm9vYmE="}, {"foobar", "Zm9vYmFy"},
	{"abc", "YWJj"}, {"a", "YQ=="}, {"ab", "YWI="}, {"source:hackme", "c291cmNlOmhhY2ttZQ=="}, {"\x00", "AA=="}, {"\x00\x00", "AAA="}, {"\x00\x00\x00", "AAAA"}, {"\xff", "/w=="}, {"\xff\xff", "//8="}, {"\xff\xff\xff", "////"}, {"\xfb\xef\xbe", "++++"},
	{"\x00\x10\x83\x10\x51\x87\x20\x92\x8b\x30\xd3\x8f\x41\x14\x93\x51\x55\x97\x61\x96\x9b\x71\xd7\x9f\x82\x18\xa3\x92\x59\xa7\xa2\x9a\xab\xb2\xdb\xaf\xc3\x1c\xb3\xd3\x5d\xb7\xe3\x9e\xbb\xf3\xdf\xbf", "ABCDEFGHIJKLMNOPQRSTUVWXYZabcdefghijklmnopqrstuvwxyz0123456789+/"},
}

// P16.2: Seal, and Open.
func TestSealed(t *testing.T) {
	for _, c := range sealed {
		if got := word.Seal([]byte(c.b)); got != c.s {
			t.Errorf("Seal(%q) = %q, not %q", c.b, got, c.s)
		}
		if b, err := word.Open(c.s); string(b) != c.b || err != api.OK {
			t.Errorf("Open(%q) = %q, %d, not %q", c.s, b, err, c.b)
		}
	}
	if got := word.Seal(nil); got != "" {
		t.Errorf("nothing, sealed: %q", got)
	}
}

// lists are bytes of many lengths, the same each time.
func lists() [][]byte {
	l := [][]byte{nil, {}}
	r := rand.New(rand.NewSource(3))
	for n := range 300 {
		b := make([]byte, n)
		r.Read(b)
		l = append(l, b, make([]byte, n), bytes.Repeat([]byte{255}, n), bytes.Repeat([]byte{0x55, 0xaa}, n))
	}
	return l
}

// P16.2, P16.3: any bytes, sealed, are as the chapter's words say, and are opened.
func TestSealedLists(t *testing.T) {
	for _, b := range lists() {
		s := word.Seal(b)
		if want := chapterSeal(b); s != want {
			t.Fatalf("Seal(%x) = %q, not %q", b, s, want)
		}
		if opened, err := word.Open(s); !bytes.Equal(opened, b) || err != api.OK {
			t.Fatalf("Open(%q) = %x, %d, not %x", s, opened, err, b)
		}
	}
	for n := range 1 << 16 {
		for _, b := range [][]byte{{byte(n >> 8), byte(n)}, {7, byte(n >> 8), byte(n)}, {byte(n >> 8), byte(n), 9, 200}} {
			s := word.Seal(b)
			if opened, err := word.Open(s); !bytes.Equal(opened, b) || err != api.OK {
				t.Fatalf("Open(%q) = %x, %d, not %x", s, opened, err, b)
			}
		}
	}
	long := make([]byte, 1<<20+1)
	rand.New(rand.NewSource(4)).Read(long)
	if opened, err := word.Open(word.Seal(long)); !bytes.Equal(opened, long) || err != api.OK {
		t.Error("many bytes aren't opened:", err)
	}
}

func isForm(t *testing.T, s string) {
	t.Helper()
	if b, err := word.Open(s); len(b) != 0 || err != api.ErrForm {
		t.Fatalf("Open(%q) = %x, %d, not %d", s, b, err, api.ErrForm)
	}
}

// P16.2: what is no sealed text.
func TestWrongSealed(t *testing.T) {
	for _, s := range []string{
		"=", "==", "===", "====", "=====", "========", "Y", "Y=", "Y==", "Y===", "YW", "YQ=", "YQ", "YWI", "YWJ", "YWJj=", "YWJj==", "YWJj===", "YWJj====", "YQ===", "YQ======", "YWI==", "YWI=====", "YWJjY", "YWJjY===", "YWJjYQ", "YWJjYQ=",
		"YR==", "Yf==", "YX==", "YWJ=", "YWL=", "YWK=", "/x==", "///=", "AB==", "AAB=", "AAC=", "B===",
		"YQ==YQ==", "YQ==YWJj", "YWI=YWJj", "=YWJj", "Y=Jj", "YW=j", "Y=I=", "=W==", "=AAA", "A=AA", "==AA", "=A==", "===A",
		" ", " YQ==", "YQ== ", "YQ ==", "Y Q==", "YWJj\n", "YWJj\r\n", "\nYWJj", "YW\nJj", "YWJj\x00", "\x00", "\xff\xff\xff\xff", "Y!==", "YQ=!", "YQ!=", "YWJ!", "!WJj", "-_-_", "YW-_", "YWJjéé", "ＹＱ==", "日", "YQ=\x00",
	} {
		isForm(t, s)
	}
}

// P16.2: each text of four letters, the third or the last ones of which may be =: those open that are some bytes', and no other.
func TestOpenEachEnd(t *testing.T) {
	of := map[string][]byte{}
	for n := range 256 {
		b := []byte{byte(n)}
		of[chapterSeal(b)] = b
	}
	for n := range 1 << 16 {
		b := []byte{byte(n >> 8), byte(n)}
		of[chapterSeal(b)] = b
	}
	const all = "ABCDEFGHIJKLMNOPQRSTUVWXYZabcdefghijklmnopqrstuvwxyz0123456789+/=-"
	opened := 0
	for i := range all {
		for k := range all {
			for m := range all {
				s := string([]byte{all[i], all[k], all[m], '='})
				b, err := word.Open(s)
				want, ok := of[s]
				if !ok {
					isForm(t, s)
					continue
				}
				if opened++; !bytes.Equal(b, want) || err != api.OK {
					t.Fatalf("Open(%q) = %x, %d, not %x", s, b, err, want)
				}
			}
		}
	}
	if opened != 256+1<<16 {
		t.Error("texts that open:", opened)
	}
}

// P16.2: each byte at each place of sealed texts: a letter makes other bytes, where it may be, and all else makes none.
func TestEachByteOfSealed(t *testing.T) {
	for _, s := range []string{"YWJj", "YWI=", "YQ==", "c291cmNlOmhhY2ttZQ==", "Zm9vYmE=", "Zm9vYmFy"} {
		for at := range len(s) {
			for n := range 256 {
				b := []byte(s)
				b[at] = byte(n)
				isRight(t, string(b))
			}
		}
	}
}

// isRight tells where what a text is opened as isn't what it is sealed of, by the chapter's words.
func isRight(t *testing.T, s string) {
	t.Helper()
	bits, k := "", 0
	for ; k < len(s) && s[k] != '='; k++ {
		value := -1
		for n := range 64 {
			if letterOf(n) == s[k] {
				value = n
			}
		}
		if value < 0 {
			isForm(t, s)
			return
		}
		figures := strconv.FormatInt(int64(value), 2)
		bits += strings.Repeat("0", 6-len(figures)) + figures
	}
	var want []byte
	for ; len(bits) >= 8; bits = bits[8:] {
		n, _ := strconv.ParseUint(bits[:8], 2, 8)
		want = append(want, byte(n))
	}
	if chapterSeal(want) != s {
		isForm(t, s)
		return
	}
	if b, err := word.Open(s); !bytes.Equal(b, want) || err != api.OK {
		t.Fatalf("Open(%q) = %x, %d, not %x", s, b, err, want)
	}
}

// P16.2: any texts of letters, and what is nearly some bytes' text.
func TestOpenTexts(t *testing.T) {
	const near = "ABYQgwIjx09+/==="
	r := rand.New(rand.NewSource(5))
	opened := 0
	for range 30000 {
		b := make([]byte, r.Intn(14))
		for i := range b {
			b[i] = near[r.Intn(len(near))]
			if i < len(b)-2 {
				b[i] = near[r.Intn(len(near)-3)]
			}
		}
		isRight(t, string(b))
		if _, err := word.Open(string(b)); err == api.OK {
			opened++
		}
	}
	if opened < 1000 || opened > 29000 {
		t.Error("texts that open:", opened)
	}
	for _, s := range texts() {
		isRight(t, s)
	}
}

// P1: with any text and any bytes each call ends, and none panics.
func TestNothingPanics(t *testing.T) {
	long := []string{strings.Repeat("=", 1<<16), strings.Repeat("A", 1<<16+1), strings.Repeat("9", 1<<16), strings.Repeat("\xe6\x97", 1<<16), strings.Repeat("/", 1<<16)}
	for _, s := range append(texts(), long...) {
		word.Fold(s)
		word.Name(s)
		word.Mount(s)
		word.Title(s)
		for _, most := range []int{math.MinInt, -1, 0, 1, 99, math.MaxInt} {
			if n := word.Number(s, most); n < -1 || n > max(most, -1) {
				t.Fatalf("Number(%q, %d) = %d", s, most, n)
			}
		}
		if b, err := word.Open(s); err != api.OK && (err != api.ErrForm || b != nil) {
			t.Fatalf("Open(%q) = %x, %d", s, b, err)
		}
		word.Seal([]byte(s))
	}
}

// The document's third rule: bytes are neither changed nor kept, what lies behind their length doesn't count, and answers share nothing.
func TestListsAreApart(t *testing.T) {
	for _, b := range lists() {
		room := append(slices.Clone(b), bytes.Repeat([]byte{0xee}, 9)...)
		s := word.Seal(room[:len(b)])
		if s != word.Seal(b) || !bytes.Equal(room[:len(b)], b) || bytes.Count(room[len(b):], []byte{0xee}) != 9 {
			t.Fatalf("%x is changed, or what lies behind it is read", b)
		}
		clear(room)
		if s != chapterSeal(b) {
			t.Fatal("the text is changed with the bytes")
		}
		one, _ := word.Open(s)
		other, _ := word.Open(s)
		clear(one[:cap(one)])
		if !bytes.Equal(other, b) {
			t.Fatal("two answers share their bytes")
		}
	}
}

// answers are those of all calls, on some texts.
func answers() []string {
	var l []string
	for _, s := range texts()[:1500] {
		b, err := word.Open(s)
		l = append(l, word.Fold(s), word.Title(s), word.Seal([]byte(s)), string(b), strconv.Itoa(int(err)))
		l = append(l, strconv.FormatBool(word.Name(s)), strconv.FormatBool(word.Mount(s)), strconv.Itoa(word.Number(s, 99)))
	}
	for _, c := range sealed {
		b, err := word.Open(c.s)
		l = append(l, string(b), strconv.Itoa(int(err)))
	}
	return l
}

// P2: an answer hangs on nothing but what the call was given: neither on calls ahead of it nor on those beside it.
func TestAnswersStayTheSame(t *testing.T) {
	want := answers()
	if !slices.Equal(answers(), want) {
		t.Error("another answer behind the first one")
	}
	var got [8][]string
	var all sync.WaitGroup
	for i := range got {
		all.Go(func() { got[i] = answers() })
	}
	all.Wait()
	for i := range got {
		if !slices.Equal(got[i], want) {
			t.Error("another answer", i)
		}
	}
}

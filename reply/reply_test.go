package reply_test

import (
	"bytes"
	"math"
	"math/rand"
	"regexp"
	"slices"
	"strconv"
	"strings"
	"sync"
	"testing"
	"unicode/utf8"

	"sideband/api"
	"sideband/reply"
	"sideband/word"
)

// The chapter's words: first lines, and which reply has which text.
var (
	failures = []string{"400 Bad Request", "401 Unauthorized", "403 Forbidden", "404 Not Found", "408 Request Timeout", "413 Too Large", "503 Unavailable"}
	ofFailed = regexp.MustCompile(`^HTTP/1\.0 (400 Bad Request|401 Unauthorized|403 Forbidden|404 Not Found|408 Request Timeout|413 Too Large|503 Unavailable)\x0d\x0aContent-Length: 0\x0d\x0a\x0d\x0a$`)
	ofSound  = regexp.MustCompile(`^HTTP/1\.0 200 OK\x0d\x0aicy-name:([^\x0d\x0a]*)\x0d\x0a\x0d\x0a$`)
	ofTitles = regexp.MustCompile(`^ICY 200 OK\x0d\x0aicy-name:([^\x0d\x0a]*)\x0d\x0aicy-metaint:([1-9][0-9]{0,4})\x0d\x0a\x0d\x0a$`)
)

// isTitle is layer 16's title of which the title is itself, without that layer.
func isTitle(s string) bool {
	if len(s) > 60 || !utf8.ValidString(s) {
		return false
	}
	return !strings.ContainsFunc(s, func(r rune) bool { return r < 32 || r == 127 || r == ';' || r == '\'' })
}

// chapterText goes through the chapter's words: a reply's text; false, if it may not be.
func chapterText(r reply.Reply) (string, bool) {
	if r.Code != 200 {
		at := slices.IndexFunc(failures, func(s string) bool { return strings.HasPrefix(s, strconv.Itoa(r.Code)+" ") })
		if at < 0 || r.Name != "" || r.Every != 0 {
			return "", false
		}
		return "HTTP/1.0 " + failures[at] + "\x0d\x0aContent-Length: 0\x0d\x0a\x0d\x0a", true
	}
	if !isTitle(r.Name) || r.Every < 0 || r.Every > 65536 {
		return "", false
	}
	if r.Every == 0 {
		return "HTTP/1.0 200 OK\x0d\x0aicy-name:" + r.Name + "\x0d\x0a\x0d\x0a", true
	}
	return "ICY 200 OK\x0d\x0aicy-name:" + r.Name + "\x0d\x0aicy-metaint:" + strconv.Itoa(r.Every) + "\x0d\x0a\x0d\x0a", true
}

// chapterRead goes through the chapter's words.
func chapterRead(s string) (reply.Reply, int, api.Errno) {
	at := strings.Index(s, "\x0d\x0a\x0d\x0a")
	if at < 0 || at+4 > 400 {
		if len(s) < 400 {
			return reply.Reply{}, 0, api.ErrCut
		}
		return reply.Reply{}, 0, api.ErrLong
	}
	text := s[:at+4]
	if found := ofFailed.FindStringSubmatch(text); found != nil {
		code, _ := strconv.Atoi(found[1][:3])
		return reply.Reply{Code: code}, len(text), api.OK
	}
	if found := ofSound.FindStringSubmatch(text); found != nil && isTitle(found[1]) {
		return reply.Reply{Code: 200, Name: found[1]}, len(text), api.OK
	}
	if found := ofTitles.FindStringSubmatch(text); found != nil && isTitle(found[1]) {
		if every, _ := strconv.Atoi(found[2]); every <= 65536 {
			return reply.Reply{Code: 200, Name: found[1], Every: every}, len(text), api.OK
		}
	}
	return reply.Reply{}, 0, api.ErrForm
}

// isRead holds what bytes are read as; the bytes stay as they are, and those behind their length don't matter.
func isRead(t *testing.T, s string, want reply.Reply, long int, err api.Errno) {
	t.Helper()
	b := append([]byte(s), "\x0d\x0a\x0d\x0a\x0d\x0a"...)
	r, n, e := reply.Read(b[:len(s)])
	if r != want || n != long || e != err {
		t.Fatalf("%q: %+v, %d, %d, not %+v, %d, %d", s, r, n, e, want, long, err)
	}
	if string(b) != s+"\x0d\x0a\x0d\x0a\x0d\x0a" {
		t.Fatalf("%q is %q", s, b)
	}
}

// isReadAsChapter holds what bytes are read as against the chapter's words.
func isReadAsChapter(t *testing.T, s string) {
	t.Helper()
	want, long, err := chapterRead(s)
	isRead(t, s, want, long, err)
}

func isNotRead(t *testing.T, s string, err api.Errno) {
	t.Helper()
	isRead(t, s, reply.Reply{}, 0, err)
	isReadAsChapter(t, s)
}

// isSaid holds that a reply may be, its text, and that the text is read as it, whatever stands behind.
func isSaid(t *testing.T, r reply.Reply, want string) {
	t.Helper()
	b, err := r.Text()
	if !r.Right() || string(b) != want || err != api.OK {
		t.Fatalf("%+v: %v, %q, %d, not %q", r, r.Right(), b, err, want)
	}
	for _, behind := range []string{"", "\x00\x01\xff", "\x0d\x0a", "\x0d\x0a\x0d\x0a", want, strings.Repeat("x", 1000)} {
		isRead(t, want+behind, r, len(want), api.OK)
	}
}

// isNotSaid holds that a reply may not be.
func isNotSaid(t *testing.T, r reply.Reply) {
	t.Helper()
	if b, err := r.Text(); r.Right() || b != nil || err != api.ErrArg {
		t.Fatalf("%+v: %v, %q, %d", r, r.Right(), b, err)
	}
}

// isAsChapter holds a reply against the chapter's words.
func isAsChapter(t *testing.T, r reply.Reply) bool {
	t.Helper()
	want, ok := chapterText(r)
	if ok {
		isSaid(t, r, want)
	} else {
		isNotSaid(t, r)
	}
	return ok
}

// P18.1: an error's code.
func TestCode(t *testing.T) {
	told := []int{200, 400, 408, 400, 400, 413, 404, 503, 403, 401}
	for e := -1000; e <= 1000; e++ {
		want := 400
		if e >= 0 && e < len(told) {
			want = told[e]
		}
		if got := reply.Code(api.Errno(e)); got != want {
			t.Errorf("%d: %d, not %d", e, got, want)
		}
	}
	for _, e := range []api.Errno{math.MinInt, math.MaxInt, 1 << 32, 1<<32 + api.ErrAuth, 1<<16 + api.ErrNone, 256 + api.ErrFull} {
		if got := reply.Code(e); got != 400 {
			t.Error(e, got)
		}
	}
	for _, c := range []struct {
		err  api.Errno
		want int
	}{{api.OK, 200}, {api.ErrAuth, 401}, {api.ErrState, 403}, {api.ErrNone, 404}, {api.ErrCut, 408}, {api.ErrLong, 413}, {api.ErrFull, 503}, {api.ErrArg, 400}, {api.ErrForm, 400}, {api.ErrSum, 400}} {
		if got := reply.Code(c.err); got != c.want || !(reply.Reply{Code: got}).Right() {
			t.Error(c.err, got)
		}
	}
}

// P18.1, P18.2, P18.3: texts of replies of each code.
func TestTexts(t *testing.T) {
	for _, c := range []struct {
		r    reply.Reply
		text string
	}{
		{reply.Reply{Code: 200}, "HTTP/1.0 200 OK\r\nicy-name:\r\n\r\n"},
		{reply.Reply{Code: 200, Name: "Radio 1"}, "HTTP/1.0 200 OK\r\nicy-name:Radio 1\r\n\r\n"},
		{reply.Reply{Code: 200, Every: 1}, "ICY 200 OK\r\nicy-name:\r\nicy-metaint:1\r\n\r\n"},
		{reply.Reply{Code: 200, Name: "Radio 1", Every: 256}, "ICY 200 OK\r\nicy-name:Radio 1\r\nicy-metaint:256\r\n\r\n"},
		{reply.Reply{Code: 200, Name: "0 32", Every: 65536}, "ICY 200 OK\r\nicy-name:0 32\r\nicy-metaint:65536\r\n\r\n"},
		{reply.Reply{Code: 200, Name: "It’s ☃", Every: 65535}, "ICY 200 OK\r\nicy-name:It’s ☃\r\nicy-metaint:65535\r\n\r\n"},
		{reply.Reply{Code: 400}, "HTTP/1.0 400 Bad Request\r\nContent-Length: 0\r\n\r\n"},
		{reply.Reply{Code: 401}, "HTTP/1.0 401 Unauthorized\r\nContent-Length: 0\r\n\r\n"},
		{reply.Reply{Code: 403}, "HTTP/1.0 403 Forbidden\r\nContent-Length: 0\r\n\r\n"},
		{reply.Reply{Code: 404}, "HTTP/1.0 404 Not Found\r\nContent-Length: 0\r\n\r\n"},
		{reply.Reply{Code: 408}, "HTTP/1.0 408 Request Timeout\r\nContent-Length: 0\r\n\r\n"},
		{reply.Reply{Code: 413}, "HTTP/1.0 413 Too Large\r\nContent-Length: 0\r\n\r\n"},
		{reply.Reply{Code: 503}, "HTTP/1.0 503 Unavailable\r\nContent-Length: 0\r\n\r\n"},
	} {
		isSaid(t, c.r, c.text)
		isAsChapter(t, c.r)
	}
}

// P18.1: of any codes the eight alone; a name, and an Every, of 200 alone.
func TestCodes(t *testing.T) {
	codes := []int{math.MinInt, math.MinInt32, math.MaxInt32, math.MaxInt, 1<<32 + 200, 1<<16 + 404, -200}
	for code := -100; code <= 1100; code++ {
		codes = append(codes, code)
	}
	right := 0
	for _, code := range codes {
		for _, r := range []reply.Reply{{}, {Name: "x"}, {Name: " "}, {Name: ";"}, {Every: 1}, {Every: -1}, {Every: 65536}, {Every: 65537}, {Name: "x", Every: 1}} {
			r.Code = code
			if isAsChapter(t, r) {
				right++
			}
		}
	}
	if want := 7 + 6; right != want {
		t.Error(right, "may be, not", want)
	}
}

// P18.1, P18.3: each Every, and those beside the bounds.
func TestEvery(t *testing.T) {
	right := 0
	for _, name := range []string{"", "Radio 1"} {
		for every := -300; every <= 66000; every++ {
			if isAsChapter(t, reply.Reply{Code: 200, Name: name, Every: every}) {
				right++
			}
		}
		for _, every := range []int{math.MinInt, math.MinInt32, math.MaxInt32, math.MaxInt, 1 << 17, 1 << 32, 1<<32 + 1, 1 << 48} {
			isNotSaid(t, reply.Reply{Code: 200, Name: name, Every: every})
		}
	}
	if right != 2*65537 {
		t.Error(right, "may be")
	}
}

// P18.1, P18.3: a name has runes that a title has, and no stray bytes.
func TestNames(t *testing.T) {
	for n := rune(0); n <= utf8.MaxRune; n++ {
		if n > 0x3000 && n%97 != 0 && n < 0xfff0 {
			continue
		}
		if n > 0x10000 && n%1009 != 0 && n < 0x10fff0 || n >= 0xd800 && n < 0xe000 {
			continue
		}
		for _, name := range []string{string(n), "a" + string(n) + "b", " " + string(n)} {
			isAsChapter(t, reply.Reply{Code: 200, Name: name})
			isAsChapter(t, reply.Reply{Code: 200, Name: name, Every: 16})
		}
	}
	for n := range 1 << 16 {
		two := string([]byte{byte(n >> 8), byte(n)})
		isAsChapter(t, reply.Reply{Code: 200, Name: two, Every: 16})
	}
	for n := range 256 {
		isAsChapter(t, reply.Reply{Code: 200, Name: string([]byte{byte(n)})})
	}
	for _, name := range []string{
		" ", "  ", " x", "x ", "\u00a0", "\ufffd", "\u0085", "\u2028", ":", "::", "icy-name:", "icy-name:icy-name:", "icy-metaint:5", "icy-name:x, icy-metaint:5", "200 OK", "HTTP/1.0 404 Not Found", "Content-Length: 0", "=", "\"x\"", "\\r\\n",
		"a;b", "It's", "\r", "\n", "\r\n", "\r\n\r\n", "x\r\nicy-metaint:5", "x\r\n\r\n", "\t", "\x00", "\x7f", "\x80", "\xff", "a\xffb", "\xed\xa0\x80", "\xc0\x80", "é"[:1], "☃"[:2], "\xf4\x90\x80\x80",
	} {
		isAsChapter(t, reply.Reply{Code: 200, Name: name})
		isAsChapter(t, reply.Reply{Code: 200, Name: name, Every: 65536})
	}
}

// P18.1, P18.3: a name has 60 bytes at most, of runes of each width.
func TestLongNames(t *testing.T) {
	for _, one := range []string{"x", " ", "é", "☃", "𝄞", "\ufffd"} {
		for ahead := range 4 {
			for long := range 70 {
				name := strings.Repeat("y", ahead) + strings.Repeat(one, long)
				if ok := isAsChapter(t, reply.Reply{Code: 200, Name: name, Every: 65536}); ok != (len(name) <= 60) {
					t.Fatalf("%q, of %d bytes: %v", name, len(name), ok)
				}
			}
		}
	}
	isNotSaid(t, reply.Reply{Code: 200, Name: strings.Repeat("x", 100000)})
	isNotSaid(t, reply.Reply{Code: 200, Name: strings.Repeat("\xff", 100000)})
}

// said are some replies' texts.
func said() []string {
	var l []string
	for _, r := range []reply.Reply{{Code: 200}, {Code: 200, Name: "Radio 1"}, {Code: 200, Name: "é☃", Every: 65536}, {Code: 200, Every: 1}, {Code: 200, Name: strings.Repeat("x", 60), Every: 10000}, {Code: 400}, {Code: 401}, {Code: 403}, {Code: 404}, {Code: 408}, {Code: 413}, {Code: 503}} {
		text, _ := chapterText(r)
		l = append(l, text)
	}
	return l
}

// P18.2: what isn't whole yet is cut, from none of its bytes on, till there are 400: then it's too long.
func TestCut(t *testing.T) {
	isNotRead(t, "", api.ErrCut)
	if r, n, err := reply.Read(nil); r != (reply.Reply{}) || n != 0 || err != api.ErrCut {
		t.Error(r, n, err)
	}
	for _, s := range said() {
		for long := range len(s) {
			isNotRead(t, s[:long], api.ErrCut)
			behind := strings.Repeat("x", 400-long)
			isNotRead(t, s[:long]+behind[1:], api.ErrCut)
			isNotRead(t, s[:long]+behind, api.ErrLong)
			isNotRead(t, s[:long]+behind+s, api.ErrLong)
		}
	}
	for _, one := range []string{"x", "\x00", "\r", "\n", "\xff", "\n\r", "\r\n\n", "\r\n\r", "\r\r\n", "x\r\n"} {
		for long := range 1000 {
			s := strings.Repeat(one, 1000)[:long]
			if strings.Contains(s, "\r\n\r\n") {
				continue
			}
			err := api.ErrCut
			if long >= 400 {
				err = api.ErrLong
			}
			isNotRead(t, s, err)
		}
	}
}

// P18.2: the first end, whatever stands ahead of it, counts up to 400 bytes, and not beyond.
func TestEnds(t *testing.T) {
	for long := 4; long < 1000; long++ {
		s := strings.Repeat("x", long-4) + "\r\n\r\n"
		err := api.ErrForm
		if long > 400 {
			err = api.ErrLong
		}
		for _, behind := range []string{"", "x", "\r\n\r\n", said()[0], strings.Repeat("x", 500)} {
			isNotRead(t, s+behind, err)
			if long >= 6 {
				isNotRead(t, "\r\n"+s[2:]+behind, err)
			}
		}
	}
	for _, s := range said() {
		isNotRead(t, "\r\n\r\n"+s, api.ErrForm)
		isNotRead(t, "\r\n"+s, api.ErrForm)
		isNotRead(t, "\n"+s, api.ErrForm)
		isNotRead(t, " "+s, api.ErrForm)
		isNotRead(t, "x\r\n\r\n"+s, api.ErrForm)
		isNotRead(t, strings.Repeat("x", 400)+s, api.ErrLong)
		isNotRead(t, strings.ReplaceAll(s, "\r\n", "\n"), api.ErrCut)
		isNotRead(t, strings.ReplaceAll(s, "\r\n", "\r"), api.ErrCut)
		isNotRead(t, strings.ReplaceAll(s, "\r\n", "\n\r"), api.ErrCut)
		isNotRead(t, strings.ReplaceAll(s, "\r\n", "\r\r\n"), api.ErrCut)
		isNotRead(t, strings.ReplaceAll(s, "\r\n", "\r\n\r\n"), api.ErrForm)
		isNotRead(t, strings.Replace(s, "\r\n", "\n", 1), api.ErrForm)
		isNotRead(t, strings.Replace(s, "\r\n", "\r\r\n", 1), api.ErrForm)
	}
}

// P18.2: texts that are nearly a reply's.
func TestNoReplies(t *testing.T) {
	for _, s := range []string{
		"", "x", " ", "HTTP/1.0", "ICY", "HTTP/1.0 ", "ICY 200", "HTTP/1.0 200", "HTTP/1.0 200 ", "200 OK", " 200 OK", "404", " 404 ",
		"HTTP/1.0 200 OK", "ICY 200 OK", "HTTP/1.0 404 Not Found", // without their headers
		"HTTP/1.0 200 OK\r\nContent-Length: 0", "ICY 200 OK\r\nContent-Length: 0", "HTTP/1.0 404 Not Found\r\nicy-name:", "ICY 404 Not Found\r\nicy-name:\r\nicy-metaint:16", "ICY 404 Not Found\r\nContent-Length: 0",
		"ICY 200 OK\r\nicy-name:", "ICY 200 OK\r\nicy-name:x", "HTTP/1.0 200 OK\r\nicy-name:x\r\nicy-metaint:16", "HTTP/1.0 200 OK\r\nicy-name:x\r\nicy-metaint:0", "ICY 200 OK\r\nicy-metaint:16", "ICY 200 OK\r\nicy-metaint:16\r\nicy-name:x", "HTTP/1.0 200 OK\r\nicy-metaint:16",
		"HTTP/1.1 200 OK\r\nicy-name:x", "http/1.0 200 OK\r\nicy-name:x", "ICE/1.0 200 OK\r\nicy-name:x", "icy 200 OK\r\nicy-name:x\r\nicy-metaint:16", "200 OK\r\nicy-name:x", " 200 OK\r\nicy-name:x",
		"HTTP/1.0 200 ok\r\nicy-name:x", "HTTP/1.0 200 OK \r\nicy-name:x", "HTTP/1.0  200 OK\r\nicy-name:x", "HTTP/1.0 200  OK\r\nicy-name:x", "HTTP/1.0 200\r\nicy-name:x", "HTTP/1.0 200 \r\nicy-name:x", "HTTP/1.0\t200 OK\r\nicy-name:x", "HTTP/1.0 0200 OK\r\nicy-name:x", "HTTP/1.0 +200 OK\r\nicy-name:x", "HTTP/1.0 200 Okay\r\nicy-name:x", "HTTP/1.0 200.0 OK\r\nicy-name:x", "HTTP/1.0 -200 OK\r\nicy-name:x", "HTTP/1.0 201 OK\r\nicy-name:x", "HTTP/1.0 4294967496 OK\r\nicy-name:x", "HTTP/1.0 18446744073709551816 OK\r\nicy-name:x",
		"HTTP/1.0 200 OK\r\nicy-name: x;", "HTTP/1.0 200 OK\r\nicy-name:It's", "HTTP/1.0 200 OK\r\nicy-name:\t", "HTTP/1.0 200 OK\r\nicy-name:\xff", "HTTP/1.0 200 OK\r\nicy-name:\x00", "HTTP/1.0 200 OK\r\nicy-name:\r", "HTTP/1.0 200 OK\r\nicy-name:\n", "HTTP/1.0 200 OK\r\nicy-name:x\r", "HTTP/1.0 200 OK\r\nicy-name:\x7f", "HTTP/1.0 200 OK\r\nicy-name:" + strings.Repeat("x", 61), "HTTP/1.0 200 OK\r\nicy-name:" + strings.Repeat("x", 300), "HTTP/1.0 200 OK\r\nicy-name:" + strings.Repeat("é", 31),
		"HTTP/1.0 200 OK\r\nIcy-Name:x", "HTTP/1.0 200 OK\r\nicy-name", "HTTP/1.0 200 OK\r\nicy-name=x", "HTTP/1.0 200 OK\r\nicy-name :x", "HTTP/1.0 200 OK\r\n icy-name:x", "HTTP/1.0 200 OK\r\nx: y\r\nicy-name:x", "HTTP/1.0 200 OK\r\nicy-name:x\r\nx: y", "HTTP/1.0 200 OK\r\nicy-name:x\r\nicy-name:x", "HTTP/1.0 200 OK\r\nicy-name:\r\nicy-name:", "HTTP/1.0 200 OK\r\nicy-name:x\r\nContent-Length: 0", "HTTP/1.0 200 OK\nicy-name:x",
		"ICY 200 OK\r\nicy-name:x\r\nIcy-MetaInt:16", "ICY 200 OK\r\nicy-name:x\r\nicy-metaint", "ICY 200 OK\r\nicy-name:x\r\nicy-metaint:16\r\nicy-metaint:16", "ICY 200 OK\r\nicy-name:x\r\nicy-metaint:16\r\nx: y", "ICY 200 OK\r\nicy-name:x\r\nx: y\r\nicy-metaint:16", "ICY 200 OK\r\nicy-name:x\r\nicy-metaint:16\r\nContent-Length: 0",
		"HTTP/1.0 404 not found\r\nContent-Length: 0", "HTTP/1.0 404 NotFound\r\nContent-Length: 0", "HTTP/1.0 404 Not  Found\r\nContent-Length: 0", "HTTP/1.0 404 Not Found \r\nContent-Length: 0", "HTTP/1.0 404 Not\r\nContent-Length: 0", "HTTP/1.0 404 Forbidden\r\nContent-Length: 0", "HTTP/1.0 403 Not Found\r\nContent-Length: 0", "HTTP/1.0 405 Not Found\r\nContent-Length: 0", "HTTP/1.0 503 Service Unavailable\r\nContent-Length: 0", "HTTP/1.0 500 Internal Server Error\r\nContent-Length: 0", "HTTP/1.0 500 \r\nContent-Length: 0", "HTTP/1.0 0 \r\nContent-Length: 0", "HTTP/1.0 -1 \r\nContent-Length: 0", "HTTP/1.0 413 Payload Too Large\r\nContent-Length: 0",
		"HTTP/1.0 404 Not Found\r\nContent-Length:0", "HTTP/1.0 404 Not Found\r\nContent-Length: 00", "HTTP/1.0 404 Not Found\r\nContent-Length: 1", "HTTP/1.0 404 Not Found\r\nContent-Length: 0 ", "HTTP/1.0 404 Not Found\r\ncontent-length: 0", "HTTP/1.0 404 Not Found\r\nContent-Length:  0", "HTTP/1.0 404 Not Found\r\nContent-Length: 0\r\nContent-Length: 0", "HTTP/1.0 404 Not Found\r\nContent-Length: 0\r\nicy-name:", "HTTP/1.0 404 Not Found\r\nicy-name:\r\nContent-Length: 0", "HTTP/1.0 404 Not Found\r\nContent-Length: 0\r\nicy-metaint:0",
	} {
		isNotRead(t, s+"\r\n\r\n", api.ErrForm)
		isNotRead(t, s+"\r\n\r\n"+said()[0], api.ErrForm)
	}
	for _, every := range []string{"", "0", "00", "01", "016", "+16", "-16", "-0", "16.0", " 16", "16 ", "\t16", "1 6", "1_6", "0x10", "1e2", "65537", "65536 ", "065536", "99999", "100000", "655360", "4294967312", "18446744073709551632", strings.Repeat("1", 100), "x", "１６", "\xff", "16\r", "16\n"} {
		isNotRead(t, "ICY 200 OK\r\nicy-name:x\r\nicy-metaint:"+every+"\r\n\r\n", api.ErrForm)
	}
}

// P18.2: each byte in the place of each one of some texts, each one left out, and each one put in.
func TestEachByte(t *testing.T) {
	for _, s := range said() {
		for at := range len(s) {
			isReadAsChapter(t, s[:at]+s[at+1:])
			isReadAsChapter(t, s[:at]+s[at+1:]+"\r\n\r\n")
			for n := range 256 {
				one := string([]byte{byte(n)})
				isReadAsChapter(t, s[:at]+one+s[at+1:]+"\r\n\r\n")
				isReadAsChapter(t, s[:at]+one+s[at:])
			}
		}
	}
}

// texts are of pieces of replies, the same each time: some right, some wrong, some cut, some too long.
func texts() []string {
	firsts := []string{"ICY 200 OK", "HTTP/1.0 200 OK", "HTTP/1.0 404 Not Found", "ICY 200 OK", "HTTP/1.0 503 Unavailable", "HTTP/1.0 200", "ICY 404 Not Found", "HTTP/1.0 500 Oh", "HTTP/1.1 200 OK", ""}
	headers := []string{"icy-name:", "icy-metaint:", "Content-Length: ", "icy-name:", "x: ", "icy-name: ", ""}
	values := []string{"", "0", "16", "Radio 1", "65536", "é☃", "65537", "016", "a;b", "\xff", strings.Repeat("x", 60), strings.Repeat("x", 61), strings.Repeat("x", 200)}
	ends := []string{"\r\n", "\r\n", "\r\n", "\n", "\r", "\r\n\r\n", ""}
	r := rand.New(rand.NewSource(1))
	one := func(l []string, mostly int) string { // one of the first ones, mostly
		if r.Intn(10) > 0 {
			l = l[:mostly]
		}
		return l[r.Intn(len(l))]
	}
	var l []string
	for range 50000 {
		s := one(firsts, 5) + one(ends, 3)
		for range r.Intn(4) {
			s += one(headers, 3) + one(values, 6) + one(ends, 3)
		}
		l = append(l, s+one(ends, 3)+strings.Repeat("y", r.Intn(2)*r.Intn(600)))
	}
	for range 2000 {
		b := make([]byte, r.Intn(700))
		r.Read(b)
		l = append(l, string(b), said()[r.Intn(len(said()))]+string(b))
	}
	return l
}

// P18.2: any texts.
func TestAnyTexts(t *testing.T) {
	count := map[api.Errno]int{}
	for _, s := range texts() {
		want, long, err := chapterRead(s)
		isRead(t, s, want, long, err)
		count[err]++
	}
	for _, err := range []api.Errno{api.OK, api.ErrCut, api.ErrLong, api.ErrForm} {
		if count[err] < 1000 {
			t.Error("texts of", err, "are few:", count[err])
		}
	}
}

// P18.3: any replies' texts are read as them; each title may be a name.
func TestAnyReplies(t *testing.T) {
	r := rand.New(rand.NewSource(2))
	runes := []rune("abc XYZ09:-;'\r\n\t\x00\x7f\u0080éß☃’\ufffd𝄞\u2028")
	for range 50000 {
		var s strings.Builder
		for range r.Intn(40) {
			s.WriteRune(runes[r.Intn(len(runes))])
			if r.Intn(50) == 0 {
				s.WriteByte(byte(r.Intn(256)))
			}
		}
		isAsChapter(t, reply.Reply{Code: 200, Name: s.String(), Every: r.Intn(65537)})
		titled := reply.Reply{Code: 200, Name: word.Title(s.String()), Every: r.Intn(2) * r.Intn(65537)}
		if !isAsChapter(t, titled) {
			t.Fatalf("%+v may not be", titled)
		}
	}
}

// The chapter's number; no reply has as many bytes.
func TestMost(t *testing.T) {
	b, err := reply.Reply{Code: 200, Name: strings.Repeat("x", 60), Every: 65536}.Text()
	if reply.Most != 400 || len(b) != 104 || err != api.OK {
		t.Error(reply.Most, len(b), err)
	}
}

// P1: of any replies and bytes each call ends, and none panics.
func TestNothingPanics(t *testing.T) {
	for _, s := range texts() {
		for _, code := range []int{200, 404, math.MinInt, math.MaxInt, 0} {
			r := reply.Reply{Code: code, Name: s, Every: len(s) - 100}
			if b, err := r.Text(); (err == api.OK) != r.Right() || (b == nil) == r.Right() {
				t.Fatalf("%+v: %q, %d", r, b, err)
			}
			reply.Code(api.Errno(code))
		}
		reply.Read([]byte(s))
	}
	reply.Read(make([]byte, 1<<24))
	reply.Read(bytes.Repeat([]byte("\r\n\r"), 1<<22))
}

// What is answered is one's own: what is done to it, or to what was handed in, changes nothing else.
func TestAnswersAreApart(t *testing.T) {
	r := reply.Reply{Code: 200, Name: "Radio 1", Every: 256}
	const text = "ICY 200 OK\r\nicy-name:Radio 1\r\nicy-metaint:256\r\n\r\n"
	one, _ := r.Text()
	other, _ := r.Text()
	got, n, err := reply.Read(one)
	for at := range one {
		one[at] = 'x'
	}
	_ = append(one, "yyyyyyyy"...)
	if string(other) != text || got != r || n != len(text) || err != api.OK {
		t.Errorf("%q, %+v, %d, %d", other, got, n, err)
	}
	if again, _ := r.Text(); string(again) != text {
		t.Errorf("%q", again)
	}
}

// answers are those of the calls for some texts, and for replies of them.
func answers() []string {
	var l []string
	for n, s := range texts()[:5000] {
		r, long, err := reply.Read([]byte(s))
		l = append(l, strconv.Itoa(r.Code), r.Name, strconv.Itoa(r.Every), strconv.Itoa(long), strconv.Itoa(int(err)))
		r = reply.Reply{Code: 200, Name: s[:min(len(s), n%70)], Every: n}
		text, err := r.Text()
		l = append(l, string(text), strconv.Itoa(int(err)), strconv.FormatBool(r.Right()), strconv.Itoa(reply.Code(api.Errno(n%12))))
	}
	return l
}

// P2: the same calls answer the same, also where others call beside them.
func TestAnswersStayTheSame(t *testing.T) {
	want := answers()
	var all sync.WaitGroup
	for range 8 {
		all.Go(func() {
			if !slices.Equal(answers(), want) {
				t.Error("answers are others")
			}
		})
	}
	all.Wait()
}

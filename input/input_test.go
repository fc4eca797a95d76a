package input

import (
	"bytes"
	"strings"
	"testing"
	"unicode/utf8"
)

type sample struct {
	name string
	in   string
	want string
}

func check(t *testing.T, l []sample) {
	t.Helper()
	for _, s := range l {
		if got := Decode([]byte(s.in)); got != s.want {
			t.Errorf("%s: Decode(% x) = %+q, want %+q", s.name, s.in, got, s.want)
		}
	}
}

func TestDecodeOrdinary(t *testing.T) {
	check(t, []sample{
		{"nothing", "", ""},
		{"letters", "abc", "abc"},
		{"a byte 0", "a\x00b", "a\x00b"},
		{"7f", "\x7f", "\x7f"},
		{"two bytes", "\xc3\xa9", "\u00e9"},
		{"three bytes", "\xe2\x82\xac", "\u20ac"},
		{"four bytes", "\xf0\x9f\x98\x80", "\U0001f600"},
		{"all sizes", "a\xc3\xa9\xe2\x82\xac\xf0\x9f\x98\x80z", "a\u00e9\u20ac\U0001f600z"},
		{"the chapter's example", "a\xc3b\r\n", "a\ufffdb\n"},
		{"U+FFFD as it is written", "\xef\xbf\xbd", "\ufffd"},
	})
	if got := Decode(nil); got != "" {
		t.Errorf("Decode(nil) = %+q", got)
	}
}

func TestDecodeMark(t *testing.T) {
	check(t, []sample{
		{"alone", "\xef\xbb\xbf", ""},
		{"ahead of a text", "\xef\xbb\xbfx", "x"},
		{"only one", "\xef\xbb\xbf\xef\xbb\xbfx", "\ufeffx"},
		{"not at the beginning", "x\xef\xbb\xbf", "x\ufeff"},
		{"behind 0a", "\n\xef\xbb\xbf", "\n\ufeff"},
		{"behind 0d", "\r\xef\xbb\xbf", "\n\ufeff"},
		{"behind a byte 0", "\x00\xef\xbb\xbf", "\x00\ufeff"},
		{"behind a wrong byte", "\xff\xef\xbb\xbf", "\ufffd\ufeff"},
		{"behind one that breaks off", "\xef\xef\xbb\xbf", "\ufffd\ufeff"},
		{"one byte of it", "\xef", "\ufffd"},
		{"two bytes of it", "\xef\xbb", "\ufffd"},
		{"two bytes of it, and a letter", "\xef\xbbx", "\ufffdx"},
		{"another last byte", "\xef\xbb\xbe", "\ufefe"},
		{"other marks", "\xfe\xff\xff\xfe", "\ufffd\ufffd\ufffd\ufffd"},
		{"ahead of 0d 0a", "\xef\xbb\xbf\r\n", "\n"},
		{"ahead of one that breaks off", "\xef\xbb\xbf\xef\xbb", "\ufffd"},
	})
}

func TestDecodeSecondByte(t *testing.T) {
	check(t, []sample{
		{"c2, least", "\xc2\x80", "\u0080"},
		{"c2, below", "\xc2\x7f", "\ufffd\x7f"},
		{"df, greatest", "\xdf\xbf", "\u07ff"},
		{"df, above", "\xdf\xc0", "\ufffd\ufffd"},
		{"e0, least", "\xe0\xa0\x80", "\u0800"},
		{"e0, below", "\xe0\x9f\x80", "\ufffd\ufffd\ufffd"},
		{"e1, least", "\xe1\x80\x80", "\u1000"},
		{"ec, greatest", "\xec\xbf\xbf", "\ucfff"},
		{"ed, greatest", "\xed\x9f\xbf", "\ud7ff"},
		{"ed, above", "\xed\xa0\x80", "\ufffd\ufffd\ufffd"},
		{"ee, least", "\xee\x80\x80", "\ue000"},
		{"ef, greatest", "\xef\xbf\xbf", "\uffff"},
		{"f0, least", "\xf0\x90\x80\x80", "\U00010000"},
		{"f0, below", "\xf0\x8f\x80\x80", "\ufffd\ufffd\ufffd\ufffd"},
		{"f1, least", "\xf1\x80\x80\x80", "\U00040000"},
		{"f3, greatest", "\xf3\xbf\xbf\xbf", "\U000fffff"},
		{"f4, greatest", "\xf4\x8f\xbf\xbf", "\U0010ffff"},
		{"f4, above", "\xf4\x90\x80\x80", "\ufffd\ufffd\ufffd\ufffd"},
		{"the third byte is not narrowed behind e0", "\xe0\xa0\x9f", "\u081f"},
		{"nor behind ed", "\xed\x80\xbf", "\ud03f"},
		{"nor behind f0", "\xf0\x90\x8f\x80", "\U000103c0"},
		{"nor behind f4", "\xf4\x80\x90\xbf", "\U0010043f"},
	})
}

func TestDecodeWrongBytes(t *testing.T) {
	for c := 0x80; c <= 0xff; c++ {
		if c >= 0xc2 && c <= 0xf4 {
			continue
		}
		b := []byte{'a', byte(c), byte(c), 'b'}
		if got := Decode(b); got != "a\ufffd\ufffdb" {
			t.Errorf("Decode(% x) = %+q", b, got)
		}
	}
	check(t, []sample{
		{"c0 80", "\xc0\x80", "\ufffd\ufffd"},
		{"c1 bf", "\xc1\xbf", "\ufffd\ufffd"},
		{"f5 80 80 80", "\xf5\x80\x80\x80", "\ufffd\ufffd\ufffd\ufffd"},
		{"one too many", "\xc3\xa9\xa9", "\u00e9\ufffd"},
	})
}

func TestDecodeBreaksOff(t *testing.T) {
	check(t, []sample{
		{"one of two, end", "\xc3", "\ufffd"},
		{"one of three, end", "\xe2", "\ufffd"},
		{"two of three, end", "\xe2\x82", "\ufffd"},
		{"one of four, end", "\xf0", "\ufffd"},
		{"two of four, end", "\xf0\x9f", "\ufffd"},
		{"three of four, end", "\xf0\x9f\x98", "\ufffd"},
		{"one of two, a letter", "\xc3a", "\ufffda"},
		{"two of three, a letter", "\xe2\x82a", "\ufffda"},
		{"three of four, a letter", "\xf0\x9f\x98a", "\ufffda"},
		{"a character behind", "\xf0\x9f\x98\xc3\xa9", "\ufffd\u00e9"},
		{"again and again", "\xe2\xe2\x82\xe2\x82\xac", "\ufffd\ufffd\u20ac"},
		{"0d 0a behind", "\xe2\x82\r\n", "\ufffd\n"},
		{"a wrong byte behind", "\xe2\x82\xff", "\ufffd\ufffd"},
		{"a byte 0 behind", "\xf4\x8f\x00", "\ufffd\x00"},
	})
}

func TestDecodeReturns(t *testing.T) {
	check(t, []sample{
		{"0d", "\r", "\n"},
		{"0a", "\n", "\n"},
		{"0d 0a", "\r\n", "\n"},
		{"0a 0d", "\n\r", "\n\n"},
		{"0d 0d", "\r\r", "\n\n"},
		{"0d 0d 0a", "\r\r\n", "\n\n"},
		{"0d 0a 0a", "\r\n\n", "\n\n"},
		{"0d 0a 0d 0a", "\r\n\r\n", "\n\n"},
		{"0d between letters", "a\rb", "a\nb"},
		{"0d and a letter ahead of 0a", "\ra\n", "\na\n"},
		{"0d and what breaks off ahead of 0a", "\r\xc3\n", "\n\ufffd\n"},
		{"0d and a wrong byte ahead of 0a", "\r\xff\n", "\n\ufffd\n"},
		{"0d and a mark ahead of 0a", "\r\xef\xbb\xbf\n", "\n\ufeff\n"},
		{"other ends of lines stay", "\x0b\x0c\xc2\x85\xe2\x80\xa8", "\x0b\x0c\u0085\u2028"},
	})
}

func TestDecodeEachCharacter(t *testing.T) {
	for r := rune(0); r <= utf8.MaxRune; r++ {
		if !utf8.ValidRune(r) || r == '\r' {
			continue
		}
		if s := "a" + string(r) + "b"; Decode([]byte(s)) != s {
			t.Fatalf("Decode(% x) = %+q", s, Decode([]byte(s)))
		}
	}
}

// edges are the bytes at which the chapter's rules change, from both sides.
var edges = []byte{0x00, '\n', '\r', 'a', 0x7f, 0x80, 0x8f, 0x90, 0x9f, 0xa0, 0xbb, 0xbf, 0xc0, 0xc1, 0xc2, 0xdf, 0xe0, 0xe1, 0xec, 0xed, 0xee, 0xef, 0xf0, 0xf1, 0xf3, 0xf4, 0xf5, 0xff}

// each calls f with all lists of n of the edges.
func each(n int, f func([]byte)) {
	b := make([]byte, n)
	var fill func(int)
	fill = func(i int) {
		if i == n {
			f(b)
			return
		}
		for _, c := range edges {
			b[i] = c
			fill(i + 1)
		}
	}
	fill(0)
}

func TestDecodeAllEdges(t *testing.T) {
	for n := range 5 {
		each(n, func(b []byte) {
			if got, want := Decode(b), expected(b); got != want {
				t.Fatalf("Decode(% x) = %+q, want %+q", b, got, want)
			}
		})
	}
}

func TestDecodeAllPairs(t *testing.T) {
	for i := range 1 << 16 {
		b := []byte{byte(i >> 8), byte(i), 0x80, 0x80}
		if got, want := Decode(b), expected(b); got != want {
			t.Fatalf("Decode(% x) = %+q, want %+q", b, got, want)
		}
	}
}

func TestDecodeLong(t *testing.T) {
	const n = 200000
	for _, s := range []sample{
		{"letters", strings.Repeat("a", n), strings.Repeat("a", n)},
		{"wrong bytes", strings.Repeat("\xff", n), strings.Repeat("\ufffd", n)},
		{"what breaks off", strings.Repeat("\xf0\x9f\x98", n), strings.Repeat("\ufffd", n)},
		{"0d", strings.Repeat("\r", n), strings.Repeat("\n", n)},
		{"marks", strings.Repeat("\xef\xbb\xbf", n), strings.Repeat("\ufeff", n-1)},
	} {
		if got := Decode([]byte(s.in)); got != s.want {
			t.Errorf("%s: %d bytes, want %d", s.name, len(got), len(s.want))
		}
	}
}

func TestNewHasNothing(t *testing.T) {
	d := New()
	if d == nil {
		t.Fatal("New() = nil")
	}
	if got := d.Finish(); got != "" {
		t.Errorf("Finish() = %+q", got)
	}
	d.Feed(nil)
	d.Feed([]byte{})
	if got := d.Finish(); got != "" {
		t.Errorf("Finish() behind nothing = %+q", got)
	}
}

// feedCut feeds b in parts: bit i of cuts says whether one ends behind byte i. Where ask says so,
// it holds the text between against that of all that came.
func feedCut(t *testing.T, b []byte, cuts int, ask bool) string {
	t.Helper()
	d := New()
	from := 0
	for i := range b {
		if cuts>>i&1 == 0 {
			continue
		}
		d.Feed(b[from : i+1])
		from = i + 1
		if !ask {
			continue
		}
		if got, want := d.Finish(), expected(b[:from]); got != want {
			t.Fatalf("% x cut by %b: %+q behind %d bytes, want %+q", b, cuts, got, from, want)
		}
	}
	d.Feed(b[from:])
	return d.Finish()
}

func checkCuts(t *testing.T, b []byte) {
	t.Helper()
	want := expected(b)
	for cuts := range 1 << len(b) {
		for _, ask := range []bool{false, true} {
			if got := feedCut(t, b, cuts, ask); got != want {
				t.Fatalf("% x cut by %b (asked between: %v): %+q, want %+q", b, cuts, ask, got, want)
			}
		}
	}
}

func TestFeedAllEdges(t *testing.T) {
	for n := range 4 {
		each(n, func(b []byte) { checkCuts(t, b) })
	}
}

func TestFeedAnyCut(t *testing.T) {
	for _, s := range []string{
		"a\xc3b\r\n",
		"\xef\xbb\xbf\xef\xbb\xbf\r\n\r\r\n",
		"\xef\xbb\xef\xbb\xbf",
		"\xf0\x9f\x98\x80\xe2\x82\xac\xc3\xa9",
		"\xf0\x9f\x98\xe2\x82\xc3\r\r\n",
		"\r\xef\xbb\xbf\n\xff\r\n",
		"\xf4\x90\xed\xa0\xe0\x9f\xf0\x8f",
	} {
		checkCuts(t, []byte(s))
	}
}

func TestFinishAgain(t *testing.T) {
	d := New()
	for _, p := range []struct{ in, want string }{
		{"\xef", "\ufffd"},
		{"\xbb", "\ufffd"},
		{"\xbf", ""},
		{"\xef\xbb", "\ufffd"},
		{"\xbf", "\ufeff"},
		{"\r", "\ufeff\n"},
		{"", "\ufeff\n"},
		{"\n", "\ufeff\n"},
		{"\n", "\ufeff\n\n"},
		{"\xf0\x9f", "\ufeff\n\n\ufffd"},
		{"\x98", "\ufeff\n\n\ufffd"},
		{"\x80", "\ufeff\n\n\U0001f600"},
		{"\xc3", "\ufeff\n\n\U0001f600\ufffd"},
		{"x", "\ufeff\n\n\U0001f600\ufffdx"},
	} {
		d.Feed([]byte(p.in))
		for range 3 {
			if got := d.Finish(); got != p.want {
				t.Fatalf("behind % x: %+q, want %+q", p.in, got, p.want)
			}
		}
	}
}

func TestFinishIsNotChangedByMore(t *testing.T) {
	d := New()
	d.Feed([]byte("ab\xc3"))
	one := d.Finish()
	d.Feed([]byte("\xa9cd"))
	if one != "ab\ufffd" {
		t.Errorf("the first text is %+q now", one)
	}
	if got := d.Finish(); got != "ab\u00e9cd" {
		t.Errorf("Finish() = %+q", got)
	}
}

func TestBytesAreNotKept(t *testing.T) {
	d := New()
	b := []byte("a\xe2\x82")
	d.Feed(b)
	clear(b)
	d.Feed([]byte("\xac"))
	if got := d.Finish(); got != "a\u20ac" {
		t.Errorf("Finish() = %+q", got)
	}
	b = []byte("a\xc3")
	s := Decode(b)
	clear(b)
	if s != "a\ufffd" {
		t.Errorf("the text is %+q now", s)
	}
}

func TestBytesAreNotChanged(t *testing.T) {
	const all = "\xef\xbb\xbf\xe2\x82\r\n\xac\n\xa9"
	for n := range len(all) + 1 {
		b := []byte(all)
		if got, want := Decode(b[:n]), expected([]byte(all[:n])); got != want {
			t.Errorf("of %d bytes: %+q, want %+q", n, got, want)
		}
		d := New()
		d.Feed(b[:n])
		if got, want := d.Finish(), expected([]byte(all[:n])); got != want {
			t.Errorf("of %d bytes that are fed: %+q, want %+q", n, got, want)
		}
		if !bytes.Equal(b, []byte(all)) {
			t.Fatalf("of %d bytes: % x is left", n, b)
		}
	}
}

func TestDecodersAreApart(t *testing.T) {
	d, e := New(), New()
	d.Feed([]byte("\xe2\x82"))
	e.Feed([]byte("\xac\r"))
	d.Feed([]byte("\xac\r"))
	e.Feed([]byte("x"))
	d.Feed([]byte("\n"))
	if got := d.Finish(); got != "\u20ac\n" {
		t.Errorf("the first: %+q", got)
	}
	if got := e.Finish(); got != "\ufffd\nx" {
		t.Errorf("the second: %+q", got)
	}
}

func FuzzFeed(f *testing.F) {
	f.Add([]byte("a\xc3b\r\n"), 2)
	f.Add([]byte("\xef\xbb\xbfx"), 1)
	f.Add([]byte("\xf0\x9f\x98\x80\xf4\x90"), 3)
	f.Fuzz(func(t *testing.T, b []byte, size int) {
		want := expected(b)
		if got := Decode(b); got != want {
			t.Fatalf("Decode(% x) = %+q, want %+q", b, got, want)
		}
		d := New()
		step := max(1, size)
		for from := 0; from < len(b); from += min(step, len(b)-from) {
			d.Feed(b[from : from+min(step, len(b)-from)])
			d.Finish()
		}
		if got := d.Finish(); got != want {
			t.Fatalf("% x in parts of %d: %+q, want %+q", b, step, got, want)
		}
	})
}

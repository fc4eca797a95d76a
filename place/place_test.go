package place

import (
	"math"
	"strings"
	"testing"
)

func TestAt(t *testing.T) {
	for _, c := range []struct {
		name         string
		s            string
		i            int
		line, column int
	}{
		{"the chapter's example", "a\nbc", 3, 2, 2},
		{"nothing", "", 0, 1, 1},
		{"nothing, below", "", -1, 1, 1},
		{"nothing, above", "", 1, 1, 1},
		{"the beginning", "abc", 0, 1, 1},
		{"amid", "abc", 2, 1, 3},
		{"the end", "abc", 3, 1, 4},
		{"above the end", "abc", 4, 1, 4},
		{"far above the end", "a\nbc", math.MaxInt, 2, 3},
		{"below 0", "abc", -1, 1, 1},
		{"far below 0", "\nabc", math.MinInt, 1, 1},
		{"at 0a", "a\nb", 1, 1, 2},
		{"behind 0a", "a\nb", 2, 2, 1},
		{"behind the last 0a", "a\n", 2, 2, 1},
		{"0a at the beginning", "\n", 0, 1, 1},
		{"behind that", "\n", 1, 2, 1},
		{"lines without anything", "\n\n\n", 3, 4, 1},
		{"the last line alone has columns", "abc\nde\nf", 8, 3, 2},
		{"0d is a character", "a\r\nb", 2, 1, 3},
		{"other ends of lines are characters", "\v\f\u0085\u2028x", 8, 1, 6},
		{"a tab is one character", "\tx", 1, 1, 2},
		{"a byte 0 is a character", "\x00x", 1, 1, 2},
		{"ahead of two bytes", "\u00e9x", 0, 1, 1},
		{"amid two bytes", "\u00e9x", 1, 1, 2},
		{"behind two bytes", "\u00e9x", 2, 1, 2},
		{"behind three bytes", "\u20acx", 3, 1, 2},
		{"behind four bytes", "\U0001f600x", 4, 1, 2},
		{"behind those and one more", "\U0001f600x", 5, 1, 3},
		{"two bytes behind 0a", "a\n\u00e9x", 4, 2, 2},
		{"7f begins a character", "\x7f", 1, 1, 2},
		{"80 begins none", "\x80", 1, 1, 1},
		{"bf begins none", "\xbf", 1, 1, 1},
		{"c0 begins one", "\xc0", 1, 1, 2},
		{"ff begins one", "\xff", 1, 1, 2},
		{"80 behind 0a begins none", "a\n\x80", 3, 2, 1},
		{"many of 80 to bf", "a\x80\x81\xbe\xbf", 5, 1, 2},
	} {
		if line, column := At(c.s, c.i); line != c.line || column != c.column {
			t.Errorf("%s: At(%+q, %d) = %d, %d, want %d, %d", c.name, c.s, c.i, line, column, c.line, c.column)
		}
	}
}

func TestOf(t *testing.T) {
	for _, c := range []struct {
		name         string
		s            string
		line, column int
		i            int
		is           bool
	}{
		{"the chapter's example", "a\nbc", 2, 2, 3, true},
		{"nothing", "", 1, 1, 0, true},
		{"nothing, another line", "", 2, 1, 0, false},
		{"nothing, another column", "", 1, 2, 0, false},
		{"the beginning", "abc", 1, 1, 0, true},
		{"the end", "abc", 1, 4, 3, true},
		{"behind the end", "abc", 1, 5, 0, false},
		{"at 0a", "ab\nc", 1, 3, 2, true},
		{"a column that the line has not, but the next one's bytes", "ab\nc", 1, 4, 0, false},
		{"a column that only a line above has", "abc\nd", 2, 3, 0, false},
		{"a column that only a line below has", "a\nbcd", 1, 3, 0, false},
		{"behind the last 0a", "a\n", 2, 1, 2, true},
		{"a line too many", "a\n", 3, 1, 0, false},
		{"line 0", "a\nb", 0, 1, 0, false},
		{"line -1", "a\nb", -1, 1, 0, false},
		{"column 0", "a\nb", 1, 0, 0, false},
		{"column 0 of a further line", "a\nb", 2, 0, 0, false},
		{"column -1", "a\nb", 2, -1, 0, false},
		{"noughts", "", 0, 0, 0, false},
		{"the greatest", "a\nb", math.MaxInt, math.MaxInt, 0, false},
		{"the least", "a\nb", math.MinInt, math.MinInt, 0, false},
		{"the least place: amid two bytes", "\u00e9x", 1, 2, 1, true},
		{"the least place: amid four bytes", "a\n\U0001f600x", 2, 2, 3, true},
		{"behind four bytes", "a\n\U0001f600x", 2, 3, 7, true},
		{"the least place: ahead of bytes that begin nothing", "\x80\xbfa", 1, 1, 0, true},
		{"behind those", "\x80\xbfa", 1, 2, 3, true},
		{"the least place: behind 0a", "a\n\x80\x80", 2, 1, 2, true},
		{"7f, c0 and ff begin characters", "\x7f\xc0\xff", 1, 4, 3, true},
	} {
		if i, is := Of(c.s, c.line, c.column); i != c.i || is != c.is {
			t.Errorf("%s: Of(%+q, %d, %d) = %d, %v, want %d, %v", c.name, c.s, c.line, c.column, i, is, c.i, c.is)
		}
	}
}

// atByWords is At, word by word as the chapter has it.
func atByWords(s string, i int) (int, int) {
	if i < 0 {
		i = 0
	}
	if i > len(s) {
		i = len(s)
	}
	ahead := s[:i]
	line := 1 + strings.Count(ahead, "\n")
	column := 1
	for _, b := range []byte(ahead[strings.LastIndexByte(ahead, '\n')+1:]) {
		if b&0xc0 != 0x80 {
			column++
		}
	}
	return line, column
}

// ofByWords is Of, word by word as the chapter has it.
func ofByWords(s string, line, column int) (int, bool) {
	for i := 0; i <= len(s); i++ {
		if l, c := atByWords(s, i); l == line && c == column {
			return i, true
		}
	}
	return 0, false
}

func checkAll(t *testing.T, s string) {
	t.Helper()
	for i := -2; i <= len(s)+2; i++ {
		line, column := At(s, i)
		if l, c := atByWords(s, i); line != l || column != c {
			t.Fatalf("At(%+q, %d) = %d, %d, want %d, %d", s, i, line, column, l, c)
		}
		back, is := Of(s, line, column)
		if l, c := At(s, back); !is || l != line || c != column || back > max(i, 0) {
			t.Fatalf("%+q: there %d, back %d, %v", s, i, back, is)
		}
	}
	for line := -1; line <= len(s)+2; line++ {
		for column := -1; column <= len(s)+2; column++ {
			i, is := Of(s, line, column)
			if k, ok := ofByWords(s, line, column); i != k || is != ok {
				t.Fatalf("Of(%+q, %d, %d) = %d, %v, want %d, %v", s, line, column, i, is, k, ok)
			}
		}
	}
}

func TestAllShortTexts(t *testing.T) {
	const letters = "a\n\x80\xbf\xc0"
	var grow func(s string, more int)
	grow = func(s string, more int) {
		checkAll(t, s)
		if more == 0 {
			return
		}
		for k := range len(letters) {
			grow(s+letters[k:k+1], more-1)
		}
	}
	grow("", 5)
}

func TestAllBytes(t *testing.T) {
	for b := range 256 {
		c := string([]byte{byte(b)})
		for _, s := range []string{c, "a" + c, c + "a", "a\n" + c + "b", c + "\n" + c, c + c} {
			checkAll(t, s)
		}
	}
}

func TestLongText(t *testing.T) {
	const lines = 20000
	s := strings.Repeat("a\u00e9b\n", lines)
	if line, column := At(s, len(s)); line != lines+1 || column != 1 {
		t.Errorf("At the end: %d, %d", line, column)
	}
	if i, is := Of(s, lines, 4); i != len(s)-1 || !is {
		t.Errorf("Of the last 0a: %d, %v", i, is)
	}
	if i, is := Of(s, lines, 5); i != 0 || is {
		t.Errorf("Of what is not there: %d, %v", i, is)
	}
}

func FuzzThereAndBack(f *testing.F) {
	f.Add("a\nbc")
	f.Add("\u00e9\n\x80\xff")
	f.Fuzz(func(t *testing.T, s string) {
		checkAll(t, s[:min(len(s), 40)])
	})
}

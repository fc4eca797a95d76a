package escape

import (
	"html"
	"strings"
	"testing"
	"unicode/utf8"

	"portiere/charref"
)

// expected says what the chapter asks of one text: & goes first, so that no other's & is written anew.
func expected(s string, value bool) string {
	s = strings.Join(strings.Split(s, "\x26"), "\x26amp\x3b")
	s = strings.Join(strings.Split(s, "\x3c"), "\x26lt\x3b")
	s = strings.Join(strings.Split(s, "\x3e"), "\x26gt\x3b")
	s = strings.Join(strings.Split(s, "\xc2\xa0"), "\x26nbsp\x3b")
	if value {
		s = strings.Join(strings.Split(s, "\x22"), "\x26quot\x3b")
	}
	return s
}

// check holds both calls to the chapter's words, and to what brings them back.
func check(t *testing.T, s string) {
	t.Helper()
	text, value := Text(s), Value(s)
	if want := expected(s, false); text != want {
		t.Fatalf("Text(%q) = %q, want %q", s, text, want)
	}
	if want := expected(s, true); value != want {
		t.Fatalf("Value(%q) = %q, want %q", s, value, want)
	}
	for _, attr := range []bool{false, true} {
		if back := charref.All(text, attr); back != s {
			t.Fatalf("charref.All(%q, %v) = %q, want %q", text, attr, back, s)
		}
		if back := charref.All(value, attr); back != s {
			t.Fatalf("charref.All(%q, %v) = %q, want %q", value, attr, back, s)
		}
	}
}

func TestWritten(t *testing.T) {
	for _, c := range []struct{ in, text, value string }{
		{"", "", ""},
		{"a<b&", "a&lt;b&amp;", "a&lt;b&amp;"},
		{"&", "&amp;", "&amp;"},
		{"<", "&lt;", "&lt;"},
		{">", "&gt;", "&gt;"},
		{"\xc2\xa0", "&nbsp;", "&nbsp;"},
		{`"`, `"`, "&quot;"},
		{"'", "'", "'"},
		{`<a b="c">`, `&lt;a b="c"&gt;`, "&lt;a b=&quot;c&quot;&gt;"},
		{"&&&", "&amp;&amp;&amp;", "&amp;&amp;&amp;"},
		{`""`, `""`, "&quot;&quot;"},
		{"&amp;", "&amp;amp;", "&amp;amp;"},
		{"&quot;", "&amp;quot;", "&amp;quot;"},
		{"&#60;", "&amp;#60;", "&amp;#60;"},
		{"a\u00a0\u00a0b", "a&nbsp;&nbsp;b", "a&nbsp;&nbsp;b"},
		{"\u00a9\u00e9\u20ac\U0001f600", "\u00a9\u00e9\u20ac\U0001f600", "\u00a9\u00e9\u20ac\U0001f600"},
		{"\x00\t\n\r\f ", "\x00\t\n\r\f ", "\x00\t\n\r\f "},
		{"amp;lt;gt;nbsp;quot;", "amp;lt;gt;nbsp;quot;", "amp;lt;gt;nbsp;quot;"},
	} {
		if got := Text(c.in); got != c.text {
			t.Errorf("Text(%q) = %q, want %q", c.in, got, c.text)
		}
		if got := Value(c.in); got != c.value {
			t.Errorf("Value(%q) = %q, want %q", c.in, got, c.value)
		}
	}
}

// TestBytes: what is no UTF-8 stays as it is, byte by byte, and c2 a0 is found in the midst of it.
func TestBytes(t *testing.T) {
	for _, c := range []struct{ in, want string }{
		{"\xc2", "\xc2"},
		{"\xa0", "\xa0"},
		{"\xa0\xc2", "\xa0\xc2"},
		{"\xc2\xc2\xa0\xa0", "\xc2&nbsp;\xa0"},
		{"\xe0\xc2\xa0", "\xe0&nbsp;"},
		{"\xf0\xc2\xa0\x80", "\xf0&nbsp;\x80"},
		{"\xc2<\xa0", "\xc2&lt;\xa0"},
		{"\xc3\xa0\xe2\xa0\xa0", "\xc3\xa0\xe2\xa0\xa0"},
		{"\xff\xfe&\xed\xa0\x80", "\xff\xfe&amp;\xed\xa0\x80"},
	} {
		if got := Text(c.in); got != c.want {
			t.Errorf("Text(%q) = %q, want %q", c.in, got, c.want)
		}
		if got := Value(c.in); got != c.want {
			t.Errorf("Value(%q) = %q, want %q", c.in, got, c.want)
		}
	}
}

// TestEveryPair: all texts of two bytes, and with a byte of each kind before and behind.
func TestEveryPair(t *testing.T) {
	for a := range 256 {
		check(t, string([]byte{byte(a)}))
		for b := range 256 {
			pair := string([]byte{byte(a), byte(b)})
			check(t, pair)
			check(t, "\xc2"+pair+"\xa0")
			check(t, "&"+pair+";")
		}
	}
}

func TestEveryCharacter(t *testing.T) {
	for r := rune(0); r <= utf8.MaxRune; r++ {
		c := string(r)
		check(t, c)
		same := !strings.ContainsRune("&<>\u00a0", r)
		if text := Text(c); (text == c) != same {
			t.Fatalf("Text(%q) = %q", c, text)
		}
		if value := Value(c); (value == c) != (same && r != '"') {
			t.Fatalf("Value(%q) = %q", c, value)
		}
	}
}

// TestEveryText: all texts of up to five parts, among them what looks like a reference already.
func TestEveryText(t *testing.T) {
	parts := []string{"&", "<", ">", `"`, "'", "\xc2", "\xa0", "a", "amp;", "nbsp", "#38;", "="}
	var grow func(s string, more int)
	grow = func(s string, more int) {
		check(t, s)
		if more == 0 {
			return
		}
		for _, p := range parts {
			grow(s+p, more-1)
		}
	}
	grow("", 5)
}

// TestOthersBringItBack: a reader of HTML that is not this program's reads the same.
func TestOthersBringItBack(t *testing.T) {
	for _, s := range []string{"a<b&", `x="1" & y='2'`, "\u00a0&nbsp;\u00a0", "&amp;amp;&lt", "&notin;&not", "\xc2&\xa0"} {
		if back := html.UnescapeString(Text(s)); back != s {
			t.Errorf("%q comes back of Text as %q", s, back)
		}
		if back := html.UnescapeString(Value(s)); back != s {
			t.Errorf("%q comes back of Value as %q", s, back)
		}
	}
}

func TestLong(t *testing.T) {
	check(t, strings.Repeat("&<>\u00a0\"a\u00e9", 20000))
}

func FuzzWritten(f *testing.F) {
	for _, s := range []string{"", "a<b&", "\"\u00a0\"", "&amp;", "\xc2\xc2\xa0"} {
		f.Add(s)
	}
	f.Fuzz(check)
}

package charref_test

import (
	"html"
	"math"
	"slices"
	"strconv"
	"strings"
	"testing"

	"portiere/api"
	"portiere/charref"
)

// hold holds Take at all places of a text, and All of it, against the chapter's words.
func hold(t *testing.T, s string) {
	t.Helper()
	for _, attr := range []bool{false, true} {
		for at := -2; at <= len(s)+2; at++ {
			text, n, fault := charref.Take(s, at, attr)
			wantText, wantN, wantFault := takeByWords(s, at, attr)
			if text != wantText || n != wantN || fault != wantFault {
				t.Fatalf("Take(%q, %d, %v) = %q, %d, %d, not %q, %d, %d", s, at, attr, text, n, fault, wantText, wantN, wantFault)
			}
		}
		if got, want := charref.All(s, attr), allByWords(s, attr); got != want {
			t.Fatalf("All(%q, %v) = %q, not %q", s, attr, got, want)
		}
	}
}

func TestTakeAsWritten(t *testing.T) {
	const ref, code = api.FaultRef, api.FaultCode
	rows := []struct {
		s    string
		at   int
		attr bool
		text string
		n    int
		flt  uint8
	}{
		{"&notin;", 0, false, "\u2209", 7, 0},
		{"&notin;", 0, true, "\u2209", 7, 0},
		{"&notit;", 0, false, "\u00ac", 4, ref},
		{"&notit;", 0, true, "", 0, 0},
		{"&notin", 0, false, "\u00ac", 4, ref},
		{"&notin", 0, true, "", 0, 0},
		{"&#128;", 0, false, "\u20ac", 6, code},
		{"&#128;", 0, true, "\u20ac", 6, code},
		{"&#128", 0, false, "\u20ac", 5, code},
		{"&#x9F;", 0, false, "\u0178", 6, code},
		{"&#x81;", 0, false, "\u0081", 6, code},
		{"&#127;", 0, false, "\u007f", 6, 0},
		{"&#160;", 0, false, "\u00a0", 6, 0},
		{"&#0;", 0, false, "\uFFFD", 4, code},
		{"&#0", 0, false, "\uFFFD", 3, code},
		{"&#1;", 0, false, "\x01", 4, 0},
		{"&#13;", 0, false, "\r", 5, 0},
		{"&#xd7ff;", 0, false, "\ud7ff", 8, 0},
		{"&#xd800;", 0, false, "\uFFFD", 8, code},
		{"&#xDFFF;", 0, false, "\uFFFD", 8, code},
		{"&#xe000;", 0, false, "\ue000", 8, 0},
		{"&#xfffd;", 0, false, "\uFFFD", 8, 0},
		{"&#xffff;", 0, false, "\uFFFF", 8, 0},
		{"&#x10ffff;", 0, false, "\U0010FFFF", 10, 0},
		{"&#x110000;", 0, false, "\uFFFD", 10, code},
		{"&#x10ffff0;", 0, false, "\uFFFD", 11, code},
		{"&#11141110;", 0, false, "\uFFFD", 11, code},
		{"&#1114111;", 0, false, "\U0010FFFF", 10, 0},
		{"&#1114112;", 0, false, "\uFFFD", 10, code},
		{"&#18446744073709551681;", 0, false, "\uFFFD", 23, code},
		{"&#4294967361;", 0, false, "\uFFFD", 13, code},
		{"&#x10000000000000041;", 0, false, "\uFFFD", 21, code},
		{"&#0000000000000000000000065;", 0, false, "A", 28, 0},
		{"&#x0000000000000000000000041", 0, false, "A", 28, ref},
		{"&#65", 0, false, "A", 4, ref},
		{"&#65a", 0, true, "A", 4, ref},
		{"&#65=", 0, true, "A", 4, ref},
		{"&#65;;", 0, false, "A", 5, 0},
		{"&#X4a;", 0, false, "J", 6, 0},
		{"&#x4A;", 0, false, "J", 6, 0},
		{"&#x4g;", 0, false, "\x04", 4, ref},
		{"&#4a;", 0, false, "\x04", 3, ref},
		{"&#", 0, false, "", 0, 0},
		{"&#;", 0, false, "", 0, 0},
		{"&#x", 0, false, "", 0, 0},
		{"&#x;", 0, false, "", 0, 0},
		{"&#xg;", 0, false, "", 0, 0},
		{"&#xx41;", 0, false, "", 0, 0},
		{"&# 65;", 0, false, "", 0, 0},
		{"&#-65;", 0, false, "", 0, 0},
		{"&#+65;", 0, false, "", 0, 0},
		{"&#a;", 0, false, "", 0, 0},
		{"&#amp;", 0, false, "", 0, 0},
		{"&#\u0661;", 0, false, "", 0, 0},
		{"&#\uff11;", 0, false, "", 0, 0},
		{"&x41;", 0, false, "", 0, 0},
		{"&65;", 0, false, "", 0, 0},
		{"&amp;", 0, false, "&", 5, 0},
		{"&amp;", 0, true, "&", 5, 0},
		{"&amp;=", 0, true, "&", 5, 0},
		{"&amp", 0, true, "&", 4, ref},
		{"&amp ", 0, true, "&", 4, ref},
		{"&amp&", 0, true, "&", 4, ref},
		{"&amp=", 0, true, "", 0, 0},
		{"&amp=", 0, false, "&", 4, ref},
		{"&ampa", 0, true, "", 0, 0},
		{"&ampZ", 0, true, "", 0, 0},
		{"&amp0", 0, true, "", 0, 0},
		{"&amp9", 0, false, "&", 4, ref},
		{"&amp\u00e4", 0, true, "&", 4, ref},
		{"&amp\x00", 0, true, "&", 4, ref},
		{"&AMP;", 0, false, "", 0, 0},
		{"&Lt;", 0, false, "", 0, 0},
		{"&euro;", 0, true, "\u20ac", 6, 0},
		{"&euro", 0, false, "", 0, 0},
		{"&apos", 0, false, "", 0, 0},
		{"&apos;", 0, false, "'", 6, 0},
		{"& amp;", 0, false, "", 0, 0},
		{"&;", 0, false, "", 0, 0},
		{"&", 0, false, "", 0, 0},
		{"&&lt;", 0, false, "", 0, 0},
		{"&&lt;", 1, false, "<", 4, 0},
		{"", 0, false, "", 0, 0},
		{"x&lt;", 0, false, "", 0, 0},
		{"&lt;", 1, false, "", 0, 0},
		{"&lt;", 4, false, "", 0, 0},
		{"&lt;", 5, false, "", 0, 0},
		{"&lt;", -1, false, "", 0, 0},
		{"&lt;", math.MinInt, false, "", 0, 0},
		{"&lt;", math.MaxInt, false, "", 0, 0},
	}
	for _, r := range rows {
		text, n, fault := charref.Take(r.s, r.at, r.attr)
		if text != r.text || n != r.n || fault != r.flt {
			t.Errorf("Take(%q, %d, %v) = %q, %d, %d, not %q, %d, %d", r.s, r.at, r.attr, text, n, fault, r.text, r.n, r.flt)
		}
		hold(t, r.s)
	}
}

func TestAllAsWritten(t *testing.T) {
	rows := []struct {
		s    string
		attr bool
		want string
	}{
		{"", false, ""},
		{"abc", false, "abc"},
		{"&lt;&#x41;", false, "<A"},
		{"a&amp;lt;b", false, "a&lt;b"},
		{"&#38;lt;", false, "&lt;"},
		{"&amp;amp;", true, "&amp;"},
		{"&&amp;&", false, "&&&"},
		{"&lt&gt", false, "<>"},
		{"&lt&gt", true, "<>"},
		{"?a=1&copy=2&amp;lt=3", false, "?a=1\u00a9=2&lt=3"},
		{"?a=1&copy=2&amp;lt=3", true, "?a=1&copy=2&lt=3"},
		{"&copy2 &copy; &copy", true, "&copy2 \u00a9 \u00a9"},
		{"&nope;&#xzz;", false, "&nope;&#xzz;"},
		{"\xff&lt;\xc3\x00&#0", false, "\xff<\xc3\x00\uFFFD"},
		{"\u00e4&euro;\U0001F6AA", false, "\u00e4\u20ac\U0001F6AA"},
	}
	for _, r := range rows {
		if got := charref.All(r.s, r.attr); got != r.want {
			t.Errorf("All(%q, %v) = %q, not %q", r.s, r.attr, got, r.want)
		}
		hold(t, r.s)
	}
}

// names is all names, in an order that stays.
func names() []string {
	var out []string
	for w := range written {
		if name, cut := strings.CutSuffix(w, ";"); cut {
			out = append(out, name)
		}
	}
	slices.Sort(out)
	return out
}

func TestListsAreOfTheRightLength(t *testing.T) {
	if len(names()) != 22 || len(plain(listBare)) != 12 || len(plain(list80)) != 32 {
		t.Error("the lists of the test are not the chapter's")
	}
}

func TestEachNameAndWhatIsNearlyOne(t *testing.T) {
	for _, name := range names() {
		for i := range len(name) {
			for _, near := range []string{name[:i], name[i+1:], name[:i] + name[i+1:], name[:i] + strings.ToUpper(name[i:i+1]) + name[i+1:], name[:i] + string(name[i]^1) + name[i+1:], name[:i] + ";" + name[i:]} {
				hold(t, "&"+near+";")
				hold(t, "&"+near)
			}
		}
		for c := range 256 {
			hold(t, "&"+name+string([]byte{byte(c)}))
			hold(t, "&"+name+string([]byte{byte(c), ';'}))
			hold(t, string([]byte{byte(c)})+name+";")
		}
		for _, other := range names() {
			hold(t, "&"+name+other+";")
			hold(t, "&"+name+"&"+other)
			hold(t, "&"+name+";"+other+";")
		}
	}
}

func TestEachByteAsADigit(t *testing.T) {
	for c := range 256 {
		for _, ahead := range []string{"&", "&#", "&#x", "&#X", "&#4", "&#x4"} {
			hold(t, ahead+string([]byte{byte(c)}))
			hold(t, ahead+string([]byte{byte(c), ';'}))
			hold(t, ahead+string([]byte{byte(c), '1', ';'}))
		}
	}
}

func TestEachCode(t *testing.T) {
	for code := range 0x110400 {
		wrong := code == 0 || code > 0x10ffff || 0xd800 <= code && code <= 0xdfff || 0x80 <= code && code <= 0x9f
		for i, digits := range []string{strconv.Itoa(code), "x" + strconv.FormatInt(int64(code), 16), "X00" + strings.ToUpper(strconv.FormatInt(int64(code), 16))} {
			want := html.UnescapeString("&#" + digits + ";")
			s, fault := "&#"+digits, api.FaultRef
			if i != code%3 {
				s, fault = s+";", 0
			}
			if wrong {
				fault = api.FaultCode
			}
			text, n, got := charref.Take(s, 0, code%2 == 0)
			if text != want || n != len(s) || got != fault {
				t.Fatalf("Take(%q) = %q, %d, %d, not %q, %d, %d", s, text, n, got, want, len(s), fault)
			}
		}
	}
}

// TestControls holds those that TestEachCode leaves to another library's table against the chapter's.
func TestControls(t *testing.T) {
	for i, hex := range plain(list80) {
		for _, s := range []string{"&#" + strconv.Itoa(0x80+i), "&#x" + strconv.FormatInt(int64(0x80+i), 16)} {
			for _, end := range []string{"", ";", "="} {
				text, n, fault := charref.Take(s+end, 0, true)
				if want := len(strings.TrimSuffix(s+end, "=")); text != char(hex) || n != want || fault != api.FaultCode {
					t.Errorf("Take(%q) = %q, %d, %d, not %q, %d, %d", s+end, text, n, fault, char(hex), want, api.FaultCode)
				}
			}
		}
	}
}

func TestEachShortText(t *testing.T) {
	parts := []string{"&", "#", "x", "X", ";", "0", "9", "8", "a", "F", "g", "lt", "not", "in", "=", "\xff"}
	var grow func(s string, left int)
	grow = func(s string, left int) {
		hold(t, s)
		if left == 0 {
			return
		}
		for _, p := range parts {
			grow(s+p, left-1)
		}
	}
	for _, p := range parts {
		grow("&"+p, 3)
		grow("&#"+p, 2)
	}
}

func TestLongTexts(t *testing.T) {
	for _, part := range []string{"&", "&#", "&#x", "&#1", "&amp", "&amp;", "&notin", "9", "\x00"} {
		s := strings.Repeat(part, api.MaxBytes/len(part))
		one := charref.All(part, false)
		if got := charref.All(s, false); got != strings.Repeat(one, api.MaxBytes/len(part)) {
			t.Errorf("All of many %q is wrong", part)
		}
	}
	digits := strings.Repeat("9", api.MaxBytes)
	for _, s := range []string{"&#" + digits, "&#x" + digits, "&#" + digits + ";"} {
		if text, n, fault := charref.Take(s, 0, false); text != "\uFFFD" || n != len(s) || fault != api.FaultCode {
			t.Errorf("Take of many digits = %q, %d, %d", text, n, fault)
		}
	}
	zeros := "&#" + strings.Repeat("0", api.MaxBytes) + "65;"
	if text, n, fault := charref.Take(zeros, 0, false); text != "A" || n != len(zeros) || fault != 0 {
		t.Errorf("Take of many zeros = %q, %d, %d", text, n, fault)
	}
}

func FuzzReferences(f *testing.F) {
	for _, s := range []string{"&notin;&notit;&#128;", "a&lt&gt=&copy1", "&#x10ffff;&#X110000&#xd800;", "\xff&&#0"} {
		f.Add(s)
	}
	f.Fuzz(func(t *testing.T, s string) {
		if len(s) > 500 {
			return
		}
		hold(t, s)
	})
}

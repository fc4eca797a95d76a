package token_test

import (
	"reflect"
	"strconv"
	"strings"
	"testing"

	"portiere/api"
	"portiere/names"
	"portiere/token"
)

// Short forms of tokens and faults.

func start(at int, name string, pairs ...string) api.Token {
	t := api.Token{Kind: api.TokStart, Name: name, At: at}
	for i := 0; i < len(pairs); i += 2 {
		t.Attrs = append(t.Attrs, api.Attr{Name: pairs[i], Value: pairs[i+1]})
	}
	return t
}

func self(t api.Token) api.Token {
	t.Self = true
	return t
}

func end(at int, name string) api.Token {
	return api.Token{Kind: api.TokEnd, Name: name, At: at}
}

func text(at int, data string) api.Token {
	return api.Token{Kind: api.TokText, Data: data, At: at}
}

func note(at int, data string) api.Token {
	return api.Token{Kind: api.TokComment, Data: data, At: at}
}

func doc(at int, name string) api.Token {
	return api.Token{Kind: api.TokDoctype, Name: name, At: at}
}

func toks(l ...api.Token) []api.Token { return l }

func flts(l ...api.Fault) []api.Fault { return l }

// row is a text, and what must come of it.
type row struct {
	s      string
	tokens []api.Token
	faults []api.Fault
}

// same compares answers; a list that is nil and one that is empty are the same.
func same(l, m []api.Token, f, g []api.Fault) bool {
	if len(l) != len(m) || len(f) != len(g) {
		return false
	}
	for i, a := range l {
		b := m[i]
		if len(a.Attrs) == 0 && len(b.Attrs) == 0 {
			a.Attrs, b.Attrs = nil, nil
		}
		if !reflect.DeepEqual(a, b) {
			return false
		}
	}
	for i := range f {
		if f[i] != g[i] {
			return false
		}
	}
	return true
}

func hold(t *testing.T, s string) {
	t.Helper()
	l, f := token.Tokens(s)
	m, g := tokensByWords(s)
	if !same(l, m, f, g) {
		t.Fatalf("Tokens(%q) = %v, %v, not %v, %v", s, l, f, m, g)
	}
	holdToWhatHolds(t, s, l, f)
}

// holdToWhatHolds is of any answer, whatever the text is.
func holdToWhatHolds(t *testing.T, s string, l []api.Token, f []api.Fault) {
	t.Helper()
	last := -1
	for i, k := range l {
		if k.At <= last || k.At >= len(s) {
			t.Fatalf("Tokens(%.200q): token %d is at %d, behind %d", s, i, k.At, last)
		}
		last = k.At
		if k.Kind == api.TokText && (k.Data == "" || i > 0 && l[i-1].Kind == api.TokText) {
			t.Fatalf("Tokens(%.200q): text %d is empty, or two stand side by side", s, i)
		}
		if strings.Contains(k.Name+k.Data, "\x00") || k.Name != names.Lower(k.Name) {
			t.Fatalf("Tokens(%.200q): token %d is not clean", s, i)
		}
		named := k.Kind == api.TokStart || k.Kind == api.TokEnd || k.Kind == api.TokDoctype
		if k.Name != "" && !named || k.Data != "" && named || k.Kind != api.TokStart && (k.Self || len(k.Attrs) > 0) || len(k.Attrs) > api.MaxAttrs {
			t.Fatalf("Tokens(%.200q): token %d has what it may not have", s, i)
		}
	}
	for _, x := range f {
		if x.At < 0 || x.At > len(s) || x.Kind < api.FaultRef || x.Kind > api.FaultNote {
			t.Fatalf("Tokens(%.200q): fault %v", s, x)
		}
	}
}

func check(t *testing.T, rows []row) {
	t.Helper()
	for _, r := range rows {
		l, f := token.Tokens(r.s)
		if !same(l, r.tokens, f, r.faults) {
			t.Errorf("Tokens(%q) = %v, %v, not %v, %v", r.s, l, f, r.tokens, r.faults)
		}
		hold(t, r.s)
	}
}

const (
	ref  = api.FaultRef
	code = api.FaultCode
	null = api.FaultNull
	ftag = api.FaultTag
	fatt = api.FaultAttr
	fend = api.FaultEnd
	fnot = api.FaultNote
)

func TestExample(t *testing.T) {
	check(t, []row{
		{"<P a=1 a=2>x&lt;</p>", toks(start(0, "p", "a", "1"), text(11, "x<"), end(16, "p")), flts(api.Fault{Kind: fatt, At: 7})},
	})
}

func TestTexts(t *testing.T) {
	check(t, []row{
		{"", nil, nil},
		{"a", toks(text(0, "a")), nil},
		{" \r\n\xff\xc3", toks(text(0, " \r\n\xff\xc3")), nil},
		{"a>b\"'=/-!?", toks(text(0, "a>b\"'=/-!?")), nil},
		{"\x00", nil, flts(api.Fault{Kind: null, At: 0})},
		{"\x00a\x00\x00b\x00", toks(text(1, "ab")), flts(api.Fault{Kind: null, At: 0}, api.Fault{Kind: null, At: 2}, api.Fault{Kind: null, At: 3}, api.Fault{Kind: null, At: 5})},
		{"a</>b", toks(text(0, "ab")), flts(api.Fault{Kind: ftag, At: 1})},
		{"</>", nil, flts(api.Fault{Kind: ftag, At: 0})},
		{"</>a", toks(text(3, "a")), flts(api.Fault{Kind: ftag, At: 0})},
		{"a</", toks(text(0, "a</")), flts(api.Fault{Kind: fend, At: 1})},
		{"</", toks(text(0, "</")), flts(api.Fault{Kind: fend, At: 0})},
		{"<", toks(text(0, "<")), flts(api.Fault{Kind: ftag, At: 0})},
		{"a<1", toks(text(0, "a<1")), flts(api.Fault{Kind: ftag, At: 1})},
		{"<<p>", toks(text(0, "<"), start(1, "p")), flts(api.Fault{Kind: ftag, At: 0})},
		{"< p>", toks(text(0, "< p>")), flts(api.Fault{Kind: ftag, At: 0})},
		{"<\u00e4>", toks(text(0, "<\u00e4>")), flts(api.Fault{Kind: ftag, At: 0})},
		{"<\x00b>", toks(text(0, "<b>")), flts(api.Fault{Kind: ftag, At: 0}, api.Fault{Kind: null, At: 1})},
		{"<>", toks(text(0, "<>")), flts(api.Fault{Kind: ftag, At: 0})},
		{"a<b>c", toks(text(0, "a"), start(1, "b"), text(4, "c")), nil},
	})
}

func TestReferences(t *testing.T) {
	check(t, []row{
		{"&", toks(text(0, "&")), nil},
		{"&nope;", toks(text(0, "&nope;")), nil},
		{"a&amp;b", toks(text(0, "a&b")), nil},
		{"&lt;p>", toks(text(0, "<p>")), nil},
		{"&amp;lt;", toks(text(0, "&lt;")), nil},
		{"&lt", toks(text(0, "<")), flts(api.Fault{Kind: ref, At: 0})},
		{"&copy=&notit;", toks(text(0, "\u00a9=\u00acit;")), flts(api.Fault{Kind: ref, At: 0}, api.Fault{Kind: ref, At: 6})},
		{"x&#0;&#128;", toks(text(0, "x\uFFFD\u20ac")), flts(api.Fault{Kind: code, At: 1}, api.Fault{Kind: code, At: 5})},
		{"&l\x00t;", toks(text(0, "&lt;")), flts(api.Fault{Kind: null, At: 2})},
		{"<p>&gt;</p>", toks(start(0, "p"), text(3, ">"), end(7, "p")), nil},
		{"\x00&lt;", toks(text(1, "<")), flts(api.Fault{Kind: null, At: 0})},
	})
}

func TestNotes(t *testing.T) {
	check(t, []row{
		{"<!>", toks(note(0, "")), flts(api.Fault{Kind: fnot, At: 0})},
		{"<!", toks(note(0, "")), flts(api.Fault{Kind: fnot, At: 0})},
		{"a<!b>c", toks(text(0, "a"), note(1, "b"), text(5, "c")), flts(api.Fault{Kind: fnot, At: 1})},
		{"<!-a>", toks(note(0, "-a")), flts(api.Fault{Kind: fnot, At: 0})},
		{"<!doctyp>", toks(note(0, "doctyp")), flts(api.Fault{Kind: fnot, At: 0})},
		{"<![CDATA[x]]>", toks(note(0, "[CDATA[x]]")), flts(api.Fault{Kind: fnot, At: 0})},
		{"<?", toks(note(0, "?")), flts(api.Fault{Kind: fnot, At: 0})},
		{"<?xml a='>'?>", toks(note(0, "?xml a='"), text(10, "'?>")), flts(api.Fault{Kind: fnot, At: 0})},
		{"</ a>", toks(note(0, " a")), flts(api.Fault{Kind: fnot, At: 0})},
		{"</<b>", toks(note(0, "<b")), flts(api.Fault{Kind: fnot, At: 0})},
		{"</\x00&lt;\x00", toks(note(0, "\uFFFD&lt;\uFFFD")), flts(api.Fault{Kind: fnot, At: 0})},
		{"<?\x00A>", toks(note(0, "?\uFFFDA")), flts(api.Fault{Kind: fnot, At: 0})},
	})
}

func TestComments(t *testing.T) {
	check(t, []row{
		{"<!--a-->", toks(note(0, "a")), nil},
		{"x<!-- c -->y", toks(text(0, "x"), note(1, " c "), text(11, "y")), nil},
		{"<!---->", toks(note(0, "")), nil},
		{"<!-->x", toks(note(0, ""), text(5, "x")), flts(api.Fault{Kind: fnot, At: 0})},
		{"<!--->x", toks(note(0, ""), text(6, "x")), flts(api.Fault{Kind: fnot, At: 0})},
		{"a<!--b--!>c", toks(text(0, "a"), note(1, "b"), text(10, "c")), flts(api.Fault{Kind: fnot, At: 1})},
		{"<!----!>", toks(note(0, "")), flts(api.Fault{Kind: fnot, At: 0})},
		{"<!---!>-->", toks(note(0, "-!>")), nil},
		{"<!--a--!>b-->", toks(note(0, "a"), text(9, "b-->")), flts(api.Fault{Kind: fnot, At: 0})},
		{"<!--a-->b--!>", toks(note(0, "a"), text(8, "b--!>")), nil},
		{"<!--a--->", toks(note(0, "a-")), nil},
		{"<!--a->b-- >-->", toks(note(0, "a->b-- >")), nil},
		{"<!--<!--a-->", toks(note(0, "<!--a")), nil},
		{"<!--a>b", toks(note(0, "a>b")), flts(api.Fault{Kind: fend, At: 7})},
		{"<!--", toks(note(0, "")), flts(api.Fault{Kind: fend, At: 4})},
		{"<!---", toks(note(0, "-")), flts(api.Fault{Kind: fend, At: 5})},
		{"<!----", toks(note(0, "--")), flts(api.Fault{Kind: fend, At: 6})},
		{"<!----!", toks(note(0, "--!")), flts(api.Fault{Kind: fend, At: 7})},
		{"<!--\x00&lt;\x00-->", toks(note(0, "\uFFFD&lt;\uFFFD")), nil},
		{"<!--Ab-->", toks(note(0, "Ab")), nil},
	})
}

func TestDoctypes(t *testing.T) {
	check(t, []row{
		{"<!DOCTYPE html>", toks(doc(0, "html")), nil},
		{"<!dOcTyPe HTML PUBLIC \"a>b\">", toks(doc(0, "html"), text(25, "b\">")), nil},
		{"<!doctypeHtml>x", toks(doc(0, "html"), text(14, "x")), nil},
		{"<!doctype>", toks(doc(0, "")), nil},
		{"<!doctype \t\n\f>", toks(doc(0, "")), nil},
		{"<!doctype", toks(doc(0, "")), flts(api.Fault{Kind: fend, At: 9})},
		{"<!doctype a", toks(doc(0, "a")), flts(api.Fault{Kind: fend, At: 11})},
		{"<!doctype a b", toks(doc(0, "a")), flts(api.Fault{Kind: fend, At: 13})},
		{"<!doctype a\x00/=B\n>", toks(doc(0, "a\uFFFD/=b")), nil},
		{"x<!doctype\x0ba>", toks(text(0, "x"), doc(1, "\x0ba")), nil},
		{"<!doctype &lt;>", toks(doc(0, "&lt;")), nil},
	})
}

func TestTags(t *testing.T) {
	check(t, []row{
		{"<a>", toks(start(0, "a")), nil},
		{"</a>", toks(end(0, "a")), nil},
		{"<X-Card></X-CARD >", toks(start(0, "x-card"), end(8, "x-card")), nil},
		{"<a<b>", toks(start(0, "a<b")), nil},
		{"<a\x00\u00c4=>", toks(start(0, "a\uFFFD\u00c4=")), nil},
		{"<a&lt;>", toks(start(0, "a&lt;")), nil},
		{"<Z>", toks(start(0, "z")), nil},
		{"<a/>", toks(self(start(0, "a"))), nil},
		{"<a//>", toks(self(start(0, "a"))), nil},
		{"<a / />", toks(self(start(0, "a"))), nil},
		{"<a / >", toks(start(0, "a")), nil},
		{"<a x/>", toks(self(start(0, "a", "x", ""))), nil},
		{"<a x='1'/>", toks(self(start(0, "a", "x", "1"))), nil},
		{"<a x=1/>", toks(start(0, "a", "x", "1/")), nil},
		{"<a x=/>", toks(start(0, "a", "x", "/")), nil},
		{"<a x=\"/\">", toks(start(0, "a", "x", "/")), nil},
		{"</a/>", toks(end(0, "a")), nil},
		{"</a x=1 y/>", toks(end(0, "a")), nil},
		{"</a x x>", toks(end(0, "a")), flts(api.Fault{Kind: fatt, At: 6})},
		{"<a", nil, flts(api.Fault{Kind: fend, At: 2})},
		{"b<a ", toks(text(0, "b")), flts(api.Fault{Kind: fend, At: 4})},
		{"<a/", nil, flts(api.Fault{Kind: fend, At: 3})},
		{"</a", nil, flts(api.Fault{Kind: fend, At: 3})},
		{"<a x", nil, flts(api.Fault{Kind: fend, At: 4})},
		{"<a x=", nil, flts(api.Fault{Kind: fend, At: 5})},
		{"<a x=1", nil, flts(api.Fault{Kind: fend, At: 6})},
		{"<a x='1'", nil, flts(api.Fault{Kind: fend, At: 8})},
		{"<a x='1>b</a>", nil, flts(api.Fault{Kind: fend, At: 13})},
		{"<a x=\"1'>", nil, flts(api.Fault{Kind: fend, At: 9})},
		{"<a x='", nil, flts(api.Fault{Kind: fend, At: 6})},
		{"<a x x", nil, flts(api.Fault{Kind: fatt, At: 5}, api.Fault{Kind: fend, At: 6})},
		{"<a x x='", nil, flts(api.Fault{Kind: fend, At: 8})},
		{"<a ='", nil, flts(api.Fault{Kind: fatt, At: 3}, api.Fault{Kind: fend, At: 5})},
	})
}

func TestAttributes(t *testing.T) {
	check(t, []row{
		{"<a b>", toks(start(0, "a", "b", "")), nil},
		{"<a b c=1\td='2'\ne=\"3\"\ff>", toks(start(0, "a", "b", "", "c", "1", "d", "2", "e", "3", "f", "")), nil},
		{"<a B=C>", toks(start(0, "a", "b", "C")), nil},
		{"<a b \n=\t 1>", toks(start(0, "a", "b", "1")), nil},
		{"<a b = '1'c=2>", toks(start(0, "a", "b", "1", "c", "2")), nil},
		{"<a b='\">'c=\"'\">", toks(start(0, "a", "b", "\">", "c", "'")), nil},
		{"<a b=''>", toks(start(0, "a", "b", "")), nil},
		{"<a/b/c=1>", toks(start(0, "a", "b", "", "c", "1")), nil},
		{"<a b=1\"'`=</c>", toks(start(0, "a", "b", "1\"'`=</c")), nil},
		{"<a \"b'<=1>", toks(start(0, "a", "\"b'<", "1")), nil},
		{"<a b=>c", toks(start(0, "a", "b", ""), text(6, "c")), flts(api.Fault{Kind: fatt, At: 5})},
		{"<a b= \n>", toks(start(0, "a", "b", "")), flts(api.Fault{Kind: fatt, At: 7})},
		{"<a =>", toks(start(0, "a", "=", "")), flts(api.Fault{Kind: fatt, At: 3})},
		{"<a =b=c>", toks(start(0, "a", "=b", "c")), flts(api.Fault{Kind: fatt, At: 3})},
		{"<a ==b>", toks(start(0, "a", "=", "b")), flts(api.Fault{Kind: fatt, At: 3})},
		{"<a/=>", toks(start(0, "a", "=", "")), flts(api.Fault{Kind: fatt, At: 3})},
		{"<a = =>", toks(start(0, "a", "=", "")), flts(api.Fault{Kind: fatt, At: 3}, api.Fault{Kind: fatt, At: 6})},
		{"<a b==>", toks(start(0, "a", "b", "=")), nil},
		{"<a b B=1 b>", toks(start(0, "a", "b", "")), flts(api.Fault{Kind: fatt, At: 5}, api.Fault{Kind: fatt, At: 9})},
		{"<a \x00 \uFFFD>", toks(start(0, "a", "\uFFFD", "")), flts(api.Fault{Kind: fatt, At: 5})},
		{"<a b b=>", toks(start(0, "a", "b", "")), flts(api.Fault{Kind: fatt, At: 7}, api.Fault{Kind: fatt, At: 5})},
		{"<a = / =>", toks(start(0, "a", "=", "")), flts(api.Fault{Kind: fatt, At: 3}, api.Fault{Kind: fatt, At: 7}, api.Fault{Kind: fatt, At: 7})},
		{"<a \u00c4=\u00c4>", toks(start(0, "a", "\u00c4", "\u00c4")), nil},
		{"<a b=&lt;&copy=&copy c='&amp;&#x41' d=\"&notit;&not;\">", toks(start(0, "a", "b", "<&copy=\u00a9", "c", "&A", "d", "&notit;\u00ac")), nil},
		{"<a &lt;=1>", toks(start(0, "a", "&lt;", "1")), nil},
		{"<a b=\x00&#0; c='\x00' d=\"&lt\x00\">", toks(start(0, "a", "b", "\uFFFD\uFFFD", "c", "\uFFFD", "d", "<\uFFFD")), nil},
		{"<a b=&l\x00t;>", toks(start(0, "a", "b", "&l\uFFFDt;")), nil},
	})
}

func TestNumberOfAttributes(t *testing.T) {
	for _, kind := range []uint8{api.TokStart, api.TokEnd} {
		for _, n := range []int{49, 50, 51, 60} {
			s, want := "<a", start(0, "a")
			if kind == api.TokEnd {
				s, want = "</a", end(0, "a")
			}
			var faults []api.Fault
			for i := range n {
				if i >= 50 {
					faults = append(faults, api.Fault{Kind: fatt, At: len(s) + 1})
				} else if kind == api.TokStart {
					want.Attrs = append(want.Attrs, api.Attr{Name: "n" + strconv.Itoa(i), Value: strconv.Itoa(i)})
				}
				s += " n" + strconv.Itoa(i) + "=" + strconv.Itoa(i)
			}
			faults = append(faults, api.Fault{Kind: fatt, At: len(s) + 1})
			check(t, []row{{s + " n7>", toks(want), faults}})
		}
	}
}

func TestElementsWithTextAlone(t *testing.T) {
	check(t, []row{
		{"<title>a<b>&amp;</title>", toks(start(0, "title"), text(7, "a<b>&"), end(16, "title")), nil},
		{"<TextArea>\x00&lt&#0;</TEXTAREA\n>", toks(start(0, "textarea"), text(10, "\uFFFD<\uFFFD"), end(18, "textarea")), nil},
		{"<title>&copy=1</title>", toks(start(0, "title"), text(7, "\u00a9=1"), end(14, "title")), nil},
		{"<script>a<b>&amp;\x00</Script>c", toks(start(0, "script"), text(8, "a<b>&amp;\uFFFD"), end(18, "script"), text(27, "c")), nil},
		{"<style></style>", toks(start(0, "style"), end(7, "style")), nil},
		{"<style/>a</style/>", toks(self(start(0, "style")), text(8, "a"), end(9, "style")), nil},
		{"<xmp></p></xmpp></xmp\t>", toks(start(0, "xmp"), text(5, "</p></xmpp>"), end(16, "xmp")), nil},
		{"<iframe></iframe", toks(start(0, "iframe"), text(8, "</iframe")), nil},
		{"<noembed></noembed ", toks(start(0, "noembed")), flts(api.Fault{Kind: fend, At: 19})},
		{"<noembed>a</noembed ", toks(start(0, "noembed"), text(9, "a")), flts(api.Fault{Kind: fend, At: 20})},
		{"<noframes><!--</noframes>-->", toks(start(0, "noframes"), text(10, "<!--"), end(14, "noframes"), text(25, "-->")), nil},
		{"<title>", toks(start(0, "title")), nil},
		{"<title>a", toks(start(0, "title"), text(7, "a")), nil},
		{"<title>&amp;lt;", toks(start(0, "title"), text(7, "&lt;")), nil},
		{"<title></style></title\f>", toks(start(0, "title"), text(7, "</style>"), end(15, "title")), nil},
		{"<title></</title></title>", toks(start(0, "title"), text(7, "</"), end(9, "title"), end(17, "title")), nil},
		{"<title></tit\x00le></title\x00></ title></title x>", toks(start(0, "title"), text(7, "</tit\uFFFDle></title\uFFFD></ title>"), end(34, "title")), nil},
		{"<style>\u017f</\u017ftyle></style>", toks(start(0, "style"), text(7, "\u017f</\u017ftyle>"), end(18, "style")), nil},
		{"</title>a<b>", toks(end(0, "title"), text(8, "a"), start(9, "b")), nil},
		{"<titles><b>", toks(start(0, "titles"), start(8, "b")), nil},
		{"<title", nil, flts(api.Fault{Kind: fend, At: 6})},
		{"<pre><b>", toks(start(0, "pre"), start(5, "b")), nil},
		{"x<script>y</script>z", toks(text(0, "x"), start(1, "script"), text(9, "y"), end(10, "script"), text(19, "z")), nil},
	})
}

func TestEachElementWithTextAlone(t *testing.T) {
	for _, name := range strings.Fields("script style xmp iframe noembed noframes title textarea p div plaintext noscript template scrip scripts") {
		for _, behind := range []string{">", "/>", " a='>'>"} {
			for _, inner := range []string{"", "<b>&lt;&copy=\x00", "</b><!--", "</" + name, "</" + name + "x>", "< /" + name + ">"} {
				for c := range 256 {
					hold(t, "<"+name+behind+inner+"</"+strings.ToUpper(name)+string([]byte{byte(c)})+"y>")
				}
			}
		}
	}
}

func TestEachByteEverywhere(t *testing.T) {
	frames := []string{"", "<", "</", "<a", "<a ", "<a x", "<a x ", "<a x=", "<a x= ", "<a x='", "<a x=\"1\"", "<a x=1", "<a/", "<!", "<!-", "<!--", "<!---", "<!--a-", "<!--a--", "<!--a--!", "<!doctyp", "<!doctype", "<!doctype a", "<!doctype a b", "<?", "&", "<title>", "<title></titl", "<style></style"}
	for _, f := range frames {
		hold(t, f)
		for c := range 256 {
			one := f + string([]byte{byte(c)})
			hold(t, one)
			for _, behind := range []string{">", "y>z", "=1>", "'>", "\">", "-->", "/>"} {
				hold(t, one+behind)
			}
		}
	}
}

func TestEachShortText(t *testing.T) {
	parts := []string{"<", "</", ">", "/", "=", "'", "\"", " ", "a", "B", "-", "--", "!", "?", "\x00", "&lt", ";", "<!doctype", "<title", "<style>", "</title>", "\xff"}
	var grow func(s string, left int)
	grow = func(s string, left int) {
		hold(t, s)
		if left == 0 {
			return
		}
		for _, p := range parts {
			grow(s+p, left-1)
		}
	}
	grow("", 4)
	for _, front := range []string{"<a ", "<a b", "</a b ", "<!--", "<title>", "x"} {
		grow(front, 3)
	}
}

// TestAllIsRead: what stands behind anything that is ended is read as if it stood alone, but for its place.
func TestAllIsRead(t *testing.T) {
	fronts := []string{"<a>", "</a b='>'>", "<!--a-->", "<!-->", "<!---->", "<!x>", "<?x>", "</ x>", "<!doctype a b>", "<p/>", "<b ===>", "<title>&lt;</title>"}
	for _, front := range fronts {
		for _, back := range append(fronts, "a", "\x00b", "&lt", "</>c", "<", "</", "<a", "<!--x", "<title>") {
			l, f := token.Tokens(front)
			m, g := token.Tokens(back)
			for _, k := range m {
				k.At += len(front)
				l = append(l, k)
			}
			for _, x := range g {
				x.At += len(front)
				f = append(f, x)
			}
			check(t, []row{{front + back, l, f}})
		}
	}
}

func TestAnswersAreNewMemory(t *testing.T) {
	const s = "<a b=1 c=2 d=3><p b=1 c=2 d=3>x</p><b =>"
	l, f := token.Tokens(s)
	for i := range l {
		// More room behind one list must not be another one's.
		_ = append(l[i].Attrs, api.Attr{Name: "z", Value: "z"})
		for j := range l[i].Attrs {
			l[i].Attrs[j].Name = "y"
		}
		if i+1 < len(l) && len(l[i+1].Attrs) > 0 && l[i+1].Attrs[0].Name == "y" {
			t.Errorf("tokens %d and %d share their attributes", i, i+1)
		}
	}
	for i := range f {
		f[i] = api.Fault{}
	}
	hold(t, s)
}

func TestLongTexts(t *testing.T) {
	for _, part := range []string{"a", "<", "</", "<a", "<a>", "<a ", "<a x=", "<a x='", "<!", "<!--", "<!----!>", "<!-->", "<!doctype", "<!doctype>", "<?", "&", "&lt", "\x00", "</>", "x='", " x", "=", "<title>", "<title></title", "<title></title>", "<style></", "-", "--!", "/", "'"} {
		s := strings.Repeat(part, 1<<20/len(part))
		l, f := token.Tokens(s)
		holdToWhatHolds(t, s, l, f)
		hold(t, strings.Repeat(part, 300))
	}
	if l, f := token.Tokens(strings.Repeat("<!----!>", 1<<17)); len(l) != 1<<17 || len(f) != 1<<17 {
		t.Error("many comments")
	}
	if l, f := token.Tokens(strings.Repeat("a\x00", 1<<20)); len(l) != 1 || len(l[0].Data) != 1<<20 || len(f) != 1<<20 {
		t.Error("a long text with many bytes 0")
	}
	if l, _ := token.Tokens("<a " + strings.Repeat("x ", 1<<20) + ">"); len(l) != 1 || len(l[0].Attrs) != 1 {
		t.Error("many attributes of one name")
	}
}

func FuzzTokens(f *testing.F) {
	for _, s := range []string{"<P a=1 a=2>x&lt;</p>", "<title>a<b>&amp;</title><!-- c --><!DOCTYPE Html>", "<a b = '1'c=\"2\"/ =x><!---!>--!></>", "</ x><?y><!z\x00>\x00&#0<style></STYLE/>"} {
		f.Add(s)
	}
	f.Fuzz(func(t *testing.T, s string) {
		if len(s) > 500 {
			return
		}
		hold(t, s)
	})
}

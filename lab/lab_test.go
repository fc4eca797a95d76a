package lab_test

import (
	"strings"
	"testing"

	"portiere/lab"
)

// plays says what a script of those lines writes.
func plays(t *testing.T, script []string, want ...string) {
	t.Helper()
	wrote(t, strings.Join(script, "\n")+"\n", want...)
}

func wrote(t *testing.T, script string, want ...string) {
	t.Helper()
	text := ""
	for _, line := range want {
		text += line + "\n"
	}
	if got := lab.Play(script); got != text {
		t.Errorf("%.300q\nwrites %.300q,\nnot    %.300q", script, got, text)
	}
}

// behind plays lines behind `doc 100`, of which what is written is left out.
func behind(t *testing.T, script []string, want ...string) {
	t.Helper()
	plays(t, append([]string{"doc 100"}, script...), append([]string{"ok"}, want...)...)
}

func lines(l ...string) []string { return l }

const host = "unsafe 0 <div><template shadowrootmode=open><slot></slot></template>a</div>" // 1 the Fragment, 2 div, 3 its shadow root, 4 slot, 5 a

func TestExample(t *testing.T) {
	plays(t, lines("doc 100", host, "flat 0", "get 0 0"), "ok", "ok 0", "nodes 0 2 4 5", "|<div>a</div>")
}

func TestExamplesOfTheWhole(t *testing.T) {
	behind(t, lines("html 0 <p>a<p>b", "get 0 0"), "ok 0", "|<p>a</p><p>b</p>")
	behind(t, lines("html 0 <ul><li>a<li>b</ul>&lt;", "get 0 0"), "ok 0", "|<ul><li>a</li><li>b</li></ul>&lt;")
	behind(t, lines("html 0 </p>", "get 0 0"), "ok 1", "|<p></p>")
	behind(t, lines("unsafe 0 <x-a><template shadowrootmode=closed shadowrootserializable><slot></slot></template>t</x-a>", "get 0 0", "get 0 1", "flat 0", "signals"),
		"ok 0", "|<x-a>t</x-a>", `|<x-a><template shadowrootmode="closed" shadowrootserializable=""><slot></slot></template>t</x-a>`, "nodes 0 2 4 5", "nodes 4")
	behind(t, lines("element div", "attach 1 m", "attach 1 -", "element a", "attach 3 -"), "ok 1", "ok 2", "error 101", "ok 3", "error 100")
	behind(t, lines("element div", "insert 1 1 -1", "insert 0 1 9"), "ok 1", "error 81", "error 80")
	behind(t, lines("element div", "set 1 Id a", "set 1 id a b", "insert 0 1 -1", "get 0 0"), "ok 1", "error 82", "ok", "ok", `|<div id="a b"></div>`)
	behind(t, lines("element template", "html 1 x", "get 1 0", "len"), "ok 1", "ok 0", "|x", "5")
	behind(t, lines("html 0 <b>x", "clone 2 0", "clone 2 1", "len"), "ok 0", "ok 4", "ok 5", "7")
}

func TestMakes(t *testing.T) {
	behind(t, lines("element x-a", "text a", "comment b", "fragment", "element template", "element slot", "len"), "ok 1", "ok 2", "ok 3", "ok 4", "ok 5", "ok 7", "8")
	behind(t, lines("element ", "element Div", "element a b", "element  a", "element a ", "element "+strings.Repeat("a", 61), "len"), "error 1", "error 1", "error 1", "error 1", "error 1", "error 1", "1")
	behind(t, lines("element "+strings.Repeat("a", 60), "text ", "comment ", "insert 0 3 -1", "get 0 0"), "ok 1", "ok 2", "ok 3", "ok", "|<!---->")
	plays(t, lines("doc 3", "element template", "fragment", "text a", "comment a", "element a", "len"), "ok", "ok 1", "error 3", "error 3", "error 3", "error 3", "3")
	plays(t, lines("doc 2", "element template", "text a"), "ok", "error 3", "ok 1")
}

// What a text is, a text it stays: nothing in it is read.
func TestWhatIsMadeOfARest(t *testing.T) {
	behind(t, lines("text a  b ", "comment  - ", "insert 0 1 -1", "insert 0 2 -1", "get 0 0"), "ok 1", "ok 2", "ok", "ok", "|a  b <!-- - -->")
	behind(t, lines("text <b>&amp;\r", "insert 0 1 -1", "get 0 0"), "ok 1", "ok", "|&lt;b&gt;&amp;amp;\r")
	behind(t, lines("text \x00\xff\xc3(\xe2\x82", "insert 0 1 -1", "get 0 0"), "ok 1", "ok", "|\x00\xff\xc3(\xe2\x82")
	behind(t, lines("element div", "write 1 a", "text ", "write 2  a b ", "insert 1 2 -1", "get 1 0", "write 2 ", "get 1 0", "write 2 |", "get 1 0"),
		"ok 1", "error 81", "ok 2", "ok", "ok", "| a b ", "ok", "|", "ok", "||")
}

func TestAttach(t *testing.T) {
	whole := `<template shadowrootmode="closed" shadowrootdelegatesfocus="" shadowrootserializable="" shadowrootslotassignment="manual" shadowrootclonable=""></template>`
	open := func(flag string) string { return `<template shadowrootmode="open"` + flag + `></template>` }
	rows := map[string]string{
		"-": open(""), "c": `<template shadowrootmode="closed"></template>`,
		"d": open(` shadowrootdelegatesfocus=""`), "s": open(` shadowrootserializable=""`), "m": open(` shadowrootslotassignment="manual"`), "k": open(` shadowrootclonable=""`),
		"sk": open(` shadowrootserializable="" shadowrootclonable=""`), "ks": open(` shadowrootserializable="" shadowrootclonable=""`),
		"cmdsk": whole, "ksdmc": whole, "ccc": `<template shadowrootmode="closed"></template>`, "cmdskcmdsk": whole,
	}
	for flags, want := range rows {
		behind(t, lines("element div", "attach 1 "+flags, "get 1 0 2", "get 1 0"), "ok 1", "ok 2", "|"+want, "|")
	}
	for _, flags := range strings.Split(",--,-c,c-,C,x,cx, c,c ,c m,c ,0,-1,é,\xff,\x00,c\t,-\r", ",") {
		behind(t, lines("element div", "attach 1 "+flags, "attach 1 -"), "ok 1", "bad 3", "ok 2")
	}
	behind(t, lines("attach 0 -", "attach 1 c", "attach -1 c", "element b", "attach 1 -", "attach 1", "attach", "attach -"), "error 100", "error 80", "error 80", "ok 1", "error 100", "bad 7", "bad 8", "bad 9")
	plays(t, lines("doc 2", "element div", "attach 1 -"), "ok", "ok 1", "error 3")
}

func TestClone(t *testing.T) {
	behind(t, lines("html 0 <b i=j>x<u></u></b>", "clone 2 0", "clone 2 1", "get 5 0", "get 6 0", "clone 0 1", "get 9 0"), "ok 0", "ok 5", "ok 6", "|", "|x<u></u>", "ok 9", `|<b i="j">x<u></u></b>`)
	behind(t, lines(host, "clone 3 1", "clone 9 0", "clone -1 1", "len"), "ok 0", "error 81", "error 80", "error 80", "6")
	behind(t, lines("element a", "clone 1", "clone 1 2", "clone 1 -1", "clone 1 00", "clone 1 01", "clone 1 1 1", "clone 1 1 ", "clone 1 ", "clone", "clone x 1", "len"),
		"ok 1", "bad 3", "bad 4", "bad 5", "bad 6", "bad 7", "bad 8", "bad 9", "bad 10", "bad 11", "bad 12", "2")
	plays(t, lines("doc 4", "html 0 <b>x", "clone 2 0", "clone 2 1", "len"), "ok", "ok 0", "error 3", "error 3", "4")
}

func TestInsertAndRemove(t *testing.T) {
	behind(t, lines("element a", "element b", "text c", "insert 0 1 -1", "insert 0 2 1", "insert 2 3 -1", "get 0 0", "remove 2", "get 0 0", "get 2 0"),
		"ok 1", "ok 2", "ok 3", "ok", "ok", "ok", "|<b>c</b><a></a>", "ok", "|<a></a>", "|c")
	behind(t, lines("element a", "insert 0 1 1", "insert 1 0 -1", "insert 0 2 -1", "insert 2 1 -1", "insert -1 1 -1", "insert 0 -1 -1", "remove 1", "remove 0", "remove 2", "remove -1"),
		"ok 1", "error 81", "error 81", "error 80", "error 80", "error 80", "error 80", "error 81", "error 81", "error 80", "error 80")
	behind(t, lines("element a", "insert 0 1", "insert 0 1 -1 ", "insert 0 1 -1 1", "insert 0 1 ", "insert 0  1 -1", "insert", "insert ", "insert 0 a -1", "remove", "remove ", "remove 1 1", "remove x", "get 0 0"),
		"ok 1", "bad 3", "bad 4", "bad 5", "bad 6", "bad 7", "bad 8", "bad 9", "bad 10", "bad 11", "bad 12", "bad 13", "bad 14", "|")
}

func TestSetAndDrop(t *testing.T) {
	behind(t, lines("element a", "insert 0 1 -1", "set 1 b c", "set 1 d ", "set 1 b  e  f ", `set 1 g "<&>`, "get 0 0", "drop 1 b", "drop 1 b", "get 0 0"),
		"ok 1", "ok", "ok", "ok", "ok", "ok", `|<a b=" e  f " d="" g="&quot;&lt;&amp;&gt;"></a>`, "ok", "error 82", `|<a d="" g="&quot;&lt;&amp;&gt;"></a>`)
	behind(t, lines("element a", "set 1 B c", "set 1 b/ c", "set 1 = c", "set 0 b c", "set 2 b c", "set -1 b c", "set 1 b "+strings.Repeat("c", 2001), "drop 0 b", "drop 2 b", "drop 1 ", "drop 1 b c"),
		"ok 1", "error 82", "error 82", "error 82", "error 81", "error 80", "error 80", "error 82", "error 81", "error 80", "error 82", "error 82")
	// Behind the name the blank has to be there; a name is a word, and no word is empty.
	behind(t, lines("element a", "set 1 b", "set 1 ", "set 1", "set", "set 1  b", "set 1  ", "set x b c", "drop 1", "drop", "drop ", "drop x b", "insert 0 1 -1", "get 0 0"),
		"ok 1", "bad 3", "bad 4", "bad 5", "bad 6", "bad 7", "bad 8", "bad 9", "bad 10", "bad 11", "bad 12", "bad 13", "ok", "|<a></a>")
	behind(t, lines("element a", "set 1 \xff\t b", "set 1 \xff b", "insert 0 1 -1", "get 0 0", "drop 1 \xff", "get 0 0"), "ok 1", "error 82", "ok", "ok", "|<a \xff=\"b\"></a>", "ok", "|<a></a>")
	behind(t, lines("write 0 a", "write 1 a", "write -1 ", "write 0", "write", "write ", "write x a"), "error 81", "error 80", "error 80", "bad 5", "bad 6", "bad 7", "bad 8")
}

func TestAssign(t *testing.T) {
	manual := "unsafe 0 <div><template shadowrootmode=open shadowrootslotassignment=manual><slot></slot><slot></slot></template>a<b></b></div>" // 4 and 5 the slots, 6 a, 7 b
	behind(t, lines(manual, "assigned 4", "assign 4 7 6 7", "assigned 4", "flat 0", "assign 5 6", "assigned 4", "assigned 5", "signals", "assign 5", "assigned 5", "signals"),
		"ok 0", "nodes", "ok", "nodes 7 6", "nodes 0 2 4 7 6 5", "ok", "nodes 7", "nodes 6", "nodes 4 5", "ok", "nodes", "nodes 5")
	behind(t, lines(manual, "assign 4 99", "assign 4 -1", "assign 99", "assign -1", "assign 2 6", "assign 0", "assign 4 0", "assign 4"+strings.Repeat(" 6", 200), "assign 4"+strings.Repeat(" 6", 201)),
		"ok 0", "error 80", "error 80", "error 80", "error 80", "error 110", "error 110", "error 81", "ok", "error 1")
	behind(t, lines(manual, "assign 4 6", "assign", "assign ", "assign 4 ", "assign 4 6 ", "assign 4  6", "assign 4 6 x", "assign 4 6 07", "assigned 4"),
		"ok 0", "ok", "bad 4", "bad 5", "bad 6", "bad 7", "bad 8", "bad 9", "bad 10", "nodes 6")
}

func TestTexts(t *testing.T) {
	behind(t, lines("html 0 &copy a</b>", "get 0 0", "unsafe 0 ", "get 0 0", "html 0 ", "html 0  b ", "get 0 0"), "ok 2", "|\u00a9 a", "ok 0", "|", "ok 0", "ok 0", "| b ")
	declared := `<div><template shadowrootmode="open" shadowrootserializable=""><b></b></template></div>`
	behind(t, lines("html 0 "+declared, "get 0 0", "get 0 1", "unsafe 0 "+declared, "get 0 0", "get 0 1"), "ok 0", "|"+declared, "|"+declared, "ok 0", "|<div></div>", "|"+declared)
	behind(t, lines("element br", "text a", "html 1 a", "unsafe 2 a", "html 3 a", "unsafe -1 a", "html 0 "+strings.Repeat("<br>", 97)), "ok 1", "ok 2", "error 81", "error 81", "error 80", "error 80", "error 3")
	behind(t, lines("html 0 a", "html 0", "html", "html ", "html x a", "unsafe 0", "unsafe", "unsafe ", "unsafe 00 a", "html  0 a", "get 0 0"), "ok 0", "bad 3", "bad 4", "bad 5", "bad 6", "bad 7", "bad 8", "bad 9", "bad 10", "bad 11", "|a")
}

func TestGet(t *testing.T) {
	behind(t, lines("unsafe 0 <div><template shadowrootmode=open shadowrootserializable>a</template><p><template shadowrootmode=open>b</template></p></div>", "get 0 0", "get 0 1", "get 0 0 3", "get 0 0 6", "get 0 1 6", "get 0 0 6 3 6 -1 999999", "get 2 0", "get 2 0 3", "get 3 0", "get 4 1"),
		"ok 0", "|<div><p></p></div>",
		`|<div><template shadowrootmode="open" shadowrootserializable="">a</template><p></p></div>`,
		`|<div><template shadowrootmode="open" shadowrootserializable="">a</template><p></p></div>`,
		`|<div><p><template shadowrootmode="open">b</template></p></div>`,
		`|<div><template shadowrootmode="open" shadowrootserializable="">a</template><p><template shadowrootmode="open">b</template></p></div>`,
		`|<div><template shadowrootmode="open" shadowrootserializable="">a</template><p><template shadowrootmode="open">b</template></p></div>`,
		"|<p></p>",
		`|<template shadowrootmode="open" shadowrootserializable="">a</template><p></p>`,
		"|a", "|")
	behind(t, lines("get 1 0", "get -1 1", "get 0", "get", "get 0 ", "get 0 2", "get 0 -1", "get 0 0 ", "get 0 0 x", "get 0 0 1 ", "get 0 0  1", "get 00 0", "get 0 0"),
		"error 80", "error 80", "bad 4", "bad 5", "bad 6", "bad 7", "bad 8", "bad 9", "bad 10", "bad 11", "bad 12", "bad 13", "|")
	// A text with ends of lines in it is written as it is.
	behind(t, lines("html 0 a&#10;b&#13;&#10;", "get 0 0", "len"), "ok 0", "|a\nb\r\n", "3")
}

func TestWhatIsShown(t *testing.T) {
	behind(t, lines("unsafe 0 <div><template shadowrootmode=open><p><template shadowrootmode=open><slot></slot></template><slot></slot><i></i></p></template>a<b></b></div>", // 2 div, 3 its root, 4 p, 5 its root, 6 slot, 7 slot, 8 i, 9 a, 10 b
		"flat 0", "flat 4", "flat 3", "flat 9", "kids 2", "kids 4", "kids 6", "kids 7", "kids 3", "assigned 6", "assigned 7", "assigned 2", "shown 6", "shown 7", "shown 2", "signals", "signals"),
		"ok 0", "nodes 0 2 4 6 7 9 10 8", "nodes 4 6 7 9 10 8", "nodes 3 4 6 7 9 10 8", "nodes 9", "nodes 4", "nodes 6", "nodes 7 8", "nodes 9 10", "nodes 4", "nodes 7 8", "nodes 9 10", "nodes", "nodes 9 10 8", "nodes 9 10", "nodes", "nodes 6 7", "nodes")
	// What is in a slot, if nothing is shown there.
	behind(t, lines("unsafe 0 <div><template shadowrootmode=open><slot>a<!--b--></slot></template></div>", "flat 2", "kids 4", "assigned 4", "shown 4", "signals"), "ok 0", "nodes 2 4 5 6", "nodes 5 6", "nodes", "nodes 5", "nodes")
	for _, word := range []string{"flat", "kids", "assigned", "shown"} {
		behind(t, lines(word+" 9", word+" -1", word+" 999999", word, word+" ", word+" 0 ", word+" 0 0", word+" 00", word+" x", word+"  0"),
			"nodes", "nodes", "nodes", "bad 5", "bad 6", "bad 7", "bad 8", "bad 9", "bad 10", "bad 11")
	}
}

func TestSignals(t *testing.T) {
	behind(t, lines(host, "signals", "signals", "remove 5", "insert 2 5 -1", "signals", "text b", "signals", "insert 2 6 5", "get 0 0", "flat 0", "signals"),
		"ok 0", "nodes 4", "nodes", "ok", "ok", "nodes 4", "ok 6", "nodes", "ok", "|<div>ba</div>", "nodes 0 2 4 6 5", "nodes 4")
	behind(t, lines(host, "signals ", "signals 0", "signal", "signals"), "ok 0", "bad 3", "bad 4", "bad 5", "nodes 4")
	// A new document has none.
	behind(t, lines(host, "doc 100", "signals", "len"), "ok 0", "ok", "nodes", "1")
}

func TestLen(t *testing.T) {
	behind(t, lines("len", "fragment", "len", "len ", "len 0", "fragment ", "fragment 0", "len"), "1", "ok 1", "2", "bad 5", "bad 6", "bad 7", "bad 8", "2")
}

func TestDoc(t *testing.T) {
	plays(t, lines("doc 1", "doc 5000", "doc 2"), "ok", "ok", "ok")
	plays(t, lines("doc 0", "doc -1", "doc 5001", "doc 999999"), "error 1", "error 1", "error 1", "error 1")
	plays(t, lines("doc 2", "element a", "element b", "doc 3", "len", "element a", "element b"), "ok", "ok 1", "error 3", "ok", "1", "ok 1", "ok 2")
	// There is none behind one that is refused, not even the one that was there.
	plays(t, lines("doc 9", "element a", "doc 5001", "len", "", "doc 9", "len"), "ok", "ok 1", "error 1", "bad 4", "bad 5", "ok", "1")
	// A line that is not right takes nothing away.
	plays(t, lines("doc 9", "element a", "doc", "doc ", "doc 1000000", "doc 9 ", "doc 9 9", "doc 09", "doc x", "Doc 9", "doc  9", "doc9", " doc 9", "len"),
		"ok", "ok 1", "bad 3", "bad 4", "bad 5", "bad 6", "bad 7", "bad 8", "bad 9", "bad 10", "bad 11", "bad 12", "bad 13", "2")
}

func TestWithoutADocument(t *testing.T) {
	all := lines("element a", "text a", "comment a", "fragment", "attach 0 -", "clone 0 0", "insert 0 0 -1", "remove 0", "set 0 a b", "drop 0 a", "write 0 a", "assign 0", "html 0 a", "unsafe 0 a", "get 0 0", "flat 0", "kids 0", "assigned 0", "shown 0", "signals", "len", "", "x", "doc")
	for _, line := range all {
		plays(t, lines(line, "doc 0", line, line), "bad 1", "error 1", "bad 3", "bad 4")
	}
}

func TestNumbers(t *testing.T) {
	for _, n := range []string{"-1", "1", "9", "10", "100", "123456", "999999"} {
		behind(t, lines("remove "+n), "error 80")
	}
	behind(t, lines("remove 0"), "error 81")
	for _, n := range []string{"", "00", "01", "007", "-0", "-2", "-01", "-11", "--1", "-", "+1", "+", "1000000", "0000001", "9999999", "18446744073709551616", "1x", "x1", "x", "1.0", "1.", "0x1", "1e1", "1_0", "\u0661", "\uff11", "\u00b9", "1\t", "\t1", "1\r", "1\x00", "\xff", "1\xff", "'1'", "1,", "/", ":", "1:"} {
		behind(t, lines("remove "+n, "html "+n+" a", "assign 0 "+n, "get 0 0 "+n, "insert 0 0 "+n, "flat "+n, "doc "+n, "len"), "bad 2", "bad 3", "bad 4", "bad 5", "bad 6", "bad 7", "bad 8", "1")
	}
}

func TestLinesThatAreNone(t *testing.T) {
	for _, line := range []string{"", " ", "  ", "x", "len\r", "len\t", "\tlen", " len", "LEN", "Len", "le", "lens", "len\x00", "\x00", "\xff", "\u00a0", "bad 1", "ok", "element", "Element a", "element\ta", "text", "comment", "element\xa0a", "elementa", "shadow 1 -", "root 1 -", "make a", "append 0 1", "give 0 1", "find 0", "//", "#"} {
		behind(t, lines(line, "len", line), "bad 2", "1", "bad 4")
	}
}

// A line ends at 0a, and at nothing else.
func TestEnds(t *testing.T) {
	wrote(t, "")
	wrote(t, "\n", "bad 1")
	wrote(t, "\n\n", "bad 1", "bad 2")
	wrote(t, " ", "bad 1")
	wrote(t, "doc 9", "ok")
	wrote(t, "doc 9\n", "ok")
	wrote(t, "doc 9\n\n", "ok", "bad 2")
	wrote(t, "\ndoc 9", "bad 1", "ok")
	wrote(t, "doc 9\nlen\n", "ok", "1")
	wrote(t, "doc 9\r\nlen", "bad 1", "bad 2")
	wrote(t, "doc 9\rlen", "bad 1")
	wrote(t, "doc 9\ntext a\rtext b\u2028text c\x0btext d\x0ctext e\x00text f\u0085\nlen", "ok", "ok 1", "2")
	wrote(t, "doc 9\ntext ", "ok", "ok 1")
	wrote(t, "doc 9\ntext \n", "ok", "ok 1")
	wrote(t, "doc 9\ntext", "ok", "bad 2")
	wrote(t, "doc 9\nset 0 a ", "ok", "error 81")
}

// One script knows nothing of another.
func TestScriptsAlone(t *testing.T) {
	behind(t, lines("element a", "len"), "ok 1", "2")
	wrote(t, "len", "bad 1")
	behind(t, lines("element a", "len"), "ok 1", "2")
}

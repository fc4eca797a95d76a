package tree_test

import (
	"fmt"
	"math"
	"math/rand"
	"reflect"
	"strconv"
	"strings"
	"testing"

	"portiere/api"
	"portiere/token"
	"portiere/tree"
)

// told writes items and faults shortly: "0p 1'text' 1!comment 0?doctype", "nest@3".
func told(l []api.Item, f []api.Fault) (string, string) {
	var items, faults []string
	for _, item := range l {
		s := strconv.Itoa(item.Deep)
		switch item.Kind {
		case api.Element:
			s += item.Name
		case api.Text:
			s += "'" + item.Data + "'"
		case api.Comment:
			s += "!" + item.Data
		case api.Doctype:
			s += "?" + item.Name
		}
		for _, a := range item.Attrs {
			s += "," + a.Name + "=" + a.Value
		}
		items = append(items, s)
	}
	kinds := map[uint8]string{api.FaultTag: "tag", api.FaultAttr: "attr", api.FaultNest: "nest", api.FaultClosed: "closed"}
	for _, x := range f {
		faults = append(faults, kinds[x.Kind]+"@"+strconv.Itoa(x.At))
	}
	return strings.Join(items, " "), strings.Join(faults, " ")
}

// same compares answers; a list that is nil and one that is empty are the same.
func same(l, m []api.Item, f, g []api.Fault) bool {
	if len(l) != len(m) || len(f) != len(g) {
		return false
	}
	for i, a := range l {
		b := m[i]
		if len(a.Attrs) == 0 && len(b.Attrs) == 0 {
			a.Attrs, b.Attrs = nil, nil
		}
		if !reflect.DeepEqual(a, b) {
			return false
		}
	}
	for i := range f {
		if f[i] != g[i] {
			return false
		}
	}
	return true
}

// short is tokens for a message: not all of them, if they are many.
func short(l []api.Token) string {
	return fmt.Sprintf("%.1500v", fmt.Sprint(l))
}

func hold(t *testing.T, tokens []api.Token) {
	t.Helper()
	l, f, e := tree.Build(tokens)
	m, g, d := buildByWords(tokens)
	if e != d || !same(l, m, f, g) {
		t.Fatalf("Build(%s) = %.1500v, %.300v, %d, not %.1500v, %.300v, %d", short(tokens), fmt.Sprint(l), fmt.Sprint(f), e, fmt.Sprint(m), fmt.Sprint(g), d)
	}
	if e != api.OK && (len(l) > 0 || len(f) > 0) {
		t.Fatalf("Build(%s): items or faults beside an error", short(tokens))
	}
	if !tree.Sound(l) || !soundByWords(l) {
		t.Fatalf("Build(%s) is not sound", short(tokens))
	}
}

// row is a text, and what must come of its tokens.
type row struct{ text, items, faults string }

func check(t *testing.T, rows []row) {
	t.Helper()
	for _, r := range rows {
		tokens, _ := token.Tokens(r.text)
		l, f, e := tree.Build(tokens)
		if items, faults := told(l, f); items != r.items || faults != r.faults || e != api.OK {
			t.Errorf("%q: %q, %q, %d, not %q, %q", r.text, items, faults, e, r.items, r.faults)
		}
		hold(t, tokens)
	}
}

func TestNothing(t *testing.T) {
	for _, tokens := range [][]api.Token{nil, {}, {{}}, {{Kind: 6, Name: "p", Data: "x"}, {Kind: 255, Name: "p"}}} {
		if l, f, e := tree.Build(tokens); len(l) != 0 || len(f) != 0 || e != api.OK {
			t.Errorf("Build(%v) = %v, %v, %d", tokens, l, f, e)
		}
	}
}

func TestPlainTrees(t *testing.T) {
	check(t, []row{
		{"", "", ""},
		{"a", "0'a'", ""},
		{"<b>a</b>c", "0b 1'a' 0'c'", ""},
		{"<b><i><u></u></i>x</b>y", "0b 1i 2u 1'x' 0'y'", ""},
		{"<b><!--c--></b><!---->", "0b 1!c 0!", ""},
		{"<x-a/>t", "0x-a 1't'", ""},
		{"a<br>b<img>c<hr/>", "0'a' 0br 0'b' 0img 0'c' 0hr", ""},
		{"<b><input>x</b>", "0b 1input 1'x'", ""},
		{"<b>a", "0b 1'a'", ""},
		{"<slot name=s id=1></slot>", "0slot,name=s,id=1", ""},
		{"<title><b></title>x", "0title 1'<b>' 0'x'", ""},
	})
}

func TestDoctypes(t *testing.T) {
	check(t, []row{
		{"<!doctype html><p>", "0?html 0p", ""},
		{"<!doctype>", "0?", ""},
		{"<!doctype a=/'>", "0?a=/'", ""},
		{"x<!doctype html>", "0'x'", "nest@1"},
		{"<b><!doctype html>x", "0b 1'x'", "nest@3"},
		{"<!----><!doctype html>", "0!", "nest@7"},
		{"<!doctype a><!doctype b>", "0?a", "nest@12"},
		{"</b></br><!doctype b>", "0br", "nest@0 nest@4 nest@9"},
		{"</b><a\u00e4><!doctype b>", "0?b", "nest@0 tag@4"},
	})
	hold(t, []api.Token{{Kind: api.TokText}, {Kind: 9, Data: "x"}, {Kind: api.TokDoctype, Name: strings.Repeat("A ", 99), At: 1}})
}

func TestTexts(t *testing.T) {
	tokens := []api.Token{{Kind: api.TokText, At: 1}, {Kind: api.TokText, Data: "a"}, {Kind: api.TokText, Data: "b"}, {Kind: api.TokComment}, {Kind: api.TokText}}
	l, f, _ := tree.Build(tokens)
	if items, faults := told(l, f); items != "0'a' 0'b' 0!" || faults != "" {
		t.Errorf("texts: %q, %q", items, faults)
	}
	hold(t, tokens)
}

func TestNamesThatAreNone(t *testing.T) {
	long := strings.Repeat("a", 60)
	check(t, []row{
		{"<a\u00e4>x</a\u00e4>", "0'x'", "tag@0 nest@6"},
		{"<b><p\"><i>", "0b 1i", "tag@3"},
		{"<" + long + ">x", "0" + long + " 1'x'", ""},
		{"<" + long + "a>x</" + long + "a>", "0'x'", "tag@0 nest@64"},
	})
	hold(t, []api.Token{{Kind: api.TokStart, Name: "P", Attrs: []api.Attr{{}, {Name: "a"}}, At: 7}, {Kind: api.TokStart, At: -7}, {Kind: api.TokStart, Name: "1"}, {Kind: api.TokEnd}, {Kind: api.TokEnd, Name: "P"}})
	// What is not there has too many of nothing.
	many := make([]api.Attr, 60)
	for i := range many {
		many[i].Name = "n" + strconv.Itoa(i)
	}
	hold(t, []api.Token{{Kind: api.TokStart, Name: "B", Attrs: many}, {Kind: api.TokEnd, Name: "br", Attrs: many}, {Kind: api.TokText, Data: "x", Attrs: many}})
}

func TestItemsOfLists(t *testing.T) {
	check(t, []row{
		{"<ul><li>a<li>b</ul>", "0ul 1li 2'a' 1li 2'b'", ""},
		{"<li>a<li>b", "0li 1'a' 0li 1'b'", ""},
		{"<ul><li><b>a<li>b", "0ul 1li 2b 3'a' 1li 2'b'", ""},
		{"<li><ul><li>", "0li 1ul 2li", ""},
		{"<li><ol><li>", "0li 1ol 2li", ""},
		{"<li><menu><li>", "0li 1menu 0li", ""},
		{"<li><template><li>", "0li 1template 2li", ""},
		{"<li><button><li>", "0li 1button 2li", ""},
		{"<li><object><li>", "0li 1object 2li", ""},
		{"<li><dl><dd><li>", "0li 1dl 2dd 0li", ""},
		{"<p>a<li>b", "0p 1'a' 0li 1'b'", ""},
		{"<p><b><li>", "0p 1b 0li", ""},
		{"<ul><p><li>", "0ul 1p 1li", ""},
		{"<li><p>a<li>b", "0li 1p 2'a' 0li 1'b'", ""},
		{"<p><span><button><li>", "0p 1span 2button 3li", ""},
		{"<ul><li>a</li>b</ul>", "0ul 1li 2'a' 1'b'", ""},
	})
}

func TestItemsOfDefinitions(t *testing.T) {
	check(t, []row{
		{"<dl><dt>a<dd>b<dt>c</dl>", "0dl 1dt 2'a' 1dd 2'b' 1dt 2'c'", ""},
		{"<dd>a<dd>b", "0dd 1'a' 0dd 1'b'", ""},
		{"<dt>a<dt>b", "0dt 1'a' 0dt 1'b'", ""},
		{"<dd><dl><dt>", "0dd 1dl 2dt", ""},
		{"<dd><template><dt>", "0dd 1template 2dt", ""},
		{"<dd><button><dt>", "0dd 1button 2dt", ""},
		{"<dd><object><dd>", "0dd 1object 2dd", ""},
		{"<dd><ul><li><dt>", "0dd 1ul 2li 0dt", ""},
		{"<p>a<dd>b", "0p 1'a' 0dd 1'b'", ""},
		{"<p>a<dt>b", "0p 1'a' 0dt 1'b'", ""},
		{"<li><dd>a<li>b", "0li 1dd 2'a' 0li 1'b'", ""},
	})
}

func TestOptions(t *testing.T) {
	check(t, []row{
		{"<select><option>a<option>b", "0select 1option 2'a' 1option 2'b'", ""},
		{"<option><b><option>", "0option 1b 2option", ""},
		{"<optgroup><option>a<optgroup><option>b", "0optgroup 1option 2'a' 0optgroup 1option 2'b'", ""},
		{"<optgroup><optgroup>", "0optgroup 0optgroup", ""},
		{"<option><optgroup>", "0option 0optgroup", ""},
		{"<optgroup><option><option>", "0optgroup 1option 1option", ""},
		{"<option><optgroup><option><optgroup>", "0option 0optgroup 1option 0optgroup", ""},
		{"<optgroup><b><optgroup>", "0optgroup 1b 2optgroup", ""},
		{"<optgroup><b><option><optgroup>", "0optgroup 1b 2option 2optgroup", ""},
		{"<p><option>", "0p 1option", ""},
	})
}

func TestHeadings(t *testing.T) {
	check(t, []row{
		{"<h1>a<h2>b", "0h1 1'a' 0h2 1'b'", "closed@5"},
		{"<h6><h6>", "0h6 0h6", "closed@4"},
		{"<h1><b><h2>", "0h1 1b 2h2", ""},
		{"<h1></h1><h2>", "0h1 0h2", ""},
		{"<h1>a</h3>b", "0h1 1'a' 0'b'", "closed@5"},
		{"<h1><p>a</h1>b", "0h1 1p 2'a' 0'b'", ""},
		{"<h1><b>a</h2>b", "0h1 1b 2'a' 0'b'", "closed@8"},
		{"<h1><b><h2></h1>x", "0h1 1b 2h2 2'x'", "closed@11"},
		{"<h1><template></h1>x", "0h1 1template 2'x'", "nest@14"},
		{"<h1><button></h1>x", "0h1 1button 0'x'", "closed@12"},
		{"<h7><h7>", "0h7 1h7", ""},
		{"<h1><h7></h7></h1>", "0h1 1h7", ""},
		{"<h1><h7></h1>", "0h1 1h7", "closed@8"},
		{"</h1>", "", "nest@0"},
		{"<p><h1>", "0p 0h1", ""},
	})
}

func TestLinksAndButtons(t *testing.T) {
	check(t, []row{
		{"<a>x<a>y", "0a 1'x' 0a 1'y'", "closed@4"},
		{"<a><b><a>y", "0a 1b 0a 1'y'", "closed@6"},
		{"<a><button><object><a>y", "0a 1button 2object 0a 1'y'", "closed@19"},
		{"<a><template><a>y", "0a 1template 2a 3'y'", ""},
		{"<button>x<button>y", "0button 1'x' 0button 1'y'", "closed@9"},
		{"<button><div><object><button>y", "0button 1div 2object 0button 1'y'", "closed@21"},
		{"<button><template><button>y", "0button 1template 2button 3'y'", ""},
		{"<a><button>", "0a 1button", ""},
		{"<a></a><a>", "0a 0a", ""},
		{"<p><a><p><a>", "0p 1a 0p 1a", ""},
		{"<a B b b=2><a c c>", "0a,b= 0a,c=", "closed@11"},
	})
}

func TestParagraphs(t *testing.T) {
	check(t, []row{
		{"<p>a<p>b", "0p 1'a' 0p 1'b'", ""},
		{"<p>a<div>b", "0p 1'a' 0div 1'b'", ""},
		{"<p>a<hr>b", "0p 1'a' 0hr 0'b'", ""},
		{"<p>a<br>b", "0p 1'a' 1br 1'b'", ""},
		{"<p>a<b>b", "0p 1'a' 1b 2'b'", ""},
		{"<p><b><i><ul>", "0p 1b 2i 0ul", ""},
		{"<p><button><p>", "0p 1button 2p", ""},
		{"<p><object><div>", "0p 1object 2div", ""},
		{"<p><template><table>", "0p 1template 2table", ""},
		{"<p><x-a><p>", "0p 1x-a 0p", ""},
		{"<div><p></div>x", "0div 1p 0'x'", ""},
		{"<p><p><p>", "0p 0p 0p", ""},
	})
}

func TestEndsOfParagraphs(t *testing.T) {
	check(t, []row{
		{"</p>", "0p", "nest@0"},
		{"<div></p>x", "0div 1p 1'x'", "nest@5"},
		{"<p></p></p>x", "0p 0p 0'x'", "nest@7"},
		{"<p><div></p>", "0p 0div 1p", "nest@8"},
		{"<p><button></p>x", "0p 1button 2p 2'x'", "nest@11"},
		{"<p><object></p>x", "0p 1object 2p 2'x'", "nest@11"},
		{"<p><template></p>x", "0p 1template 2p 2'x'", "nest@13"},
		{"<button><p></p>x", "0button 1p 1'x'", ""},
		{"<p><b></p>x", "0p 1b 0'x'", "closed@6"},
		{"<p><option></p>x", "0p 1option 0'x'", ""},
	})
}

func TestEndsOfVoidElements(t *testing.T) {
	check(t, []row{
		{"</br>x", "0br 0'x'", "nest@0"},
		{"<b></br>x", "0b 1br 1'x'", "nest@3"},
		{"<br></br>", "0br 0br", "nest@4"},
		{"<p></br></p>", "0p 1br", "nest@3"},
		{"<hr></hr>x", "0hr 0'x'", "nest@4"},
		{"<p></hr>x", "0p 1'x'", "nest@3"},
	})
	for _, name := range strings.Fields(voidNames) {
		if name != "br" {
			check(t, []row{{"<b><" + name + "></" + name + ">x", "0b 1" + name + " 1'x'", "nest@" + strconv.Itoa(5+len(name))}})
		}
	}
}

func TestEnds(t *testing.T) {
	check(t, []row{
		{"</b>", "", "nest@0"},
		{"<b></i>x", "0b 1'x'", "nest@3"},
		{"<b><i></b>x", "0b 1i 0'x'", "closed@6"},
		{"<b><i></b></i>", "0b 1i", "closed@6 nest@10"},
		{"<b><b></b>x", "0b 1b 1'x'", ""},
		{"<ul><li><p></ul>", "0ul 1li 2p", ""},
		{"<x><dd><dt></x>y", "0x 1dd 1dt 0'y'", ""},
		{"<x><dl><dd><p><option><optgroup></x>", "0x 1dl 2dd 3p 4option 4optgroup", "closed@32"},
		{"<select><optgroup><option></select>x", "0select 1optgroup 2option 0'x'", ""},
		{"<dl><dt></dl>x", "0dl 1dt 0'x'", ""},
		{"<ul><li><b></ul>x", "0ul 1li 2b 0'x'", "closed@11"},
		{"<ul><b><li></ul>x", "0ul 1b 2li 0'x'", "closed@11"},
		{"<li><b></li>x", "0li 1b 0'x'", "closed@7"},
		{"<b><template></b>x", "0b 1template 2'x'", "nest@13"},
		{"<b><button></b>x", "0b 1button 0'x'", "closed@11"},
		{"<b><object></b>x", "0b 1object 0'x'", "closed@11"},
		{"<template><b></template>x", "0template 1b 0'x'", "closed@13"},
		{"<template><template></template>x</template>y", "0template 1template 1'x' 0'y'", ""},
		{"<template></template>", "0template", ""},
		{"</template>", "", "nest@0"},
		{"<button><object></button>x", "0button 1object 0'x'", "closed@16"},
		{"<li><ul></li>x", "0li 1ul 0'x'", "closed@8"},
		{"<b></B a=1/>x", "0b 0'x'", ""},
	})
}

func TestEachNameEndsAParagraphOrNot(t *testing.T) {
	all := strings.Fields(voidNames + blockNames + boundNames + looseNames + " a b span slot select td tr dir center body html x-a h7 pp")
	for _, first := range all {
		for _, second := range all {
			hold(t, []api.Token{{Kind: api.TokStart, Name: "p"}, {Kind: api.TokStart, Name: first, At: 1}, {Kind: api.TokStart, Name: second, At: 2}, {Kind: api.TokText, Data: "x"}, {Kind: api.TokEnd, Name: first, At: 3}, {Kind: api.TokEnd, Name: second, At: 4}, {Kind: api.TokText, Data: "y"}})
		}
	}
}

func starts(names ...string) []api.Token {
	var out []api.Token
	for _, name := range names {
		out = append(out, api.Token{Kind: api.TokStart, Name: name})
	}
	return out
}

func ends(names ...string) []api.Token {
	out := starts(names...)
	for i := range out {
		out[i].Kind = api.TokEnd
	}
	return out
}

// TestEachShortList: all lists of these tokens up to a length, with what is open told by a text behind each.
func TestEachShortList(t *testing.T) {
	groups := []struct {
		names string
		left  int
	}{
		{"p div li ul ol dl dd dt option optgroup h1 h2 h6 a button template object br hr b P", 3},
		{"li ul p template b", 5},
		{"dd dt dl button b", 5},
		{"option optgroup b select", 5},
		{"h1 h2 p object b", 5},
		{"a button template p", 5},
	}
	for _, g := range groups {
		parts := append(starts(strings.Fields(g.names)...), ends(strings.Fields(g.names)...)...)
		parts = append(parts, api.Token{Kind: api.TokDoctype, Name: "d"})
		var list []api.Token
		var grow func(left int)
		grow = func(left int) {
			hold(t, append(list, api.Token{Kind: api.TokText, Data: "x"}))
			if left == 0 {
				return
			}
			for _, part := range parts {
				part.At = len(list)
				list = append(list, part)
				grow(left - 1)
				list = list[:len(list)-1]
			}
		}
		grow(g.left)
	}
}

// random makes tokens of a few names, that nest deep at times.
func random(r *rand.Rand, n int) []api.Token {
	names := strings.Fields("p p div li ul ol dl dd dt option optgroup h1 h2 h3 h4 h5 h6 a button template object br hr img b i span x-a 1 B " + voidNames + blockNames)
	if r.Intn(3) == 0 {
		names = strings.Fields("b i u span x-a ul dl template p")
	}
	stay := 1 + r.Intn(5)
	var out []api.Token
	for i := range n {
		t := api.Token{Kind: api.TokStart, Name: names[r.Intn(len(names))], At: r.Intn(2*n) - i, Self: r.Intn(4) == 0}
		if r.Intn(stay+1) == 0 {
			t.Kind = uint8(r.Intn(8))
		} else if r.Intn(stay) == 0 {
			t.Kind = api.TokEnd
		}
		if r.Intn(2) == 0 {
			t.Data = "d"
		}
		for r.Intn(3) == 0 {
			t.Attrs = append(t.Attrs, api.Attr{Name: string([]byte{byte(r.Intn(256))}), Value: strconv.Itoa(r.Intn(9))})
		}
		out = append(out, t)
	}
	return out
}

func TestRandomLists(t *testing.T) {
	r := rand.New(rand.NewSource(7))
	for range 3000 {
		hold(t, random(r, 1+r.Intn(60)))
	}
	for range 300 {
		hold(t, random(r, 500))
	}
	for range 6 {
		hold(t, random(r, 12000))
	}
}

func TestDepth(t *testing.T) {
	var tokens []api.Token
	for i := range 130 {
		tokens = append(tokens, api.Token{Kind: api.TokStart, Name: "b", At: i}, api.Token{Kind: api.TokText, Data: "x"})
	}
	l, f, e := tree.Build(tokens)
	if e != api.OK || len(f) > 0 || len(l) != 260 {
		t.Fatalf("%d items, %v, %d", len(l), f, e)
	}
	for i := range 130 {
		b, x := l[2*i].Deep, l[2*i+1].Deep
		if b != min(i, 100) || x != min(i+1, 100) {
			t.Errorf("element %d is at %d, the text behind it at %d", i, b, x)
		}
	}
	hold(t, tokens)
	// What was never opened is not ended: each end is one of those that are open.
	for i := range 103 {
		tokens = append(tokens, api.Token{Kind: api.TokEnd, Name: "b", At: i})
	}
	if _, f, _ = tree.Build(tokens); len(f) != 3 {
		t.Errorf("faults: %v", f)
	}
	hold(t, tokens)
	// An end opens none, and one that ends another may be opened in its place.
	deep := starts(strings.Fields(strings.Repeat("b ", 98))...)
	deep = append(deep, starts("li", "p", "i", "br", "li", "i", "p", "i")...)
	deep = append(deep, ends("p", "br", "p", "h1")...)
	hold(t, append(deep, api.Token{Kind: api.TokText, Data: "x"}))
}

func TestNumberOfItems(t *testing.T) {
	kinds := []api.Token{
		{Kind: api.TokText, Data: "x"}, {Kind: api.TokComment}, {Kind: api.TokStart, Name: "br"}, {Kind: api.TokStart, Name: "b"},
		{Kind: api.TokEnd, Name: "br"}, {Kind: api.TokEnd, Name: "p"}, {Kind: api.TokStart, Name: "li"},
	}
	for _, kind := range kinds {
		for _, n := range []int{4999, 5000, 5001, 6000} {
			tokens := make([]api.Token, n)
			for i := range tokens {
				tokens[i] = kind
			}
			l, f, e := tree.Build(tokens)
			if n <= 5000 && (e != api.OK || len(l) != n) || n > 5000 && (e != api.ErrLimit || len(l) > 0 || len(f) > 0) {
				t.Errorf("%v, %d times: %d items, %d faults, %d", kind, n, len(l), len(f), e)
			}
			hold(t, tokens)
			// What makes no item does not count.
			tokens = append(tokens, api.Token{Kind: api.TokText}, api.Token{Kind: api.TokStart, Name: "1"}, api.Token{Kind: api.TokEnd, Name: "u"}, api.Token{Kind: api.TokDoctype}, api.Token{})
			hold(t, tokens)
		}
	}
	many := make([]api.Token, 1<<20)
	for i := range many {
		many[i] = api.Token{Kind: api.TokEnd, Name: "b", At: i}
	}
	if l, f, e := tree.Build(many); len(l) != 0 || len(f) != 1<<20 || f[1<<20-1] != (api.Fault{Kind: api.FaultNest, At: 1<<20 - 1}) || e != api.OK {
		t.Error("many ends of nothing")
	}
}

func TestAnswersAreNewMemory(t *testing.T) {
	tokens := []api.Token{
		{Kind: api.TokStart, Name: "b", Attrs: []api.Attr{{Name: "a", Value: "1"}, {Name: "B"}, {Name: "c", Value: "2"}, {Name: "d"}}[:3]},
		{Kind: api.TokStart, Name: "i", Attrs: []api.Attr{{Name: "a", Value: "1"}, {Name: "c", Value: "2"}}},
		{Kind: api.TokEnd, Name: "u"},
	}
	l, f, _ := tree.Build(tokens)
	for i := range l {
		_ = append(l[i].Attrs, api.Attr{Name: "z"})
		for j := range l[i].Attrs {
			l[i].Attrs[j].Name = "y"
		}
		if i+1 < len(l) && l[i+1].Attrs[0].Name != "a" {
			t.Error("two items share their attributes")
		}
	}
	for i := range f {
		f[i] = api.Fault{}
	}
	if !reflect.DeepEqual(tokens[0].Attrs[:4], []api.Attr{{Name: "a", Value: "1"}, {Name: "B"}, {Name: "c", Value: "2"}, {Name: "d"}}) || tokens[1].Attrs[0].Name != "a" {
		t.Error("what was handed in is changed")
	}
	hold(t, tokens)
}

// tokensOf makes tokens of any bytes.
func tokensOf(b []byte) []api.Token {
	names := strings.Fields("p div li ul ol dl dd dt option optgroup h1 h2 h6 a button template object br hr img b i x-a X")
	var out []api.Token
	for i := 0; i+1 < len(b); i += 2 {
		t := api.Token{Kind: b[i] % 7, Name: names[int(b[i+1])%len(names)], At: i}
		if b[i]&64 != 0 {
			t.Data = "d"
		}
		if b[i]&128 != 0 {
			t.Attrs = []api.Attr{{Name: "a"}, {Name: string(b[i+1 : i+2])}, {Name: "a"}}
		}
		out = append(out, t)
	}
	return out
}

func FuzzBuild(f *testing.F) {
	f.Add([]byte("\x01\x00\x01\x01\x02\x00"), "<ul><li>a<li>b</ul>")
	f.Add([]byte("\x05\x00\x81\x10\x43\x00\x02\x10"), "<p><a x X=1><template></p></a><h1></h2>")
	f.Fuzz(func(t *testing.T, b []byte, s string) {
		if len(b) > 1000 || len(s) > 1000 {
			return
		}
		hold(t, tokensOf(b))
		tokens, _ := token.Tokens(s)
		hold(t, tokens)
	})
}

func TestPlacesMayBeAny(t *testing.T) {
	for _, at := range []int{0, -1, 7, math.MaxInt, math.MinInt} {
		_, f, _ := tree.Build([]api.Token{{Kind: api.TokEnd, Name: "b", At: at}})
		if len(f) != 1 || f[0] != (api.Fault{Kind: api.FaultNest, At: at}) {
			t.Errorf("at %d: %v", at, f)
		}
	}
}

package build_test

import (
	"math"
	"slices"
	"strings"
	"testing"

	"portiere/api"
	"portiere/build"
	"portiere/dom"
)

// holdText holds a text's nodes, in a new document, to a shape; what is there ahead (node 0) is left out of it.
func holdText(t *testing.T, text string, shadows bool, want string) {
	t.Helper()
	d := dom.New(100)
	i, _, err := parse(t, d, text, shadows)
	if i != 1 || err != api.OK {
		t.Errorf("Parse(%q) = %d, %d", text, i, err)
	}
	if got := shape(tell(d)); got != "0# "+want {
		t.Errorf("Parse(%q, %v) makes\n%s, not\n0# %s", text, shadows, got, want)
	}
}

func TestExampleOfTheChapter(t *testing.T) {
	holdText(t, "<div><template shadowrootmode=open><slot></slot></template>a</div>", true, `1#(2) 2div^3(5) 3^2(4) 4slot 5"a"`)
}

func TestNodesOfTexts(t *testing.T) {
	rows := []struct{ text, want string }{
		{"", "1#"},
		{"a", `1#(2) 2"a"`},
		{"<p>a<p>b", `1#(2 4) 2p(3) 3"a" 4p(5) 5"b"`},
		{"<ul><li>a<li>b</ul>c", `1#(2 7) 2ul(3 5) 3li(4) 4"a" 5li(6) 6"b" 7"c"`},
		{"<!doctype HTML><!--x--><b id=a class='b c'>y<br>z</b>", `1#(2 3 4) 2?html 3!x 4b,id=a,class=b c(5 6 7) 5"y" 6br 7"z"`},
		{"</p>", "1#(2) 2p"},
		{"<script><b></script>", `1#(2) 2script(3) 3"<b>"`},
		{"<b><i><u>a</u>b</i>c</b>d", `1#(2 8) 2b(3 7) 3i(4 6) 4u(5) 5"a" 6"b" 7"c" 8"d"`},
		// A Doctype may have any name: it has no content, and is no host.
		{"<!doctype template>a", `1#(2 3) 2?template 3"a"`},
		{"<!doctype div><template shadowrootmode=open>", "1#(2 3) 2?div 3template,shadowrootmode=open>4 4<3"},
	}
	for _, r := range rows {
		holdText(t, r.text, false, r.want)
		holdText(t, r.text, true, r.want)
	}
}

// What is in a template is put into its content, which comes behind it.
func TestContents(t *testing.T) {
	rows := []struct{ text, want string }{
		{"<template></template>", "1#(2) 2template>3 3<2"},
		{"<template><b>x</b>y</template>z", `1#(2 7) 2template>3 3<2(4 6) 4b(5) 5"x" 6"y" 7"z"`},
		{"<template><template>a</template></template>", `1#(2) 2template>3 3<2(4) 4template>5 5<4(6) 6"a"`},
		{"<div><template>a</template>b</div>", `1#(2) 2div(3 6) 3template>4 4<3(5) 5"a" 6"b"`},
	}
	for _, r := range rows {
		holdText(t, r.text, false, r.want)
		holdText(t, r.text, true, r.want)
	}
}

func TestShadowsThatAreNotAskedFor(t *testing.T) {
	holdText(t, "<div><template shadowrootmode=open shadowrootclonable>a</template>b</div>", false,
		`1#(2) 2div(3 6) 3template,shadowrootmode=open,shadowrootclonable=>4 4<3(5) 5"a" 6"b"`)
}

func TestModes(t *testing.T) {
	rows := []struct{ attr, want string }{
		{"shadowrootmode=open", "2div^3 3^2"},
		{"shadowrootmode=OPEN", "2div^3 3^2"},
		{"shadowrootmode=closed", "2div^3 3^2C"},
		{"SHADOWROOTMODE=cLoSeD", "2div^3 3^2C"},
		{"id=a shadowrootmode=open class=b", "2div^3 3^2"},
		// Of two of one name the first stands.
		{"shadowrootmode=closed shadowrootmode=open", "2div^3 3^2C"},
		{"", "2div(3) 3template>4 4<3"},
		{"shadowrootmode", "2div(3) 3template,shadowrootmode=>4 4<3"},
		{"shadowrootmode=auto", "2div(3) 3template,shadowrootmode=auto>4 4<3"},
		{"shadowrootmode=' open'", "2div(3) 3template,shadowrootmode= open>4 4<3"},
		{"shadowrootmode=opened", "2div(3) 3template,shadowrootmode=opened>4 4<3"},
		{"shadowrootmode=ope", "2div(3) 3template,shadowrootmode=ope>4 4<3"},
		// A long s is no S: only A to Z have small letters.
		{"shadowrootmode=clo\u017fed", "2div(3) 3template,shadowrootmode=clo\u017fed>4 4<3"},
		{"shadowroot=open", "2div(3) 3template,shadowroot=open>4 4<3"},
		{"shadowrootclonable", "2div(3) 3template,shadowrootclonable=>4 4<3"},
	}
	for _, r := range rows {
		holdText(t, "<div><template "+r.attr+"></template></div>", true, "1#(2) "+r.want)
	}
}

func TestFlags(t *testing.T) {
	rows := []struct{ attrs, want string }{
		{"shadowrootdelegatesfocus", "D"},
		{"shadowrootserializable", "S"},
		{"shadowrootclonable", "L"},
		{"shadowrootslotassignment=manual", "M"},
		{"shadowrootslotassignment=MANUAL", "M"},
		{"shadowrootslotassignment=named", ""},
		{"shadowrootslotassignment", ""},
		{"shadowrootslotassignment='manual '", ""},
		// It is there, whatever it says.
		{"shadowrootdelegatesfocus=false shadowrootserializable=0 shadowrootclonable=no", "DSL"},
		{"shadowrootserializable shadowrootslotassignment=manual", "MS"},
		{"shadowrootclonable shadowrootserializable shadowrootdelegatesfocus shadowrootslotassignment=manual", "MDSL"},
		{"delegatesfocus serializable clonable slotassignment=manual manual", ""},
		{"shadowrootmanual=manual", ""},
	}
	for _, r := range rows {
		holdText(t, "<div><template shadowrootmode=open "+r.attrs+">", true, "1#(2) 2div^3 3^2"+r.want)
		holdText(t, "<div><template "+r.attrs+" shadowrootmode=closed>", true, "1#(2) 2div^3 3^2C"+r.want)
	}
}

func TestHosts(t *testing.T) {
	rows := []struct {
		name string
		want bool
	}{
		{"article", true}, {"blockquote", true}, {"body", true}, {"h1", true}, {"h6", true}, {"p", true}, {"span", true},
		{"x-a", true}, {"a-", true}, {"a-.b_9", true}, {"annotation-xml-", true},
		{"a", false}, {"b", false}, {"slot", false}, {"ul", false}, {"xa", false}, {"html", false}, {"h7", false}, {"template", false},
		{"font-face", false}, {"annotation-xml", false}, {"missing-glyph", false},
	}
	for _, r := range rows {
		d := dom.New(100)
		parse(t, d, "<"+r.name+"><template shadowrootmode=open>a", true)
		n, _ := d.Node(2)
		if got := n.Shadow != -1; n.Name != r.name || got != r.want {
			t.Errorf("%s has a shadow root: %v", r.name, got)
		}
	}
}

// Which template is declarative hangs on where it stands.
func TestPlacesOfDeclarativeOnes(t *testing.T) {
	const open = "<template shadowrootmode=open>"
	const end = "</template>"
	rows := []struct{ text, want string }{
		// It is no template.
		{"<div><b shadowrootmode=open>a", `1#(2) 2div(3) 3b,shadowrootmode=open(4) 4"a"`},
		{"<div><x-a shadowrootmode=closed shadowrootclonable>", "1#(2) 2div(3) 3x-a,shadowrootmode=closed,shadowrootclonable="},
		// It has no parent.
		{open + "a", `1#(2) 2template,shadowrootmode=open>3 3<2(4) 4"a"`},
		// Another element stands between.
		{"<div><b>" + open, "1#(2) 2div(3) 3b(4) 4template,shadowrootmode=open>5 5<4"},
		// Something stands ahead, in the host.
		{"<div>a" + open + "b" + end + "c", `1#(2) 2div^4(3 6) 3"a" 4^2(5) 5"b" 6"c"`},
		// The second one of a host is a template, with its attributes.
		{"<div>" + open + "a" + end + "<template shadowrootmode=closed>b", `1#(2) 2div^3(5) 3^2(4) 4"a" 5template,shadowrootmode=closed>6 6<5(7) 7"b"`},
		{"<div>" + open + end + open + end + open + end, "1#(2) 2div^3(4 6) 3^2 4template,shadowrootmode=open>5 5<4 6template,shadowrootmode=open>7 7<6"},
		// One that is not declarative is not in the way.
		{"<div><template>a" + end + "<template shadowrootmode=x>b" + end + open + "c", `1#(2) 2div^9(3 6) 3template>4 4<3(5) 5"a" 6template,shadowrootmode=x>7 7<6(8) 8"b" 9^2(10) 10"c"`},
		// In a shadow root that is written it has a template as its parent.
		{"<div>" + open + open + "a", `1#(2) 2div^3 3^2(4) 4template,shadowrootmode=open>5 5<4(6) 6"a"`},
		// A host in a shadow root, in another one.
		{"<div>" + open + "<x-a><template shadowrootmode=closed>a" + end + "b</x-a>c" + end + "d</div>e",
			`1#(2 10) 2div^3(9) 3^2(4 8) 4x-a^5(7) 5^4C(6) 6"a" 7"b" 8"c" 9"d" 10"e"`},
		// A host in a template.
		{"<template><div>" + open + "a", `1#(2) 2template>3 3<2(4) 4div^5 5^4(6) 6"a"`},
		// Each host has its own.
		{"<div>" + open + end + "</div><div>" + open, "1#(2 4) 2div^3 3^2 4div^5 5^4"},
		{"<div>" + open + "<div>" + open + end + end + open, "1#(2) 2div^3(6) 3^2(4) 4div^5 5^4 6template,shadowrootmode=open>7 7<6"},
		{"<div><div>" + open + end + "</div>" + open + end + "</div>", "1#(2) 2div^5(3) 3div^4 4^3 5^2"},
	}
	for _, r := range rows {
		holdText(t, r.text, true, r.want)
	}
}

func TestFaultsInOrder(t *testing.T) {
	rows := []struct {
		text string
		want []api.Fault
	}{
		{"<p>a</p>", nil},
		{"&copy ", []api.Fault{{Kind: api.FaultRef, At: 0}}},
		{"</b>", []api.Fault{{Kind: api.FaultNest, At: 0}}},
		// Those of the tokens come first, wherever they are.
		{"</b>&copy </i><a b=1 b=2>", []api.Fault{{Kind: api.FaultRef, At: 4}, {Kind: api.FaultAttr, At: 21}, {Kind: api.FaultNest, At: 0}, {Kind: api.FaultNest, At: 10}}},
		{"</b>\x00</i><", []api.Fault{{Kind: api.FaultNull, At: 4}, {Kind: api.FaultTag, At: 9}, {Kind: api.FaultNest, At: 0}, {Kind: api.FaultNest, At: 5}}},
	}
	for _, r := range rows {
		for _, shadows := range []bool{false, true} {
			d := dom.New(100)
			if _, faults, err := parse(t, d, r.text, shadows); err != api.OK || !slices.Equal(faults, r.want) {
				t.Errorf("Parse(%q): %v, %d", r.text, faults, err)
			}
			// With too little room they are not told.
			d = dom.New(1)
			if i, faults, err := parse(t, d, r.text, shadows); err != api.ErrLimit || len(faults) > 0 || i != 0 || d.Len() != 1 {
				t.Errorf("Parse(%q): %v, %d", r.text, faults, err)
			}
		}
	}
}

// The nodes of one text come behind those of another one, and these stay as they are.
func TestTextBehindText(t *testing.T) {
	d := dom.New(100)
	const text = "<div><template shadowrootmode=open><slot></slot></template>a</div>"
	for k, want := range []int{1, 6, 11} {
		if i, _, err := parse(t, d, text, true); i != want || err != api.OK {
			t.Errorf("%d. Parse = %d, %d", k, i, err)
		}
	}
	d.Insert(0, 6, -1)
	if i, _, err := parse(t, d, "<b>", true); i != 16 || err != api.OK {
		t.Errorf("Parse = %d, %d", i, err)
	}
	if n, _ := d.Node(0); !slices.Equal(n.Kids, []int{7}) {
		t.Errorf("what was moved: %v", n.Kids)
	}
}

// For each limit up to what is needed: nothing is made; from it on: all.
func TestRoom(t *testing.T) {
	rows := []struct {
		text string
		with int // how many nodes, with shadows
		bare int // without
	}{
		{"", 1, 1},
		{"a", 2, 2},
		{"<b>a", 3, 3},
		{"<!doctype template>", 2, 2},
		{"<template>", 3, 3},
		{"<template><template>a", 6, 6},
		{"<div><template shadowrootmode=open>a", 4, 5},
		{"<div><template shadowrootmode=open>a</template><template shadowrootmode=open>b", 7, 8},
		{"<div><template shadowrootmode=open><p><template shadowrootmode=closed>a", 6, 8},
		{"<template shadowrootmode=open>", 3, 3},
	}
	for _, r := range rows {
		for limit := 1; limit < 14; limit++ {
			for _, shadows := range []bool{false, true} {
				need := r.bare
				if shadows {
					need = r.with
				}
				d := dom.New(limit)
				_, _, err := parse(t, d, r.text, shadows)
				if fits := limit-1 >= need; fits != (err == api.OK) || !fits && (err != api.ErrLimit || d.Len() != 1) || fits && d.Len() != 1+need {
					t.Errorf("%q, limit %d, shadows %v: %d nodes, %d", r.text, limit, shadows, d.Len(), err)
				}
				// Room is what is left, not what may be.
				for d.Len() < limit {
					parse(t, d, r.text, shadows)
					d.Make(api.Node{Kind: api.Comment})
				}
				parse(t, d, r.text, shadows)
			}
		}
	}
}

func TestLengthOfTexts(t *testing.T) {
	for _, n := range []int{59999, 60000, 60001, 100000} {
		for _, part := range []string{"a", "\xff", "<"} {
			d := dom.New(3)
			_, _, err := parse(t, d, strings.Repeat(part, n), true)
			if long := n > 60000; long != (err == api.ErrLimit) || long != (d.Len() == 1) {
				t.Errorf("%d bytes: %d, %d nodes", n, err, d.Len())
			}
		}
	}
}

func element(deep int, name string, attrs ...api.Attr) api.Item {
	return api.Item{Deep: deep, Kind: api.Element, Name: name, Attrs: attrs}
}

func text(deep int, data string) api.Item { return api.Item{Deep: deep, Kind: api.Text, Data: data} }

func declarative(deep int, mode string) api.Item {
	return element(deep, "template", api.Attr{Name: "shadowrootmode", Value: mode})
}

func TestNodesOfItems(t *testing.T) {
	rows := []struct {
		items []api.Item
		want  string
	}{
		{nil, "1#"},
		{[]api.Item{}, "1#"},
		{[]api.Item{text(0, "a"), text(0, "b")}, `1#(2 3) 2"a" 3"b"`},
		{[]api.Item{{Kind: api.Comment}, {Kind: api.Comment, Data: "-->"}}, "1#(2 3) 2! 3!-->"},
		{[]api.Item{{Kind: api.Doctype}, element(0, "br")}, "1#(2 3) 2? 3br"},
		// What no text would make: a p in a p, a button in a button.
		{[]api.Item{element(0, "p"), element(1, "p"), text(2, "\x00"), element(0, "button")}, "1#(2 5) 2p(3) 3p(4) 4\"\x00\" 5button"},
		{[]api.Item{element(0, "b"), element(1, "b"), element(2, "b"), text(0, "a"), element(0, "i"), text(1, "c")}, `1#(2 5 6) 2b(3) 3b(4) 4b 5"a" 6i(7) 7"c"`},
		{[]api.Item{element(0, "p"), declarative(1, "Open"), declarative(2, "open"), text(3, "a"), text(1, "b")}, `1#(2) 2p^3(7) 3^2(4) 4template,shadowrootmode=open>5 5<4(6) 6"a" 7"b"`},
		// The parent is the nearest one that is less deep, not the last of its name.
		{[]api.Item{element(0, "div"), element(1, "div"), element(2, "div"), declarative(1, "open"), text(2, "a")}, `1#(2) 2div^5(3) 3div(4) 4div 5^2(6) 6"a"`},
	}
	for _, r := range rows {
		d := dom.New(100)
		if i, err := lay(t, d, r.items, true); i != 1 || err != api.OK {
			t.Errorf("Lay(%v) = %d, %d", r.items, i, err)
		}
		if got := shape(tell(d)); got != "0# "+r.want {
			t.Errorf("Lay(%v) makes %s, not 0# %s", r.items, got, r.want)
		}
		lay(t, d, r.items, false)
	}
}

func TestItemsThatAreNotSound(t *testing.T) {
	rows := [][]api.Item{
		{{}},
		{{Kind: 7}},
		{{Kind: api.Fragment}},
		{{Kind: api.Shadow}},
		{text(0, "")},
		{text(1, "a")},
		{text(-1, "a")},
		{element(0, "")},
		{element(0, "B")},
		{element(0, "b", api.Attr{Name: "a"}, api.Attr{Name: "a"})},
		{element(0, "b", api.Attr{Name: "a b"})},
		{element(0, "b"), text(2, "a")},
		{element(0, "br"), text(1, "a")},
		{text(0, "a"), text(1, "a")},
		{text(0, "a"), {Kind: api.Doctype, Name: "html"}},
		{element(0, "b"), text(1, "a"), text(math.MaxInt, "a")},
		{element(0, "b"), text(1, "a"), text(math.MinInt, "a")},
		{{Kind: api.Element, Name: "b", Data: "x"}},
	}
	for _, l := range rows {
		for _, limit := range []int{1, 2, 100} {
			for _, shadows := range []bool{false, true} {
				// With too little room as well: what is not sound is told first.
				d := dom.New(limit)
				if i, err := lay(t, d, l, shadows); i != 0 || err != api.ErrArg || d.Len() != 1 {
					t.Errorf("Lay(%v), limit %d: %d, %d", l, limit, i, err)
				}
			}
		}
	}
}

// Neither the document nor the items know of one another when the call is over.
func TestNothingIsShared(t *testing.T) {
	attrs := []api.Attr{{Name: "id", Value: "a"}, {Name: "class", Value: "b"}}
	items := []api.Item{element(0, "b", attrs...), text(1, "x"), declarative(0, "open")}
	d := dom.New(100)
	lay(t, d, items, true)
	w := tell(d)
	items[0].Attrs[0].Value, items[1].Data, items[2].Attrs[0].Name = "changed", "changed", "changed"
	items[0].Attrs = append(items[0].Attrs[:1], api.Attr{Name: "other"})
	holdDocument(t, d, w)

	d.Set(2, "id", "c")
	if items[0].Attrs[0].Value != "changed" {
		t.Error("the document has changed the items")
	}
	_, one, _ := build.Parse(d, "</b>&copy ", true)
	one = append(one, api.Fault{Kind: 1})
	one[0].At = 99
	if _, two, _ := build.Parse(d, "</b>&copy ", true); len(two) != 2 || two[0].At != 4 {
		t.Errorf("the faults of one call are another one's: %v", two)
	}
}

// What lies behind the lists' lengths is not looked at.
func TestWhatLiesBehind(t *testing.T) {
	attrs := []api.Attr{{Name: "id"}, {Name: "shadowrootmode", Value: "open"}, {Name: "shadowrootmode", Value: "open"}}
	items := []api.Item{element(0, "div"), element(1, "template", attrs[:1]...), text(2, "a"), {Kind: 9}, text(7, "b")}
	ahead := cloned(items)
	d := dom.New(100)
	lay(t, d, items[:3], true)
	if got, want := shape(tell(d)), `0# 1#(2) 2div(3) 3template,id=>4 4<3(5) 5"a"`; got != want {
		t.Errorf("%s, not %s", got, want)
	}
	if items[3].Kind != ahead[3].Kind || items[4].Data != ahead[4].Data || attrs[1].Name != "shadowrootmode" {
		t.Error("what lies behind is changed")
	}
}

package stable_test

import (
	"math"
	"slices"
	"strings"
	"testing"

	"portiere/api"
	"portiere/build"
	"portiere/dom"
	"portiere/stable"
)

// scene is a document that a test writes.
type scene struct {
	*dom.Doc
	t *testing.T
}

func newScene(t *testing.T, limit int) scene {
	t.Helper()
	return scene{dom.New(limit), t}
}

// parsed is a document with the nodes of a text in node 0, with the shadow roots that are written; node 1 is an empty Fragment.
func parsed(t *testing.T, limit int, text string) scene {
	t.Helper()
	s := newScene(t, limit)
	i, _, err := build.Parse(s.Doc, text, true)
	s.wants(err)
	s.wants(s.Insert(0, i, -1))
	return s
}

func (s scene) node(n api.Node) int {
	s.t.Helper()
	i, err := s.Make(n)
	s.wants(err)
	return i
}

func (s scene) element(name string, attrs ...api.Attr) int {
	s.t.Helper()
	return s.node(api.Node{Kind: api.Element, Name: name, Attrs: attrs})
}

func (s scene) text(data string) int {
	s.t.Helper()
	return s.node(api.Node{Kind: api.Text, Data: data})
}

func (s scene) comment(data string) int {
	s.t.Helper()
	return s.node(api.Node{Kind: api.Comment, Data: data})
}

func (s scene) shadow(host int, f api.Flags) int {
	s.t.Helper()
	i, err := s.Root(host, f)
	s.wants(err)
	return i
}

func (s scene) put(up int, l ...int) {
	s.t.Helper()
	for _, i := range l {
		s.wants(s.Insert(up, i, -1))
	}
}

// wants is behind a call that is not refused.
func (s scene) wants(err api.Errno) {
	s.t.Helper()
	if err != api.OK {
		s.t.Fatalf("refused: %d", err)
	}
}

// stable says whether a node is; all others are held to the words, too.
func (s scene) stable(i int, want bool) {
	s.t.Helper()
	holdStable(s.t, s.Doc)
	if got := stable.Stable(s.Doc, i); got != want {
		s.t.Errorf("Stable(%d) = %v", i, got)
	}
}

func attr(name, value string) api.Attr { return api.Attr{Name: name, Value: value} }

const (
	open = `<template shadowrootmode="open">`
	end  = "</template>"
)

func TestExample(t *testing.T) {
	s := newScene(t, 20)
	div := s.element("div")
	s.stable(div, true)
	s.put(div, s.element("p"))
	s.stable(div, false)
}

// within makes a node that is put into a div: at once, in an element, in a shadow root, and behind others.
func within(t *testing.T, what string, want bool, made func(s scene) int) {
	t.Helper()
	places := map[string]func(s scene, div int) int{
		"the div":      func(s scene, div int) int { return div },
		"an element":   func(s scene, div int) int { b := s.element("b"); s.put(div, b); return b },
		"a shadow":     func(s scene, div int) int { h := s.element("x-a"); s.put(div, h); return s.shadow(h, api.Flags{}) },
		"a host":       func(s scene, div int) int { h := s.element("x-a"); s.put(div, h); s.shadow(h, api.Flags{}); return h },
		"behind other": func(s scene, div int) int { s.put(div, s.text("a"), s.comment("b"), s.element("i")); return div },
	}
	for name, place := range places {
		s := newScene(t, 40)
		div := s.element("div")
		s.put(place(s, div), made(s))
		if got := stable.Stable(s.Doc, div); got != want {
			t.Errorf("%s in %s: %v", what, name, got)
		}
		holdStable(t, s.Doc)
	}
}

func TestWhatIsAskedOfTheNodeItself(t *testing.T) {
	s := newScene(t, 60)
	s.stable(0, false)
	for _, name := range []string{"span", "section", "article", "b", "i", "slot", "x-a", "x-div", "p", "template", "br", "body"} {
		s.stable(s.element(name), false)
	}
	s.stable(s.text("div"), false)
	s.stable(s.comment("div"), false)
	s.stable(s.node(api.Node{Kind: api.Doctype, Name: "div"}), false)
	s.stable(s.node(api.Node{Kind: api.Fragment}), false)
	host := s.element("div")
	s.stable(host, true)
	root := s.shadow(host, api.Flags{})
	s.stable(host, false)
	s.stable(root, false)
	// Of its own attributes nothing is asked, nor of where it is.
	div := s.element("div", attr("id", "\x00"), attr("slot", "a\x00b"))
	s.stable(div, true)
	p := s.element("p")
	s.put(p, s.text("a"), s.text("\x00"), div, s.text(""))
	s.stable(div, true)
	s.put(s.shadow(p, api.Flags{Manual: true}), div)
	s.stable(div, true)
	s.stable(p, false)
}

func TestNumbersThatAreNone(t *testing.T) {
	s := newScene(t, 20)
	div := s.element("div")
	numbers := []int{math.MinInt, math.MinInt32, -1 << 32, div - 1<<32, -2, -1, s.Len(), s.Len() + 1, 20, 5000, math.MaxInt32, 1 << 32, 1<<32 + div, math.MaxInt}
	for _, i := range numbers {
		s.stable(i, false)
		for _, j := range append(numbers, 0, div) {
			if stable.Same(s.Doc, i, s.Doc, j) || stable.Same(s.Doc, j, s.Doc, i) {
				t.Errorf("%d and %d are the same", i, j)
			}
		}
	}
	if !stable.Same(s.Doc, 0, s.Doc, div) {
		t.Error("nothing is in both")
	}
}

func TestNamesOfElements(t *testing.T) {
	names := map[bool]string{
		true: "div span section article b i slot x-a a- a-b-c x-a.b_9 font-faces x-font-face font-face-",
		false: "p a u h1 li ul template script style title textarea br hr img button object main header aside nav body em strong s " +
			"font-face annotation-xml color-profile missing-glyph font-face-src font-face-uri font-face-format font-face-name x div. div2 slots spa bi",
	}
	for want, list := range names {
		for _, name := range strings.Fields(list) {
			within(t, name, want, func(s scene) int { return s.element(name) })
		}
	}
	long := "x-" + strings.Repeat("a", api.MaxName-2)
	within(t, long, true, func(s scene) int { return s.element(long) })
}

func TestValues(t *testing.T) {
	for value, want := range map[string]bool{"": true, "a": true, "\"'<>&=-->": true, "\u00a0\xff": true, "\x01": true, "0": true, "\x00": false, "a\x00": false, "\x00a": false, strings.Repeat("a", api.MaxValue-1) + "\x00": false} {
		within(t, "value "+value, want, func(s scene) int { return s.element("b", attr("id", value)) })
		within(t, "second value "+value, want, func(s scene) int { return s.element("x-a", attr("a", ""), attr("b\"<", value), attr("c", "c")) })
	}
}

func TestTexts(t *testing.T) {
	for data, want := range map[string]bool{"": false, "a": true, " ": true, "<b>&lt;-->": true, "\xff\u00a0\r": true, "\x01": true, "\x00": false, "a\x00": false, "\x00a": false, strings.Repeat("a", 70000) + "\x00": false} {
		what := "text " + data[:min(len(data), 20)]
		within(t, what, want, func(s scene) int { b := s.element("b"); s.put(b, s.text(data)); return b })
	}
	within(t, "text", true, func(s scene) int { b := s.element("b"); s.put(b, s.text("a"), s.element("i"), s.text("b")); return b })
}

func TestTextsBehindTexts(t *testing.T) {
	// t: a Text, c: a Comment, e: an Element.
	for row, want := range map[string]bool{"t": true, "tt": false, "tct": true, "tet": true, "ttc": false, "ett": false, "tctt": false, "cte": true, "tetet": true, "tett": false, "ctect": true} {
		within(t, row, want, func(s scene) int {
			b := s.element("b")
			for _, c := range row {
				switch c {
				case 't':
					s.put(b, s.text("a"))
				case 'c':
					s.put(b, s.comment(""))
				case 'e':
					i := s.element("i")
					s.put(i, s.text("in it"))
					s.put(b, i)
				}
			}
			return b
		})
	}
}

// Texts that are told one behind the other in order.All, but stand in different places.
func TestTextsThatAreNotSideBySide(t *testing.T) {
	s := newScene(t, 40)
	div, host := s.element("div"), s.element("span")
	root := s.shadow(host, api.Flags{})
	s.put(div, s.text("a"), host, s.text("b"))
	s.put(root, s.text("c"))
	s.put(host, s.text("d"))
	s.stable(div, true)
	s.put(root, s.element("i"), s.text("e"))
	s.stable(div, true)
	s.put(root, s.text("f"))
	s.stable(div, false)
}

func TestComments(t *testing.T) {
	for data, want := range map[string]bool{"": true, "a": true, "!": true, "<": true, "&lt;": true, "\xff\u00a0": true, "\x01": true, "-": false, ">": false, "\x00": false, "a-": false, "a>b": false, "a\x00b": false, "<!--": false, ",./;=?": true, strings.Repeat("a", 100) + "-": false, strings.Repeat("a", 100) + ">": false, strings.Repeat("a", 100) + "\x00": false} {
		within(t, "comment "+data, want, func(s scene) int { return s.comment(data) })
	}
}

func TestDoctypes(t *testing.T) {
	within(t, "doctype", false, func(s scene) int { return s.node(api.Node{Kind: api.Doctype, Name: "div"}) })
}

func TestFlags(t *testing.T) {
	for bits := range 32 {
		is := func(bit int) bool { return bits>>bit&1 == 1 }
		f := api.Flags{Closed: is(0), Manual: is(1), Delegates: is(2), Serializable: is(3), Clonable: is(4)}
		within(t, "shadow root", !f.Manual, func(s scene) int { h := s.element("section"); s.shadow(h, f); return h })
	}
}

// Layer 8 gives any element a shadow root, and the words ask just whether it is Manual.
func TestOtherHosts(t *testing.T) {
	for _, name := range []string{"b", "i", "slot"} {
		within(t, name, true, func(s scene) int { h := s.element(name); s.shadow(h, api.Flags{}); return h })
	}
}

// chain is so many nodes, each in the one ahead, the first in up; 's' is an element with a shadow root, which counts itself. It tells the last.
func (s scene) chain(up int, kinds string) int {
	s.t.Helper()
	for _, c := range kinds {
		i := s.element("x-a")
		s.put(up, i)
		up = i
		if c == 's' {
			up = s.shadow(i, api.Flags{})
		}
	}
	return up
}

func TestDeep(t *testing.T) {
	for _, kinds := range []string{strings.Repeat("e", 39), strings.Repeat("s", 19) + "e", strings.Repeat("es", 13)} {
		s := newScene(t, 200)
		div := s.element("div")
		last := s.chain(div, kinds)
		s.stable(div, true)
		s.put(last, s.comment("")) // 40
		s.stable(div, true)
		b := s.element("b")
		s.put(last, b)
		s.stable(div, true)
		s.put(b, s.text("a")) // 41
		s.stable(div, false)
	}
	// How deep one is is told from the node that is asked about.
	s := newScene(t, 200)
	outer, inner := s.element("div"), s.element("div")
	s.put(s.chain(outer, strings.Repeat("e", 10)), inner)
	s.chain(inner, strings.Repeat("e", 40))
	s.stable(inner, true)
	s.stable(outer, false)
}

// A shadow root is deeper than its host, be it empty.
func TestDeepShadowRoots(t *testing.T) {
	for n, want := range map[int]bool{39: true, 40: false} {
		s := newScene(t, 200)
		div := s.element("div")
		s.shadow(s.chain(div, strings.Repeat("e", n)), api.Flags{})
		s.stable(div, want)
	}
}

// sameText says whether what two texts make is the same.
func sameText(t *testing.T, a, b string, want bool) {
	t.Helper()
	s, u := parsed(t, 100, a), newScene(t, 80)
	u.text("so that numbers are others")
	i, _, err := build.Parse(u.Doc, b, true)
	s.wants(err)
	if holdSame(t, s.Doc, 0, u.Doc, i) != want {
		t.Errorf("%q, %q: not %v", a, b, want)
	}
	// In one document, too.
	i, _, err = build.Parse(s.Doc, b, true)
	s.wants(err)
	if holdSame(t, s.Doc, 0, s.Doc, i) != want {
		t.Errorf("%q, %q in one: not %v", a, b, want)
	}
}

func TestSame(t *testing.T) {
	texts := []string{
		"", "a", "b", "a<!---->", "<!--a-->", "<!--b-->", "<!DOCTYPE a>", "<!DOCTYPE b>",
		"<a></a>", "<b></b>", "<b></b><b></b>", "<b><b></b></b>", "<b>a</b>", "a<b></b>", "<b></b>a",
		"<b id></b>", "<b id=a></b>", "<b name></b>", "<b id name></b>", "<b name id></b>", "<b id=a name=b></b>", "<b id=b name=a></b>",
		"<div></div>", "<div>" + open + end + "</div>", "<div>a" + open + end + "</div>", "<div>" + open + "a" + end + "</div>", "<div>" + open + "b" + end + "</div>", "<div>" + open + "<b>a</b>" + end + "a</div>",
		"<div><template shadowrootmode=closed></template></div>", "<div><template shadowrootmode=open shadowrootclonable></template></div>",
		"<div><template shadowrootmode=open shadowrootserializable></template></div>", "<div><template shadowrootmode=open shadowrootdelegatesfocus></template></div>",
		"<div><template shadowrootmode=open shadowrootslotassignment=manual></template></div>",
		"<div>" + open + "<p>" + open + "a" + end + "</p>" + end + "</div>", "<div>" + open + "<p>" + open + "b" + end + "</p>" + end + "</div>",
		"<template></template>", "<template>a</template>", "<template>b</template>", "<template><template>a</template></template>", "<template><template></template></template>",
		"<div><template></template></div>", "<b>" + open + end + "</b>",
	}
	for i, a := range texts {
		for j, b := range texts {
			sameText(t, a, b, i == j)
		}
	}
}

// Of the two nodes themselves just what is in them is compared.
func TestOfTheTwoThemselves(t *testing.T) {
	s := newScene(t, 60)
	host := s.element("div", attr("id", "a"))
	s.put(s.shadow(host, api.Flags{Closed: true}), s.text("in a shadow root"))
	template := s.element("template")
	s.put(template+1, s.text("in a content"))
	all := []int{host, template, s.element("b"), s.element("br"), s.text("a"), s.comment("b"), s.node(api.Node{Kind: api.Doctype, Name: "c"}), s.node(api.Node{Kind: api.Fragment}), 0, s.shadow(template, api.Flags{})}
	for _, i := range all {
		for _, j := range all {
			if !holdSame(t, s.Doc, i, s.Doc, j) {
				t.Errorf("%d and %d are not the same", i, j)
			}
		}
	}
	s.put(host, s.text("x"))
	s.put(template, s.text("x"))
	if !holdSame(t, s.Doc, host, s.Doc, template) || holdSame(t, s.Doc, host, s.Doc, 0) {
		t.Error("a div with a text is like a template with it, not like nothing")
	}
	// Within others they are compared whole.
	b, i := s.element("b"), s.element("i")
	s.put(b, host)
	s.put(i, template)
	if holdSame(t, s.Doc, b, s.Doc, i) {
		t.Error("a div is like a template")
	}
}

// A template that has all three: a shadow root, a content, and Kids.
func TestTemplatesWithAll(t *testing.T) {
	for differ := range 5 {
		s := newScene(t, 40)
		data := func(place int) string {
			if place == differ {
				return "other"
			}
			return "a"
		}
		holder := func(data func(place int) string) int {
			up, template := s.element("b"), s.element("template")
			s.put(up, template)
			s.put(template, s.text(data(1)))
			s.put(template+1, s.text(data(2)))
			s.put(s.shadow(template, api.Flags{Clonable: data(3) == "a"}), s.text(data(4)))
			return up
		}
		first, second := holder(data), holder(func(int) string { return "a" })
		if holdSame(t, s.Doc, first, s.Doc, second) != (differ == 0) {
			t.Errorf("they differ in %d", differ)
		}
	}
}

// Neither what is given to slots by hand, nor numbers, nor what is around, nor limits are compared.
func TestWhatIsNotCompared(t *testing.T) {
	s := parsed(t, 40, `<div><template shadowrootmode="open" shadowrootslotassignment="manual"><slot></slot></template>a<b></b></div>`)
	u := scene{s.Copy(), t}
	s.wants(s.Give(4, []int{6, 5}))
	p := u.element("p")
	u.put(p, u.text("b"), 2)
	if !holdSame(t, s.Doc, 2, u.Doc, 2) || holdSame(t, s.Doc, 0, u.Doc, p) {
		t.Error("what is in the two is the same")
	}
	other := newScene(t, 30)
	other.put(0, other.text("x"), other.text("y"))
	other.wants(other.Remove(1))
	made, _, err := build.Parse(other.Doc, `<div><template shadowrootmode="open" shadowrootslotassignment="manual"><slot></slot></template>a<b></b></div>`, true)
	other.wants(err)
	if !holdSame(t, s.Doc, 0, other.Doc, made) {
		t.Error("numbers are compared")
	}
}

func TestKidsInOrder(t *testing.T) {
	s := newScene(t, 60)
	holder := func(l ...int) int { up := s.element("div"); s.put(up, l...); return up }
	texts := func(data ...string) []int {
		var out []int
		for _, d := range data {
			out = append(out, s.text(d))
		}
		return out
	}
	ab, ba, abc, a := holder(texts("a", "b")...), holder(texts("b", "a")...), holder(texts("a", "b", "c")...), holder(texts("a")...)
	joined, again := holder(texts("ab")...), holder(texts("a", "b")...)
	for _, other := range []int{ba, abc, a, joined} {
		if holdSame(t, s.Doc, ab, s.Doc, other) {
			t.Errorf("%d is like %d", other, ab)
		}
	}
	if !holdSame(t, s.Doc, ab, s.Doc, again) {
		t.Error("they are the same")
	}
	// Names, data and attributes do not run into one another.
	x := holder(s.element("b", attr("ab", "c"), attr("d", "")))
	y := holder(s.element("b", attr("a", "bc"), attr("d", "")))
	z := holder(s.element("b", attr("ab", "c")))
	for _, l := range [][]int{{x, y}, {x, z}, {y, z}} {
		if holdSame(t, s.Doc, l[0], s.Doc, l[1]) {
			t.Errorf("%v are the same", l)
		}
	}
}

// An answer hangs on the documents as they are now.
func TestAnswersFollow(t *testing.T) {
	s := newScene(t, 20)
	div, text := s.element("div"), s.text("a")
	s.put(div, text)
	d := s.Copy()
	steps := []struct {
		do           func() api.Errno
		stable, same bool
	}{
		{func() api.Errno { return s.Write(text, "") }, false, false},
		{func() api.Errno { return s.Write(text, "b") }, true, false},
		{func() api.Errno { return s.Write(text, "a") }, true, true},
		{func() api.Errno { return s.Remove(text) }, true, false},
		{func() api.Errno { return s.Insert(div, text, -1) }, true, true},
		{func() api.Errno { return s.Set(div, "id", "\x00") }, true, true},
		{func() api.Errno { _, err := s.Root(div, api.Flags{}); return err }, false, true},
	}
	for k, step := range steps {
		s.wants(step.do())
		if got := []bool{stable.Stable(s.Doc, div), holdSame(t, s.Doc, div, d, div)}; !slices.Equal(got, []bool{step.stable, step.same}) {
			t.Errorf("step %d: %v", k, got)
		}
		if !stable.Stable(d, div) {
			t.Errorf("step %d: the copy is touched", k)
		}
	}
}

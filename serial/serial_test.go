package serial_test

import (
	"math"
	"slices"
	"strings"
	"testing"

	"portiere/api"
	"portiere/build"
	"portiere/dom"
	"portiere/serial"
)

// scene is a document that a test writes.
type scene struct {
	*dom.Doc
	t *testing.T
}

func newScene(t *testing.T, limit int) scene {
	t.Helper()
	return scene{dom.New(limit), t}
}

// parsed is a document with the nodes of a text in node 0, with the shadow roots that are written; node 1 is an empty Fragment.
func parsed(t *testing.T, limit int, text string) scene {
	t.Helper()
	s := newScene(t, limit)
	i, _, err := build.Parse(s.Doc, text, true)
	s.wants(err)
	s.wants(s.Insert(0, i, -1))
	return s
}

func (s scene) node(n api.Node) int {
	s.t.Helper()
	i, err := s.Make(n)
	s.wants(err)
	return i
}

func (s scene) element(name string, attrs ...api.Attr) int {
	s.t.Helper()
	return s.node(api.Node{Kind: api.Element, Name: name, Attrs: attrs})
}

func (s scene) text(data string) int {
	s.t.Helper()
	return s.node(api.Node{Kind: api.Text, Data: data})
}

func (s scene) shadow(host int, f api.Flags) int {
	s.t.Helper()
	i, err := s.Root(host, f)
	s.wants(err)
	return i
}

func (s scene) put(up int, l ...int) {
	s.t.Helper()
	for _, i := range l {
		s.wants(s.Insert(up, i, -1))
	}
}

// wants is behind a call that is not refused.
func (s scene) wants(err api.Errno) {
	s.t.Helper()
	if err != api.OK {
		s.t.Fatalf("refused: %d", err)
	}
}

// inner and outer say what is written of a node.
func (s scene) inner(i int, o api.Options, want string) {
	s.t.Helper()
	if got := inner(s.t, s.Doc, i, o); got != want {
		s.t.Errorf("Inner(%d, %v) =\n%q, not\n%q", i, o, got, want)
	}
}

func (s scene) outer(i int, o api.Options, want string) {
	s.t.Helper()
	if got := outer(s.t, s.Doc, i, o); got != want {
		s.t.Errorf("Outer(%d, %v) =\n%q, not\n%q", i, o, got, want)
	}
}

func none() api.Options                { return api.Options{} }
func serializable() api.Options        { return api.Options{Serializable: true} }
func roots(l ...int) api.Options       { return api.Options{Roots: l} }
func attr(name, value string) api.Attr { return api.Attr{Name: name, Value: value} }

const (
	open = `<template shadowrootmode="open">`
	kept = `<template shadowrootmode="open" shadowrootserializable="">`
	end  = "</template>"
)

func TestExample(t *testing.T) {
	s := newScene(t, 20)
	div := s.element("div", attr("id", "a"))
	s.put(div, s.text("x<"))
	s.outer(div, none(), `<div id="a">x&lt;</div>`)
	s.inner(div, none(), "x&lt;")
}

func TestExamplesOfTheWhole(t *testing.T) {
	rows := []struct{ text, want string }{
		{"<p>a<p>b", "<p>a</p><p>b</p>"},
		{"<ul><li>a<li>b</ul>&lt;", "<ul><li>a</li><li>b</li></ul>&lt;"},
		{"</p>", "<p></p>"},
	}
	for _, r := range rows {
		s := parsed(t, 100, r.text)
		s.inner(0, none(), r.want)
		s.outer(0, none(), r.want)
	}
	s := parsed(t, 100, "<x-a><template shadowrootmode=closed shadowrootserializable><slot></slot></template>t</x-a>")
	s.inner(0, none(), "<x-a>t</x-a>")
	s.inner(0, serializable(), `<x-a><template shadowrootmode="closed" shadowrootserializable=""><slot></slot></template>t</x-a>`)
	s = newScene(t, 100)
	div := s.element("div")
	s.wants(s.Set(div, "id", "a b"))
	s.put(0, div)
	s.inner(0, none(), `<div id="a b"></div>`)
	s = newScene(t, 100)
	template := s.element("template")
	s.put(template+1, s.text("x"))
	s.inner(template, none(), "x")
}

func TestKinds(t *testing.T) {
	rows := []struct {
		n           api.Node
		outer       string
		whenItHolds string
	}{
		{api.Node{Kind: api.Element, Name: "b"}, "<b></b>", "<b>x</b>"},
		{api.Node{Kind: api.Element, Name: "a-.b_9"}, "<a-.b_9></a-.b_9>", "<a-.b_9>x</a-.b_9>"},
		{api.Node{Kind: api.Element, Name: "template"}, "<template></template>", "<template></template>"},
		{api.Node{Kind: api.Element, Name: "br"}, "<br>", ""},
		{api.Node{Kind: api.Text, Data: "a&b"}, "a&amp;b", ""},
		{api.Node{Kind: api.Text}, "", ""},
		{api.Node{Kind: api.Comment, Data: "a&<b>\u00a0\""}, "<!--a&<b>\u00a0\"-->", ""},
		{api.Node{Kind: api.Comment, Data: "-->"}, "<!---->-->", ""},
		{api.Node{Kind: api.Comment}, "<!---->", ""},
		{api.Node{Kind: api.Doctype, Name: "html"}, "<!DOCTYPE html>", ""},
		{api.Node{Kind: api.Doctype, Name: "a&<\"\u00a0"}, "<!DOCTYPE a&<\"\u00a0>", ""},
		{api.Node{Kind: api.Doctype, Name: "template"}, "<!DOCTYPE template>", ""},
		{api.Node{Kind: api.Doctype, Name: "br"}, "<!DOCTYPE br>", ""},
		{api.Node{Kind: api.Doctype}, "<!DOCTYPE >", ""},
		{api.Node{Kind: api.Fragment}, "", "x"},
	}
	for _, r := range rows {
		for _, o := range []api.Options{none(), serializable(), roots(0, 1, 2)} {
			s := newScene(t, 10)
			i := s.node(r.n)
			s.outer(i, o, r.outer)
			s.inner(i, o, "")
			// Where it is does not matter.
			if r.n.Kind != api.Fragment {
				div := s.element("div")
				s.put(div, i)
				s.outer(i, o, r.outer)
				s.inner(div, o, r.outer)
			}
			if r.whenItHolds != "" {
				s.put(i, s.text("x"))
				s.outer(i, o, r.whenItHolds)
			}
		}
	}
}

func TestAttributes(t *testing.T) {
	rows := []struct {
		attrs []api.Attr
		want  string
	}{
		{[]api.Attr{attr("id", "a")}, ` id="a"`},
		{[]api.Attr{attr("id", "")}, ` id=""`},
		{[]api.Attr{attr("z", "1"), attr("a", "2"), attr("m", "3")}, ` z="1" a="2" m="3"`},
		{[]api.Attr{attr("id", `a"b'c`)}, ` id="a&quot;b'c"`},
		{[]api.Attr{attr("id", "&<>\u00a0")}, ` id="&amp;&lt;&gt;&nbsp;"`},
		{[]api.Attr{attr("id", "&amp;")}, ` id="&amp;amp;"`},
		{[]api.Attr{attr("id", "a\x00\xff\n\t ")}, " id=\"a\x00\xff\n\t \""},
		// A name is written as it is, whatever may be in it.
		{[]api.Attr{attr("a&<\"'\u00a0", "b")}, " a&<\"'\u00a0=\"b\""},
	}
	for _, r := range rows {
		s := newScene(t, 10)
		b, br, script, template := s.element("b", r.attrs...), s.element("br", r.attrs...), s.element("script", r.attrs...), s.element("template", r.attrs...)
		s.outer(b, none(), "<b"+r.want+"></b>")
		s.outer(br, none(), "<br"+r.want+">")
		// In a Raw element just texts are as they are.
		s.outer(script, none(), "<script"+r.want+"></script>")
		s.outer(template, none(), "<template"+r.want+"></template>")
		s.inner(b, none(), "")
		s.inner(template, none(), "")
	}
}

func TestVoids(t *testing.T) {
	for _, name := range strings.Fields(voids) {
		s := newScene(t, 10)
		i := s.element(name, attr("a", "b"))
		s.outer(i, none(), "<"+name+` a="b">`)
		s.inner(i, none(), "")
		// Layer 8 gives one a shadow root: there is no place where that could be written.
		root := s.shadow(i, api.Flags{Serializable: true})
		s.put(root, s.text("x"))
		o := api.Options{Serializable: true, Roots: []int{root}}
		s.outer(i, o, "<"+name+` a="b">`)
		s.inner(i, o, "")
		s.outer(root, o, "x")
		s.inner(root, o, "x")
	}
	for _, name := range []string{"b", "xbr", "brx", "b-r", "image", "param", "keygen", "frame", "command", "wbr-"} {
		s := newScene(t, 10)
		s.outer(s.element(name), none(), "<"+name+"></"+name+">")
	}
}

// A text is as it is just if it is itself in an Element that is Raw.
func TestRaws(t *testing.T) {
	const data, marked = "a<b>&\u00a0\"</script>", "a&lt;b&gt;&amp;&nbsp;\"&lt;/script&gt;"
	for _, name := range strings.Fields(raws) {
		s := newScene(t, 20)
		i, text, b, deeper := s.element(name), s.text(data), s.element("b"), s.text(data)
		s.outer(text, none(), marked)
		s.put(i, text, b)
		s.put(b, deeper)
		s.outer(text, none(), data)
		s.outer(deeper, none(), marked)
		s.outer(i, none(), "<"+name+">"+data+"<b>"+marked+"</b></"+name+">")
		s.inner(i, none(), data+"<b>"+marked+"</b>")
		// Its shadow root is no Element.
		root := s.shadow(i, api.Flags{})
		s.put(root, text)
		s.outer(text, none(), marked)
		s.outer(i, roots(root), "<"+name+">"+open+marked+end+"<b>"+marked+"</b></"+name+">")
		s.wants(s.Remove(text))
		s.outer(text, none(), marked)
	}
	for _, name := range []string{"b", "title", "textarea", "noscript", "plaintext", "template", "slot", "x-script", "script-"} {
		s := newScene(t, 20)
		i, text := s.element(name), s.text(data)
		s.put(i, text)
		s.outer(text, none(), marked)
		if name != "template" {
			s.outer(i, none(), "<"+name+">"+marked+"</"+name+">")
		}
	}
}

// A Doctype that is named like an element is none.
func TestDoctypesAreNoElements(t *testing.T) {
	s := newScene(t, 20)
	for _, name := range []string{"script", "br", "template"} {
		i := s.node(api.Node{Kind: api.Doctype, Name: name})
		s.put(0, i)
		s.outer(i, none(), "<!DOCTYPE "+name+">")
		s.inner(i, none(), "")
	}
	s.inner(0, none(), "<!DOCTYPE script><!DOCTYPE br><!DOCTYPE template>")
}

// What is in a template's content is written, what is in the template itself isn't.
func TestTemplates(t *testing.T) {
	s := newScene(t, 40)
	template, own, text := s.element("template"), s.text("own"), s.text("a<")
	s.put(template, own)
	s.outer(template, none(), "<template></template>")
	s.put(template+1, text, s.element("br"))
	s.outer(template, none(), "<template>a&lt;<br></template>")
	s.inner(template, none(), "a&lt;<br>")
	s.outer(template+1, none(), "a&lt;<br>")
	s.inner(template+1, none(), "a&lt;<br>")
	s.outer(own, none(), "own")
	within := s.element("template")
	s.put(within+1, s.text("b"))
	s.put(template+1, within)
	s.outer(template, none(), "<template>a&lt;<br><template>b</template></template>")
	// Layer 8 gives it a shadow root, which comes first.
	root := s.shadow(template, api.Flags{})
	s.put(root, s.text("c"))
	s.outer(template, none(), "<template>a&lt;<br><template>b</template></template>")
	s.outer(template, roots(root), "<template>"+open+"c"+end+"a&lt;<br><template>b</template></template>")
	s.inner(template, roots(root), open+"c"+end+"a&lt;<br><template>b</template>")
	s.inner(template+1, roots(root), "a&lt;<br><template>b</template>")
}

// What stands in a node is written in the order in which it stands there now.
func TestOrder(t *testing.T) {
	s := parsed(t, 40, "<ul><li>a</li><li>b<i>c</i></li></ul>d<!--e-->")
	s.inner(0, none(), "<ul><li>a</li><li>b<i>c</i></li></ul>d<!--e-->")
	s.wants(s.Insert(2, 5, 3))
	s.wants(s.Insert(5, 7, 6))
	s.wants(s.Insert(0, 10, 2))
	s.inner(0, none(), "<!--e--><ul><li><i>c</i>b</li><li>a</li></ul>d")
	s.wants(s.Remove(5))
	s.inner(0, none(), "<!--e--><ul><li>a</li></ul>d")
	s.outer(5, none(), "<li><i>c</i>b</li>")
}

func TestWhatWasChanged(t *testing.T) {
	s := newScene(t, 20)
	div, text, note := s.element("div", attr("a", "1"), attr("b", "2")), s.text("x"), s.node(api.Node{Kind: api.Comment, Data: "y"})
	s.put(div, text, note)
	s.wants(s.Set(div, "c", "3"))
	s.wants(s.Set(div, "a", "4"))
	s.wants(s.Drop(div, "b"))
	s.wants(s.Write(text, ">"))
	s.wants(s.Write(note, ">"))
	s.outer(div, none(), `<div a="4" c="3">&gt;<!-->--></div>`)
}

// Texts side by side, and empty ones, leave no mark.
func TestTextsSideBySide(t *testing.T) {
	s := newScene(t, 20)
	div := s.element("div")
	s.put(div, s.text("&"), s.text(""), s.text("lt;"), s.text("\xc2"), s.text("\xa0"))
	s.outer(div, none(), "<div>&amp;lt;\xc2\xa0</div>")
}

func TestEachFlag(t *testing.T) {
	for bits := range 32 {
		is := func(bit int) bool { return bits>>bit&1 == 1 }
		f := api.Flags{Closed: is(0), Manual: is(1), Delegates: is(2), Serializable: is(3), Clonable: is(4)}
		s := newScene(t, 10)
		host := s.element("div")
		root := s.shadow(host, f)
		s.put(root, s.text("x"))
		s.put(host, s.text("y"))
		written := rootStart(f) + "x</template>y"
		s.inner(host, roots(root), written)
		s.inner(host, api.Options{Serializable: true, Roots: []int{root}}, written)
		s.outer(host, roots(root), "<div>"+written+"</div>")
		s.inner(host, none(), "y")
		if !f.Serializable {
			written = "y"
		}
		s.inner(host, serializable(), written)
		s.outer(host, serializable(), "<div>"+written+"</div>")
	}
}

func TestFlagsInOrder(t *testing.T) {
	rows := []struct {
		f    api.Flags
		want string
	}{
		{api.Flags{}, `<template shadowrootmode="open"></template>`},
		{api.Flags{Closed: true}, `<template shadowrootmode="closed"></template>`},
		{api.Flags{Delegates: true}, `<template shadowrootmode="open" shadowrootdelegatesfocus=""></template>`},
		{api.Flags{Serializable: true}, `<template shadowrootmode="open" shadowrootserializable=""></template>`},
		{api.Flags{Manual: true}, `<template shadowrootmode="open" shadowrootslotassignment="manual"></template>`},
		{api.Flags{Clonable: true}, `<template shadowrootmode="open" shadowrootclonable=""></template>`},
		{api.Flags{Closed: true, Manual: true, Delegates: true, Serializable: true, Clonable: true},
			`<template shadowrootmode="closed" shadowrootdelegatesfocus="" shadowrootserializable="" shadowrootslotassignment="manual" shadowrootclonable=""></template>`},
	}
	for _, r := range rows {
		s := newScene(t, 10)
		host := s.element("div")
		s.inner(host, roots(s.shadow(host, r.f)), r.want)
	}
}

// A shadow root that is asked for itself is in no template: that is its host's.
func TestShadowRootsThemselves(t *testing.T) {
	for _, f := range []api.Flags{{}, {Closed: true, Serializable: true}} {
		s := newScene(t, 10)
		host := s.element("div")
		root := s.shadow(host, f)
		s.put(root, s.text("<"), s.element("slot"))
		for _, o := range []api.Options{none(), serializable(), roots(root)} {
			s.outer(root, o, "&lt;<slot></slot>")
			s.inner(root, o, "&lt;<slot></slot>")
		}
	}
}

// Each shadow root is asked for itself, wherever it is.
func TestShadowRootsInShadowRoots(t *testing.T) {
	s := parsed(t, 80, "<div>"+kept+"<x-a>"+open+"a"+end+"b</x-a><x-b>"+kept+"c"+end+"d</x-b>"+end+"e</div>")
	outer, first, second := 3, 5, 9
	for i, flags := range map[int]api.Flags{outer: {Serializable: true}, first: {}, second: {Serializable: true}} {
		if n, _ := s.Node(i); n.Kind != api.Shadow || n.Flags != flags {
			t.Fatalf("%d is %v", i, n)
		}
	}
	const bare = "<div>e</div>"
	s.inner(0, none(), bare)
	s.inner(0, serializable(), "<div>"+kept+"<x-a>b</x-a><x-b>"+kept+"c"+end+"d</x-b>"+end+"e</div>")
	s.inner(0, roots(first), bare)
	s.inner(0, roots(first, second), bare)
	s.inner(0, roots(outer), "<div>"+kept+"<x-a>b</x-a><x-b>d</x-b>"+end+"e</div>")
	s.inner(0, roots(first, outer), "<div>"+kept+"<x-a>"+open+"a"+end+"b</x-a><x-b>d</x-b>"+end+"e</div>")
	s.inner(0, roots(second, outer, outer, second), "<div>"+kept+"<x-a>b</x-a><x-b>"+kept+"c"+end+"d</x-b>"+end+"e</div>")
	s.inner(0, api.Options{Serializable: true, Roots: []int{first}}, "<div>"+kept+"<x-a>"+open+"a"+end+"b</x-a><x-b>"+kept+"c"+end+"d</x-b>"+end+"e</div>")
	// From within it is the same.
	s.inner(outer, roots(first), "<x-a>"+open+"a"+end+"b</x-a><x-b>d</x-b>")
	s.outer(outer, serializable(), "<x-a>b</x-a><x-b>"+kept+"c"+end+"d</x-b>")
}

// A host in a template's content, in one in a shadow root.
func TestShadowRootsInContents(t *testing.T) {
	s := parsed(t, 80, "<template><div>"+kept+"<template><p>"+open+"a"+end+"b</p>"+end+end+"c</div>"+end)
	s.inner(0, serializable(), "<template><div>"+kept+"<template><p>b</p>"+end+end+"c</div>"+end)
	s.inner(0, none(), "<template><div>c</div>"+end)
	var all []int
	for i, n := range tell(s.Doc).nodes {
		if n.Kind == api.Shadow {
			all = append(all, i)
		}
	}
	s.inner(0, roots(all...), "<template><div>"+kept+"<template><p>"+open+"a"+end+"b</p>"+end+end+"c</div>"+end)
}

// Layer 8 gives any element a shadow root.
func TestOtherHosts(t *testing.T) {
	for _, name := range []string{"a", "slot", "textarea", "script", "annotation-xml"} {
		s := newScene(t, 20)
		host := s.element(name)
		root := s.shadow(host, api.Flags{})
		s.put(root, s.text("&"))
		s.outer(host, roots(root), "<"+name+">"+open+"&amp;"+end+"</"+name+">")
	}
}

// Among the roots may be any number; just that of a shadow root says something.
func TestRootsThatAreNone(t *testing.T) {
	s := parsed(t, 40, "<div>"+open+"a"+end+"b</div>")
	div, root := 2, 3
	others := []int{math.MinInt, -1 << 32, -root, -2, -1, 0, 1, div, 4, 5, s.Len(), s.Len() + 1, 40, 5000, math.MaxInt32, 1 << 32, 1<<32 + root, math.MaxInt}
	s.inner(0, roots(others...), "<div>b</div>")
	s.inner(0, roots(append(others, root)...), "<div>"+open+"a"+end+"b</div>")
	s.inner(0, roots(append([]int{root}, others...)...), "<div>"+open+"a"+end+"b</div>")
	s.inner(div, roots(root, root), open+"a"+end+"b")
	s.inner(0, api.Options{Roots: []int{}}, "<div>b</div>")
	// Behind the list's length nothing is read.
	behind := []int{0, root, root}
	s.inner(0, roots(behind[:1]...), "<div>b</div>")
	s.inner(0, roots(behind[:0]...), "<div>b</div>")
	if !slices.Equal(behind, []int{0, root, root}) {
		t.Errorf("the roots are %v", behind)
	}
}

func TestNumbersThatAreNone(t *testing.T) {
	s := parsed(t, 20, "<div>"+kept+"a"+end+"b</div>")
	n := s.Len()
	for _, i := range []int{math.MinInt, math.MinInt32, -1 << 32, 1 - 1<<32, -2, -1, n, n + 1, 20, 5000, math.MaxInt32, 1 << 32, 1<<32 + 2, math.MaxInt} {
		for _, o := range []api.Options{none(), serializable(), roots(3), roots(i)} {
			s.inner(i, o, "")
			s.outer(i, o, "")
		}
	}
}

// What is given to slots by hand is not written.
func TestGiftsLeaveNoTrace(t *testing.T) {
	s := parsed(t, 40, `<div><template shadowrootmode="open" shadowrootslotassignment="manual"><slot></slot></template>a<b></b></div>`)
	ahead := inner(t, s.Doc, 0, roots(3))
	s.wants(s.Give(4, []int{6, 5}))
	s.inner(0, roots(3), ahead)
}

func TestDocumentsAreApart(t *testing.T) {
	s := parsed(t, 40, "<b>a</b>")
	d := s.Copy()
	s.wants(s.Write(3, "c"))
	s.inner(0, none(), "<b>c</b>")
	if got := inner(t, d, 0, none()); got != "<b>a</b>" {
		t.Errorf("the other one is %q", got)
	}
}

// What is written is not changed by what is done to the document later.
func TestTextsStay(t *testing.T) {
	s := parsed(t, 40, "<b id=x>a</b>")
	first := serial.Inner(s.Doc, 0, none())
	s.wants(s.Write(3, "ccc"))
	s.wants(s.Set(2, "id", "yyy"))
	second := serial.Outer(s.Doc, 2, none())
	if first != `<b id="x">a</b>` || second != `<b id="yyy">ccc</b>` {
		t.Errorf("%q, %q", first, second)
	}
}

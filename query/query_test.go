package query_test

import (
	"math"
	"slices"
	"testing"

	"portiere/api"
	"portiere/build"
	"portiere/dom"
	"portiere/order"
	"portiere/query"
)

// scene is a document that a test writes, and asks.
type scene struct {
	*dom.Doc
	t *testing.T
}

func newScene(t *testing.T, limit int) scene {
	t.Helper()
	return scene{dom.New(limit), t}
}

// parsed is a document with the nodes of a text in node 0, with the shadow roots that are written; node 1 is an empty Fragment.
func parsed(t *testing.T, text string) scene {
	t.Helper()
	s := newScene(t, 100)
	i, _, err := build.Parse(s.Doc, text, true)
	s.wants(err)
	s.wants(s.Insert(0, i, -1))
	hold(t, s.Doc)
	return s
}

func (s scene) node(n api.Node) int {
	s.t.Helper()
	i, err := s.Make(n)
	s.wants(err)
	return i
}

func (s scene) element(name string, attrs ...api.Attr) int {
	s.t.Helper()
	return s.node(api.Node{Kind: api.Element, Name: name, Attrs: attrs})
}

func (s scene) put(up int, l ...int) {
	s.t.Helper()
	for _, i := range l {
		s.wants(s.Insert(up, i, -1))
	}
}

// wants is behind a call that is not refused.
func (s scene) wants(err api.Errno) {
	s.t.Helper()
	if err != api.OK {
		s.t.Fatalf("refused: %d", err)
	}
}

func (s scene) id(root int, id string, want int) {
	s.t.Helper()
	if got := query.ByID(s.Doc, root, id); got != want {
		s.t.Errorf("ByID(%d, %q) = %d, not %d", root, id, got, want)
	}
}

func (s scene) name(root int, name string, want ...int) {
	s.t.Helper()
	if got := query.ByName(s.Doc, root, name); !slices.Equal(got, want) {
		s.t.Errorf("ByName(%d, %q) = %v, not %v", root, name, got, want)
	}
}

func (s scene) attr(root int, name, value string, want ...int) {
	s.t.Helper()
	if got := query.ByAttr(s.Doc, root, name, value); !slices.Equal(got, want) {
		s.t.Errorf("ByAttr(%d, %q, %q) = %v, not %v", root, name, value, got, want)
	}
}

func (s scene) closest(i int, name string, want int) {
	s.t.Helper()
	if got := query.Closest(s.Doc, i, name); got != want {
		s.t.Errorf("Closest(%d, %q) = %d, not %d", i, name, got, want)
	}
}

func attr(name, value string) api.Attr { return api.Attr{Name: name, Value: value} }

func TestExample(t *testing.T) {
	s := parsed(t, "<ul><li>a<li>b</ul><!--c--><p>d")
	s.name(0, "*", 2, 3, 5, 8)
}

func TestByName(t *testing.T) {
	s := parsed(t, "<!doctype div><div>div<b><div></div></b><!--div--><i div=div id=div></i></div>")
	// 2 the Doctype, 3 div, 4 its text, 5 b, 6 div, 7 a comment, 8 i
	s.name(0, "div", 3, 6)
	s.name(0, "b", 5)
	s.name(0, "*", 3, 5, 6, 8)
	s.name(3, "div", 6)
	s.name(3, "*", 5, 6, 8)
	s.name(5, "div", 6)
	for _, leaf := range []int{1, 2, 4, 6, 7, 8} {
		s.name(leaf, "*")
		s.name(leaf, "div")
	}
	for _, name := range []string{"", "DIV", "Div", "di", "divs", " div", "div ", "**", "#text", "!", "\x00", "div\x00"} {
		s.name(0, name)
	}
}

// A Doctype that has no name, an empty Text: nothing of these is an Element.
func TestWhatIsNoElement(t *testing.T) {
	s := newScene(t, 20)
	s.put(0, s.node(api.Node{Kind: api.Doctype}), s.node(api.Node{Kind: api.Text}), s.node(api.Node{Kind: api.Comment}))
	s.put(0, s.node(api.Node{Kind: api.Doctype, Name: "html"}))
	f := s.node(api.Node{Kind: api.Fragment})
	for i := range s.Len() {
		s.name(i, "*")
		s.name(i, "")
		s.name(i, "html")
		s.attr(i, "", "")
		s.closest(i, "", -1)
		s.closest(i, "html", -1)
		s.closest(i, "*", -1)
	}
	s.put(f, s.element("html"))
	s.name(f, "html", 6)
	hold(t, s.Doc)
}

func TestByAttr(t *testing.T) {
	s := parsed(t, `<b id=a x=1></b><i x=1 y=1><b x=2></b><u x></u></i><u X=1 y="1 2"></u>`)
	// 2 b, 3 i, 4 b in i, 5 u in i, 6 u
	s.attr(0, "x", "1", 2, 3, 6)
	s.attr(0, "x", "2", 4)
	s.attr(0, "x", "", 5)
	s.attr(0, "y", "1", 3)
	s.attr(0, "y", "1 2", 6)
	s.attr(0, "id", "a", 2)
	s.attr(3, "x", "1") // root itself is not told
	s.attr(3, "x", "2", 4)
	s.attr(3, "x", "", 5)
	for _, a := range []api.Attr{
		attr("y", "2"), attr("y", "1 "), attr("y", " 1"), attr("X", "1"), attr("1", "x"), attr("x", "1x"), attr("z", ""), // that one is not there
		attr("", ""), attr("", "1"), attr("*", "1"), attr("x", "*"), attr("id", "A"), attr("y", ""), attr("x1", ""), attr("x\x00", "1"),
	} {
		s.attr(0, a.Name, a.Value)
	}
	s.wants(s.Set(6, "*", "*"))
	s.attr(0, "*", "*", 6)
	s.attr(0, "*", "1")
}

// An attribute is found at whatever place among the others it is.
func TestAttributesAnywhere(t *testing.T) {
	s := newScene(t, 10)
	s.put(0, s.element("b", attr("x", "1"), attr("y", "2"), attr("z", "3")))
	for _, a := range []api.Attr{attr("x", "1"), attr("y", "2"), attr("z", "3")} {
		s.attr(0, a.Name, a.Value, 1)
	}
	s.attr(0, "x", "2")
	s.attr(0, "y", "3")
	s.attr(0, "z", "1")
}

func TestByID(t *testing.T) {
	s := parsed(t, `<div id=a><b id=b></b><i id=a></i></div><b id=b></b><u id></u><u x=c></u>`)
	// 2 div, 3 b, 4 i, 5 b, 6 u with an empty id, 7 u
	s.id(0, "a", 2)
	s.id(0, "b", 3)
	s.id(2, "a", 4) // root itself is not told
	s.id(2, "b", 3)
	s.id(0, "", -1)
	s.attr(0, "id", "", 6)
	for _, id := range []string{"c", "A", "a b", " a", "*", "id", "div", "\x00"} {
		s.id(0, id, -1)
	}
	for i := 3; i < 8; i++ {
		s.id(i, "a", -1)
		s.id(i, "b", -1)
	}
	s.wants(s.Set(7, "id", "a b"))
	s.id(0, "a b", 7)
	s.id(0, "a", 2)
}

// What is first is first in order, not by its number.
func TestFirstInOrder(t *testing.T) {
	s := newScene(t, 20)
	first, second, third := s.element("b", attr("id", "a")), s.element("b", attr("id", "a")), s.element("b", attr("id", "a"))
	up := s.element("i")
	s.put(0, up, second)
	s.put(up, third, first)
	s.name(0, "b", third, first, second)
	s.name(0, "*", up, third, first, second)
	s.attr(0, "id", "a", third, first, second)
	s.id(0, "a", third)
	s.wants(s.Insert(0, second, up))
	s.id(0, "a", second)
	s.name(0, "*", second, up, third, first)
	hold(t, s.Doc)
}

func TestClosest(t *testing.T) {
	s := parsed(t, "<!doctype div><div><section><b><section>a<!--c--></section></b></section></div>")
	// 2 the Doctype, 3 div, 4 section, 5 b, 6 section, 7 a, 8 c
	s.closest(7, "section", 6)
	s.closest(8, "section", 6)
	s.closest(6, "section", 6) // itself
	s.closest(5, "section", 4)
	s.closest(4, "section", 4)
	s.closest(3, "section", -1)
	s.closest(7, "b", 5)
	s.closest(7, "div", 3)
	s.closest(3, "div", 3)
	s.closest(2, "div", -1) // a Doctype has that name, but is no Element
	s.closest(0, "div", -1)
	s.closest(1, "div", -1)
	for _, name := range []string{"*", "", "DIV", "i", "di", "#text", "a", "c"} {
		for i := range s.Len() {
			s.closest(i, name, -1)
		}
	}
}

// manyTrees has one name and one id in many trees: in node 0, in a shadow root, in a shadow root of what is in that, in a content.
const manyTrees = `<div id=a><template shadowrootmode=closed><b id=a><slot></slot></b><p id=a><template shadowrootmode=open><b id=a></b></template></p></template><b id=a></b></div><template id=a><b id=a></b>`

// 2 div, 3 its shadow root, 4 b, 5 slot, 6 p, 7 its shadow root, 8 b, 9 b in div, 10 template, 11 its content, 12 b
func TestEachTreeIsItsOwn(t *testing.T) {
	s := parsed(t, manyTrees)
	rows := []struct {
		root     int
		all, ids []int
	}{
		{0, []int{2, 9, 10}, []int{2, 9, 10}},
		{2, []int{9}, []int{9}},
		{3, []int{4, 5, 6}, []int{4, 6}},
		{4, []int{5}, nil},
		{6, nil, nil},
		{7, []int{8}, []int{8}},
		{10, nil, nil},
		{11, []int{12}, []int{12}},
		{12, nil, nil},
	}
	for _, r := range rows {
		s.name(r.root, "*", r.all...)
		s.attr(r.root, "id", "a", r.ids...)
		first := -1
		if len(r.ids) > 0 {
			first = r.ids[0]
		}
		s.id(r.root, "a", first)
	}
	s.name(0, "b", 9)
	s.name(3, "b", 4)
	s.name(7, "b", 8)
	s.name(11, "b", 12)
	s.name(0, "template", 10)
}

// One does not go from a shadow root to its host, nor from a content to its template.
func TestClosestStaysInItsTree(t *testing.T) {
	s := parsed(t, manyTrees)
	for _, i := range []int{3, 4, 5, 6, 7, 8} {
		s.closest(i, "div", -1)
	}
	for _, i := range []int{11, 12} {
		s.closest(i, "template", -1)
	}
	s.closest(8, "p", -1)
	s.closest(8, "b", 8)
	s.closest(5, "b", 4)
	s.closest(9, "div", 2)
	s.closest(10, "template", 10)
	s.wants(s.Give(5, []int{9}))
	s.closest(9, "slot", -1)
	s.closest(9, "div", 2)
	s.name(5, "*")
	hold(t, s.Doc)
}

// What a template has among its Kids is in its tree, what its content has is not.
func TestKidsOfTemplates(t *testing.T) {
	s := newScene(t, 20)
	template := s.element("template")
	kid, inner := s.element("b", attr("id", "a")), s.element("b", attr("id", "a"))
	s.put(template, kid)
	s.put(template+1, inner)
	s.name(template, "b", kid)
	s.name(template+1, "b", inner)
	s.id(template, "a", kid)
	s.closest(kid, "template", template)
	s.closest(inner, "template", -1)
	hold(t, s.Doc)
}

func TestNumbersThatAreNone(t *testing.T) {
	s := parsed(t, manyTrees)
	for _, i := range []int{math.MinInt, math.MinInt32, -1 << 32, -2, -1, s.Len(), s.Len() + 1, 5000, math.MaxInt32, 1 << 32, 1<<32 + 2, math.MaxInt} {
		s.id(i, "a", -1)
		s.id(i, "", -1)
		s.name(i, "*")
		s.name(i, "")
		s.attr(i, "id", "a")
		s.attr(i, "", "")
		s.closest(i, "b", -1)
		s.closest(i, "", -1)
	}
}

// Node 0 is the root of what is in nothing else; what is taken out is a tree of its own.
func TestAnswersFollow(t *testing.T) {
	s := parsed(t, "<div id=a><b id=b><i></i></b></div>") // 2 div, 3 b, 4 i
	s.wants(s.Remove(3))
	s.name(0, "*", 2)
	s.id(0, "b", -1)
	s.closest(4, "div", -1)
	s.closest(4, "b", 3)
	s.name(3, "*", 4)
	s.put(0, 3)
	s.id(0, "b", 3)
	s.wants(s.Insert(0, 3, 2))
	s.wants(s.Set(3, "id", "a"))
	s.id(0, "a", 3)
	s.attr(0, "id", "a", 3, 2)
	s.wants(s.Drop(3, "id"))
	s.id(0, "a", 2)
	s.attr(0, "id", "a", 2)
	d := scene{s.Copy(), t}
	s.wants(s.Drop(2, "id"))
	s.id(0, "a", -1)
	d.id(0, "a", 2)
	hold(t, s.Doc)
	hold(t, d.Doc)
}

func TestAnswersAreNewMemory(t *testing.T) {
	s := parsed(t, manyTrees)
	asks := []func() []int{
		func() []int { return query.ByName(s.Doc, 0, "*") },
		func() []int { return query.ByName(s.Doc, 3, "b") },
		func() []int { return query.ByAttr(s.Doc, 0, "id", "a") },
	}
	for k, ask := range asks {
		first, second := ask(), ask()
		for k := range first {
			first[k] = -7
		}
		_ = append(first, -8)
		if third := ask(); len(second) == 0 || !slices.Equal(second, third) || slices.Contains(third, -7) {
			t.Errorf("ask %d: %v, %v", k, second, third)
		}
	}
	if l := order.Tree(s.Doc, 0); slices.Contains(l, -7) {
		t.Errorf("the document's order is %v", l)
	}
	hold(t, s.Doc)
}

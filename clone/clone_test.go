package clone_test

import (
	"math"
	"slices"
	"strings"
	"testing"

	"portiere/api"
	"portiere/build"
	"portiere/clone"
	"portiere/dom"
)

// scene is a document that a test writes.
type scene struct {
	*dom.Doc
	t *testing.T
}

func newScene(t *testing.T, limit int) scene {
	t.Helper()
	return scene{dom.New(limit), t}
}

// written is a document with the nodes of a text in node 0, with the shadow roots that are written; node 1 is an empty Fragment.
func written(t *testing.T, limit int, text string) scene {
	t.Helper()
	s := newScene(t, limit)
	i, _, err := build.Parse(s.Doc, text, true)
	s.wants(err)
	s.wants(s.Insert(0, i, -1))
	return s
}

func (s scene) node(n api.Node) int {
	s.t.Helper()
	i, err := s.Make(n)
	s.wants(err)
	return i
}

func (s scene) element(name string, attrs ...api.Attr) int {
	s.t.Helper()
	return s.node(api.Node{Kind: api.Element, Name: name, Attrs: attrs})
}

func (s scene) text(data string) int {
	s.t.Helper()
	return s.node(api.Node{Kind: api.Text, Data: data})
}

func (s scene) shadow(host int, f api.Flags) int {
	s.t.Helper()
	i, err := s.Root(host, f)
	s.wants(err)
	return i
}

func (s scene) put(up int, l ...int) {
	s.t.Helper()
	for _, i := range l {
		s.wants(s.Insert(up, i, -1))
	}
}

// wants is behind a call that is not refused.
func (s scene) wants(err api.Errno) {
	s.t.Helper()
	if err != api.OK {
		s.t.Fatalf("refused: %d", err)
	}
}

// copies says what is made of a node: of all nodes that are made the shape.
func (s scene) copies(i int, deep bool, want string) int {
	s.t.Helper()
	from := s.Len()
	got, err := copied(s.t, s.Doc, i, deep)
	if got != from || err != api.OK {
		s.t.Errorf("Clone(%d, %v) = %d, %d", i, deep, got, err)
	}
	if made := strings.TrimPrefix(shape(tell(s.Doc)), shape(tell(s.Doc).upTo(from))+" "); made != want {
		s.t.Errorf("Clone(%d, %v) makes\n%s, not\n%s", i, deep, made, want)
	}
	return got
}

func (s scene) refuses(i int, deep bool, want api.Errno) {
	s.t.Helper()
	ahead := tell(s.Doc)
	if got, err := copied(s.t, s.Doc, i, deep); got != 0 || err != want {
		s.t.Errorf("Clone(%d, %v) = %d, %d, not %d", i, deep, got, err, want)
	}
	if !same(tell(s.Doc), ahead) {
		s.t.Errorf("Clone(%d, %v) is refused, and changes the document", i, deep)
	}
}

// upTo is the same without the later nodes.
func (w told) upTo(n int) told { return told{nodes: w.nodes[:n]} }

const (
	clonable = "<template shadowrootmode=open shadowrootclonable>"
	other    = "<template shadowrootmode=open>"
	end      = "</template>"
)

func TestExample(t *testing.T) {
	s := newScene(t, 20)
	s.element("div")
	s.text("x")
	s.put(1, 2)
	s.copies(1, false, "3div")
	s.copies(1, true, `4div(5) 5"x"`)
}

func TestExampleOfTheWhole(t *testing.T) {
	s := newScene(t, 100)
	i, _, _ := build.Parse(s.Doc, "<b>x", false)
	s.put(0, i)
	s.copies(2, false, "4b")
	s.copies(2, true, `5b(6) 6"x"`)
	if s.Len() != 7 {
		t.Errorf("%d nodes", s.Len())
	}
}

func TestKinds(t *testing.T) {
	attrs := []api.Attr{{Name: "id", Value: "a b"}, {Name: "x", Value: ""}, {Name: "class", Value: "\x00<"}}
	rows := []struct {
		n    api.Node
		want string
	}{
		{api.Node{Kind: api.Element, Name: "b"}, "2b"},
		{api.Node{Kind: api.Element, Name: "x-a", Attrs: attrs}, "2x-a,id=a b,x=,class=\x00<"},
		{api.Node{Kind: api.Element, Name: "br", Attrs: attrs[:1]}, "2br,id=a b"},
		{api.Node{Kind: api.Text, Data: "x\x00\xff"}, "2\"x\x00\xff\""},
		{api.Node{Kind: api.Text}, `2""`},
		{api.Node{Kind: api.Comment, Data: "-->"}, "2!-->"},
		{api.Node{Kind: api.Comment}, "2!"},
		{api.Node{Kind: api.Doctype, Name: "html"}, "2?html"},
		{api.Node{Kind: api.Doctype, Name: "template"}, "2?template"},
		{api.Node{Kind: api.Doctype}, "2?"},
		{api.Node{Kind: api.Fragment}, "2#"},
	}
	for _, r := range rows {
		for _, deep := range []bool{false, true} {
			s := newScene(t, 3)
			s.copies(s.node(r.n), deep, r.want)
		}
	}
}

// A copy has what its node is now, not what that was as it was made.
func TestWhatWasChanged(t *testing.T) {
	s := newScene(t, 20)
	div, text, note := s.element("div", api.Attr{Name: "a", Value: "1"}, api.Attr{Name: "b", Value: "2"}), s.text("x"), s.node(api.Node{Kind: api.Comment, Data: "y"})
	s.put(div, text, note)
	s.wants(s.Set(div, "c", "3"))
	s.wants(s.Set(div, "a", "4"))
	s.wants(s.Drop(div, "b"))
	s.wants(s.Write(text, ""))
	s.wants(s.Write(note, "z"))
	s.put(div, text)
	s.copies(div, true, `4div,a=4,c=3(5 6) 5!z 6""`)
}

// A copy is in nothing, wherever its node is; what stands beside it is not copied.
func TestCopiesAreInNothing(t *testing.T) {
	s := written(t, 40, "a<p>b<i>c</i>d</p>e")
	s.copies(5, true, `9i(10) 10"c"`)
	s.copies(5, false, "11i")
	s.copies(6, true, `12"c"`)
	s.copies(3, true, `13p(14 15 17) 14"b" 15i(16) 16"c" 17"d"`)
}

func TestAllThatIsInIt(t *testing.T) {
	s := written(t, 60, "<ul id=a><li>a<b>b</b></li><!--c--><li><br>d</li></ul>")
	s.copies(2, true, `11ul,id=a(12 16 17) 12li(13 14) 13"a" 14b(15) 15"b" 16!c 17li(18 19) 18br 19"d"`)
	s.copies(2, false, "20ul,id=a")
	// Kids in another order than that of their numbers: the copies have theirs in order.
	s.wants(s.Insert(2, 8, 3))
	s.wants(s.Insert(3, 5, 4))
	s.copies(2, true, `21ul,id=a(22 25 29) 22li(23 24) 23br 24"d" 25li(26 28) 26b(27) 27"b" 28"a" 29!c`)
}

func TestFragments(t *testing.T) {
	s := written(t, 60, "<b>x</b>y")
	s.copies(0, false, "5#")
	s.copies(0, true, `6#(7 9) 7b(8) 8"x" 9"y"`)
	// A copy of a copy.
	s.copies(6, true, `10#(11 13) 11b(12) 12"x" 13"y"`)
	s.copies(1, true, "14#")
	if n, _ := s.Node(0); !slices.Equal(n.Kids, []int{2, 4}) {
		t.Errorf("node 0 has %v", n.Kids)
	}
}

// A Doctype may be anywhere in a document.
func TestDoctypesWithinElements(t *testing.T) {
	s := newScene(t, 20)
	div := s.element("div")
	s.put(div, s.text("x"), s.node(api.Node{Kind: api.Doctype, Name: "html"}), s.node(api.Node{Kind: api.Doctype}))
	s.copies(div, true, `5div(6 7 8) 6"x" 7?html 8?`)
}

// A template is made with a content; just a deep copy has something in it.
func TestTemplates(t *testing.T) {
	s := written(t, 60, "<template id=a><b>x</b>y</template>")
	s.copies(2, false, "7template,id=a>8 8<7")
	s.copies(2, true, `9template,id=a>10 10<9(11 13) 11b(12) 12"x" 13"y"`)
	// What is in the template itself comes behind what is in its content.
	s.put(2, s.text("own"))
	s.wants(s.Insert(2, s.element("i"), 14))
	s.copies(2, false, "16template,id=a>17 17<16")
	s.copies(2, true, `18template,id=a>19(23 24) 19<18(20 22) 20b(21) 21"x" 22"y" 23i 24"own"`)
}

func TestTemplatesInTemplates(t *testing.T) {
	s := written(t, 60, "<template>a<template>b</template>c</template>")
	s.copies(2, true, `9template>10 10<9(11 12 15) 11"a" 12template>13 13<12(14) 14"b" 15"c"`)
	s.copies(5, true, `16template>17 17<16(18) 18"b"`)
	s.copies(0, true, `19#(20) 20template>21 21<20(22 23 26) 22"a" 23template>24 24<23(25) 25"b" 26"c"`)
}

// A content is a Fragment: its copy is one, and is nobody's.
func TestContents(t *testing.T) {
	s := written(t, 60, "<template><b>x</b>y</template>")
	s.copies(3, false, "7#")
	i := s.copies(3, true, `8#(9 11) 9b(10) 10"x" 11"y"`)
	s.put(0, i)
	if n, _ := s.Node(0); !slices.Equal(n.Kids, []int{2, 9, 11}) {
		t.Errorf("node 0 has %v", n.Kids)
	}
}

// A shadow root is copied just if it is Clonable; deep or not, with all that is in it.
func TestShadowRoots(t *testing.T) {
	s := written(t, 60, "<div>"+clonable+"<b>x</b>y"+end+"z</div>")
	s.copies(2, false, `8div^9 9^8L(10 12) 10b(11) 11"x" 12"y"`)
	s.copies(2, true, `13div^14(18) 14^13L(15 17) 15b(16) 16"x" 17"y" 18"z"`)
	s.copies(0, true, `19#(20) 20div^21(25) 21^20L(22 24) 22b(23) 23"x" 24"y" 25"z"`)
	s = written(t, 60, "<div>"+other+"<b>x</b>y"+end+"z</div>")
	s.copies(2, false, "8div")
	s.copies(2, true, `9div(10) 10"z"`)
	s.copies(0, true, `11#(12) 12div(13) 13"z"`)
}

func TestEachFlag(t *testing.T) {
	for bits := range 32 {
		is := func(bit int) bool { return bits>>bit&1 == 1 }
		f := api.Flags{Closed: is(0), Manual: is(1), Delegates: is(2), Serializable: is(3), Clonable: is(4)}
		for _, deep := range []bool{false, true} {
			s := newScene(t, 10)
			host := s.element("div")
			root := s.shadow(host, f)
			s.put(root, s.text("x"))
			want := "4div"
			if f.Clonable {
				want = "4div^5 5^4" + flagsShape(f) + `(6) 6"x"`
			}
			s.copies(host, deep, want)
		}
	}
}

// Each shadow root is asked for itself, however deep it is.
func TestShadowRootsInShadowRoots(t *testing.T) {
	s := written(t, 80, "<div>"+clonable+"<x-a>"+clonable+"a"+end+"b</x-a><x-b>"+other+"c"+end+"d</x-b>"+end+"e</div>")
	s.copies(2, false, `13div^14 14^13L(15 19) 15x-a^16(18) 16^15L(17) 17"a" 18"b" 19x-b(20) 20"d"`)
	s.copies(2, true, `21div^22(29) 22^21L(23 27) 23x-a^24(26) 24^23L(25) 25"a" 26"b" 27x-b(28) 28"d" 29"e"`)
	// What is in a shadow root that is not copied isn't either, Clonable or not.
	s = written(t, 80, "<div>"+other+"<x-a>"+clonable+"a"+end+"b</x-a>"+end+"<p>"+clonable+"c"+end+"d</p></div>")
	s.copies(2, false, "12div")
	s.copies(2, true, `13div(14) 14p^15(17) 15^14L(16) 16"c" 17"d"`)
	// But it is copied by itself.
	s.copies(4, false, `18x-a^19 19^18L(20) 20"a"`)
}

// A template may have a shadow root, too (layer 8 gives it one): it comes behind its content, ahead of what is in that.
func TestShadowRootsOfTemplates(t *testing.T) {
	s := newScene(t, 60)
	template := s.element("template")
	root := s.shadow(template, api.Flags{Clonable: true})
	s.put(template, s.text("own"))
	s.put(template+1, s.text("content"))
	s.put(root, s.text("root"))
	s.copies(template, false, `7template^9>8 8<7 9^7L(10) 10"root"`)
	s.copies(template, true, `11template^13>12(16) 12<11(15) 13^11L(14) 14"root" 15"content" 16"own"`)
}

// Layer 8 gives any element a shadow root, a Void one, too.
func TestOtherHosts(t *testing.T) {
	for _, name := range []string{"br", "a", "slot", "input", "x-a", "annotation-xml"} {
		s := newScene(t, 20)
		host := s.element(name)
		s.put(s.shadow(host, api.Flags{Clonable: true, Closed: true}), s.text("x"))
		s.copies(host, false, "4"+name+`^5 5^4CL(6) 6"x"`)
		s.copies(host, true, "7"+name+`^8 8^7CL(9) 9"x"`)
	}
}

func TestShadowsAreRefused(t *testing.T) {
	for _, f := range []api.Flags{{}, {Clonable: true}} {
		s := newScene(t, 20)
		host := s.element("div")
		root := s.shadow(host, f)
		s.put(root, s.text("x"))
		s.refuses(root, false, api.ErrTree)
		s.refuses(root, true, api.ErrTree)
		s.copies(3, true, `4"x"`)
	}
}

func TestNumbersThatAreNone(t *testing.T) {
	s := newScene(t, 20)
	s.shadow(s.element("div"), api.Flags{Clonable: true})
	n := s.Len()
	for _, i := range []int{math.MinInt, math.MinInt32, -1 << 32, 1 - 1<<32, -2, -1, n, n + 1, 20, 5000, math.MaxInt32, 1 << 32, 1<<32 + 1, math.MaxInt} {
		s.refuses(i, false, api.ErrNode)
		s.refuses(i, true, api.ErrNode)
	}
}

// Of several errors the first one of the promise is told: a document that is full has no room for anything.
func TestErrorsInOrder(t *testing.T) {
	s := newScene(t, 3)
	root := s.shadow(s.element("div"), api.Flags{})
	for _, deep := range []bool{false, true} {
		s.refuses(3, deep, api.ErrNode)
		s.refuses(-1, deep, api.ErrNode)
		s.refuses(root, deep, api.ErrTree)
		s.refuses(0, deep, api.ErrLimit)
		s.refuses(1, deep, api.ErrLimit)
	}
}

// For each limit up to what is needed nothing is made; from it on: all.
func TestRoom(t *testing.T) {
	rows := []struct {
		text string
		bare int // how many nodes a copy of the first element needs
		deep int
	}{
		{"<b></b>", 1, 1},
		{"<b>x</b>", 1, 2},
		{"<b>x<i>y</i></b>z", 1, 4},
		{"<template></template>", 2, 2},
		{"<template>x<template>y</template></template>", 2, 6},
		{"<div>" + clonable + end + "</div>", 2, 2},
		{"<div>" + clonable + "x" + end + "y</div>", 3, 4},
		{"<div>" + other + "x" + end + "y</div>", 1, 2},
		{"<div>" + clonable + "<template>x</template><p>" + clonable + "y" + end + "z</p>" + end + "a</div>", 9, 10},
		{"<div>" + other + "<p>" + clonable + "y" + end + "z</p>" + end + "<p>" + clonable + "y" + end + "z</p></div>", 1, 5},
	}
	for _, r := range rows {
		full := written(t, 100, r.text).Len()
		for room := range 14 {
			for _, deep := range []bool{false, true} {
				need := r.bare
				if deep {
					need = r.deep
				}
				s := written(t, full+room, r.text)
				if room < need {
					s.refuses(2, deep, api.ErrLimit)
				} else if i, err := copied(t, s.Doc, 2, deep); i != full || err != api.OK || s.Len() != full+need {
					t.Errorf("%s, room %d: %d, %d", r.text, room, i, err)
				}
			}
		}
	}
}

// Nothing is given to a slot of a copy, and what is given stays where it is.
func TestNothingIsGiven(t *testing.T) {
	s := newScene(t, 60)
	host := s.element("div")
	root := s.shadow(host, api.Flags{Manual: true, Clonable: true})
	slot, a, b := s.element("slot"), s.text("a"), s.element("b")
	s.put(root, slot)
	s.put(host, a, b)
	s.wants(s.Give(slot, []int{b, a}))
	s.copies(host, true, `6div^7(9 10) 7^6ML(8) 8slot 9"a" 10b`)
	s.copies(slot, true, "11slot")
	s.copies(b, true, "12b")
	for i := range s.Len() {
		if isOld := i == a || i == b; (s.Slot(i) == slot) != isOld || !isOld && s.Slot(i) != -1 {
			t.Errorf("%d is given to %d", i, s.Slot(i))
		}
		if got := s.Given(i); i != slot && len(got) > 0 || i == slot && !slices.Equal(got, []int{b, a}) {
			t.Errorf("to %d are given %v", i, got)
		}
	}
}

// What is done to a node is not seen in its copy, nor the other way round.
func TestCopiesAreApart(t *testing.T) {
	s := written(t, 60, "<div id=a class=b>"+clonable+"x"+end+"y<i>z</i></div>")
	i := s.copies(2, true, `8div,id=a,class=b^9(11 12) 9^8L(10) 10"x" 11"y" 12i(13) 13"z"`)
	s.put(0, i)
	s.wants(s.Set(2, "id", "other"))
	s.wants(s.Drop(2, "class"))
	s.wants(s.Write(4, "other"))
	s.wants(s.Remove(6))
	if got, want := shape(told{nodes: tell(s.Doc).nodes[8:]}), `0div,id=a,class=b^9(11 12) 1^8L(10) 2"x" 3"y" 4i(13) 5"z"`; got != want {
		t.Errorf("the copy is %s", got)
	}
	s.wants(s.Set(8, "id", "third"))
	s.wants(s.Write(11, "third"))
	s.wants(s.Remove(10))
	if got, want := shape(tell(s.Doc).upTo(8)), `0#(2 8) 1# 2div,id=other^3(5) 3^2L(4) 4"other" 5"y" 6i(7) 7"z"`; got != want {
		t.Errorf("what was copied is %s", got)
	}
}

func TestDocumentsAreApart(t *testing.T) {
	s := written(t, 60, "<b>x</b>")
	d := s.Copy()
	s.copies(2, true, `4b(5) 5"x"`)
	if d.Len() != 4 {
		t.Errorf("another document has %d nodes", d.Len())
	}
	if i, err := clone.Clone(d, 3, true); i != 4 || err != api.OK || s.Len() != 6 {
		t.Errorf("%d, %d; %d nodes", i, err, s.Len())
	}
}

// A copy is put into what it is a copy of, which is copied again: it is twice as great each time.
func TestCopiesInTheirNodes(t *testing.T) {
	s := newScene(t, 257)
	div := s.element("div")
	for size := 1; size <= 128; size *= 2 {
		i, err := copied(t, s.Doc, div, true)
		if i != 1+size || err != api.OK || s.Len() != 1+2*size {
			t.Fatalf("%d, %d, %d nodes", i, err, s.Len())
		}
		s.put(div, i)
	}
	s.refuses(div, true, api.ErrLimit)
}

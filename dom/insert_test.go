package dom_test

import (
	"testing"

	"portiere/api"
	"portiere/dom"
)

func TestInsertInOrder(t *testing.T) {
	p := newPair(t, 30)
	for range 5 {
		p.element("b")
	}
	p.wants(p.insert(0, 1, -1), api.OK)
	p.wants(p.insert(0, 2, -1), api.OK)
	p.kids(0, 1, 2)
	p.wants(p.insert(0, 3, 1), api.OK)
	p.kids(0, 3, 1, 2)
	p.wants(p.insert(0, 4, 2), api.OK)
	p.kids(0, 3, 1, 4, 2)
	// From one place to another in the same node.
	p.wants(p.insert(0, 2, 3), api.OK)
	p.kids(0, 2, 3, 1, 4)
	p.wants(p.insert(0, 2, -1), api.OK)
	p.kids(0, 3, 1, 4, 2)
	p.wants(p.insert(0, 3, 4), api.OK)
	p.kids(0, 1, 3, 4, 2)
	// From one node to another.
	p.wants(p.insert(5, 3, -1), api.OK)
	p.kids(0, 1, 4, 2)
	p.kids(5, 3)
	p.wants(p.insert(3, 1, -1), api.OK)
	p.kids(3, 1)
}

func TestInsertAheadOfItself(t *testing.T) {
	p := newPair(t, 30)
	for i := range 3 {
		p.element("b")
		p.insert(0, i+1, -1)
	}
	for i := 1; i <= 3; i++ {
		p.wants(p.insert(0, i, i), api.OK)
		p.kids(0, 1, 2, 3)
	}
	// Ahead of the one behind it, too, it stays.
	p.wants(p.insert(0, 1, 2), api.OK)
	p.wants(p.insert(0, 3, -1), api.OK)
	p.kids(0, 1, 2, 3)
	// Ahead of itself in another node: it isn't there.
	p.wants(p.insert(1, 2, 2), api.ErrTree)
	p.element("b")
	p.wants(p.insert(0, 4, 4), api.ErrTree)
}

func TestWhereNodesMayBe(t *testing.T) {
	p := newPair(t, 60)
	text := p.text("x")
	cases := []struct {
		n    api.Node
		want api.Errno
	}{
		{api.Node{Kind: api.Element, Name: "div"}, api.OK},
		{api.Node{Kind: api.Element, Name: "template"}, api.OK},
		{api.Node{Kind: api.Element, Name: "script"}, api.OK},
		{api.Node{Kind: api.Element, Name: "x-a"}, api.OK},
		{api.Node{Kind: api.Element, Name: "br"}, api.ErrTree},
		{api.Node{Kind: api.Element, Name: "hr"}, api.ErrTree},
		{api.Node{Kind: api.Element, Name: "wbr"}, api.ErrTree},
		{api.Node{Kind: api.Fragment}, api.OK},
		{api.Node{Kind: api.Text, Data: "y"}, api.ErrTree},
		{api.Node{Kind: api.Comment}, api.ErrTree},
		{api.Node{Kind: api.Doctype}, api.ErrTree},
		{api.Node{Kind: api.Doctype, Name: "div"}, api.ErrTree},
	}
	for _, c := range cases {
		i, _ := p.make(c.n)
		if err := p.insert(i, text, -1); err != c.want {
			t.Errorf("into %+v: %d", c.n, err)
		}
	}
	// A void element has nothing in it, but its shadow root may.
	p.wants(p.insert(p.shadow(p.element("br")), text, -1), api.OK)
}

func TestWhatMayBePutIn(t *testing.T) {
	p := newPair(t, 60)
	host, up := p.element("div"), p.element("div")
	root := p.shadow(host)
	template := p.element("template")
	p.wants(p.insert(up, 0, -1), api.ErrTree)
	p.wants(p.insert(up, root, -1), api.ErrTree)
	p.wants(p.insert(up, template+1, -1), api.ErrTree)
	p.wants(p.insert(0, 0, -1), api.ErrTree)
	for _, n := range []api.Node{{Kind: api.Text}, {Kind: api.Comment}, {Kind: api.Doctype}, {Kind: api.Element, Name: "br"}, {Kind: api.Fragment}} {
		i, _ := p.make(n)
		if err := p.insert(up, i, -1); err != api.OK {
			t.Errorf("%+v: %d", n, err)
		}
	}
	p.wants(p.insert(up, host, -1), api.OK)
	p.wants(p.insert(up, template, -1), api.OK)
}

func TestNothingIsWithinItself(t *testing.T) {
	p := newPair(t, 60)
	// outer has a template, whose content has a host, whose shadow root has inner.
	outer, template, host, inner := p.element("div"), p.element("template"), p.element("x-a"), p.element("b")
	content, root := template+1, p.shadow(host)
	p.insert(outer, template, -1)
	p.insert(content, host, -1)
	p.insert(root, inner, -1)
	line := []int{outer, template, host, inner}
	for k, i := range line {
		for _, up := range line[k:] {
			p.wants(p.insert(up, i, -1), api.ErrTree)
		}
	}
	p.wants(p.insert(content, template, -1), api.ErrTree)
	p.wants(p.insert(content, outer, -1), api.ErrTree)
	p.wants(p.insert(root, host, -1), api.ErrTree)
	p.wants(p.insert(root, template, -1), api.ErrTree)
	p.wants(p.insert(root, outer, -1), api.ErrTree)
	// The other way round is right, and so is what was wrong, once it is apart.
	p.wants(p.insert(0, inner, -1), api.OK)
	p.wants(p.insert(inner, outer, -1), api.OK)
	p.wants(p.insert(host, inner, -1), api.ErrTree)
}

// By Host one goes only where there is no Up.
func TestHostsWithAnUp(t *testing.T) {
	p := newPair(t, 60)
	host, up, other := p.element("div"), p.element("div"), p.element("div")
	root := p.shadow(host)
	p.insert(up, host, -1)
	p.insert(root, other, -1)
	p.wants(p.insert(other, up, -1), api.ErrTree)
	p.wants(p.remove(host), api.OK)
	p.wants(p.insert(other, up, -1), api.OK)
	p.wants(p.insert(up, host, -1), api.ErrTree)
}

func TestBefore(t *testing.T) {
	p := newPair(t, 60)
	a, b, c, text := p.element("b"), p.element("b"), p.element("b"), p.text("x")
	p.insert(0, a, -1)
	p.insert(a, b, -1)
	p.wants(p.insert(0, text, b), api.ErrTree) // it is in a
	p.wants(p.insert(0, text, c), api.ErrTree) // it is in nothing
	p.wants(p.insert(0, text, 0), api.ErrTree)
	p.wants(p.insert(a, text, a), api.ErrTree)
	p.wants(p.insert(0, text, text), api.ErrTree)
	p.wants(p.insert(a, text, b), api.OK)
	p.kids(a, text, b)
	root := p.shadow(a)
	p.wants(p.insert(a, text, root), api.ErrTree)
	p.wants(p.insert(0, text, root), api.ErrTree)
}

func TestInsertErrorsInOrder(t *testing.T) {
	p := newPair(t, 60)
	text := p.text("x")
	p.wants(p.insert(text, 0, 9), api.ErrNode)
	p.wants(p.insert(text, 9, text), api.ErrNode)
	p.wants(p.insert(9, 0, text), api.ErrNode)
	p.wants(p.insert(text, 0, -2), api.ErrNode)
	p.wants(p.insert(text, 0, -1), api.ErrTree)
}

func TestInsertFragments(t *testing.T) {
	p := newPair(t, 60)
	f, a, b, c, d := p.fragment(), p.text("a"), p.element("b"), p.text("c"), p.text("d")
	p.wants(p.insert(0, f, -1), api.OK) // nothing is in it
	p.kids(0)
	for _, i := range []int{a, b, c} {
		p.insert(f, i, -1)
	}
	p.wants(p.insert(0, d, -1), api.OK)
	p.wants(p.insert(0, f, d), api.OK)
	p.kids(0, a, b, c, d)
	p.kids(f)
	if n, _ := p.d.Node(f); n.Up != -1 {
		t.Errorf("the fragment is in %d", n.Up)
	}
	p.insert(f, c, -1)
	p.insert(f, a, -1)
	p.wants(p.insert(b, f, -1), api.OK)
	p.kids(b, c, a)
	p.kids(0, b, d)
	// Fragments may not be put into what is in them, or into themselves.
	p.insert(f, b, -1)
	p.wants(p.insert(b, f, -1), api.ErrTree)
	p.wants(p.insert(f, f, -1), api.ErrTree)
	p.wants(p.insert(f, f, b), api.ErrTree)
	p.wants(p.insert(0, f, f), api.ErrTree)
	p.wants(p.insert(0, f, b), api.ErrTree)
	p.kids(f, b)
	// A fragment that goes into a fragment.
	g := p.fragment()
	p.wants(p.insert(g, f, -1), api.OK)
	p.kids(g, b)
	p.wants(p.insert(g, 0, -1), api.ErrTree)
}

func TestRemove(t *testing.T) {
	p := newPair(t, 60)
	host := p.element("div")
	root := p.shadow(host)
	template := p.element("template")
	for _, i := range []int{0, host, root, template, template + 1, p.fragment(), p.text("x")} {
		p.wants(p.remove(i), api.ErrTree)
	}
	var l []int
	for range 5 {
		l = append(l, p.text("x"))
		p.insert(host, l[len(l)-1], -1)
	}
	p.wants(p.remove(l[0]), api.OK)
	p.kids(host, l[1], l[2], l[3], l[4])
	p.wants(p.remove(l[2]), api.OK)
	p.kids(host, l[1], l[3], l[4])
	p.wants(p.remove(l[4]), api.OK)
	p.kids(host, l[1], l[3])
	p.wants(p.remove(l[2]), api.ErrTree)
	p.insert(host, l[0], -1)
	p.kids(host, l[1], l[3], l[0])
	for _, i := range []int{l[1], l[3], l[0]} {
		p.wants(p.remove(i), api.OK)
	}
	p.kids(host)
	// What is in a node goes with it; it keeps its shadow root.
	p.insert(host, l[0], -1)
	p.insert(root, l[1], -1)
	p.insert(0, host, -1)
	p.wants(p.remove(host), api.OK)
	p.kids(host, l[0])
	p.kids(root, l[1])
}

// A document may be deeper than what is read: nothing here asks how deep it is.
func TestVeryDeepAndVeryWide(t *testing.T) {
	d := dom.New(5000)
	for i := 1; i < 5000; i++ {
		d.Make(api.Node{Kind: api.Element, Name: "b"})
		if err := d.Insert(i-1, i, -1); err != api.OK {
			t.Fatalf("%d: %d", i, err)
		}
	}
	if d.Insert(4999, 1, -1) != api.ErrTree || d.Insert(4999, 2500, -1) != api.ErrTree {
		t.Error("within itself")
	}
	for i := 1; i < 5000; i++ {
		if err := d.Insert(0, i, -1); err != api.OK {
			t.Fatalf("%d: %d", i, err)
		}
	}
	n, _ := d.Node(0)
	for k, i := range n.Kids {
		if i != k+1 {
			t.Fatalf("%d at %d", i, k)
		}
	}
	if len(n.Kids) != 4999 {
		t.Errorf("%d Kids", len(n.Kids))
	}
}

// everything makes a document that has a node of each kind, some of them in one another.
func everything(t *testing.T) *pair {
	p := newPair(t, 40)
	div, br, template, slot := p.element("div"), p.element("br"), p.element("template"), p.element("slot")
	text, f, b := p.text("x"), p.fragment(), p.element("b")
	note, _ := p.make(api.Node{Kind: api.Comment})
	p.make(api.Node{Kind: api.Doctype, Name: "html"})
	root := p.shadow(div)
	p.insert(0, div, -1)
	p.insert(0, br, -1)
	p.insert(root, slot, -1)
	p.insert(div, text, -1)
	p.insert(template+1, b, -1)
	p.insert(f, note, -1)
	p.insert(f, p.text("y"), -1)
	p.give(slot, text)
	return p
}

func TestEachInsert(t *testing.T) {
	for _, move := range [][3]int{{0, 0, 0}, {0, 3, 2}, {1, 7, -1}, {10, 3, -1}, {4, 1, -1}, {7, 2, -1}} {
		p := everything(t)
		p.insert(move[0], move[1], move[2])
		n := p.d.Len()
		for up := -2; up <= n; up++ {
			for i := -2; i <= n; i++ {
				for before := -2; before <= n; before++ {
					p.copied().insert(up, i, before)
				}
			}
		}
		p.hold("behind all that was done to copies")
	}
}

func TestEachCallOnEachNode(t *testing.T) {
	p := everything(t)
	n := p.d.Len()
	for i := -2; i <= n; i++ {
		p.copied().remove(i)
		p.copied().root(i, api.Flags{Manual: true})
		p.copied().set(i, "name", "value")
		p.copied().set(i, "Name", "value")
		p.copied().drop(i, "name")
		p.copied().write(i, "data")
		p.copied().give(i)
		for j := -2; j <= n; j++ {
			p.copied().give(i, j)
			p.copied().give(i, j, 1, j, 5)
		}
	}
}

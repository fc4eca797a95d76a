package flat_test

import (
	"math"
	"slices"
	"testing"

	"portiere/api"
	"portiere/dom"
	"portiere/flat"
)

func manual() api.Flags { return api.Flags{Manual: true} }

func TestExample(t *testing.T) {
	s := newScene(t, 20)
	host, text, slot := s.element("div"), s.text(), s.element("slot")
	root := s.shadow(host, api.Flags{})
	s.put(host, text)
	s.put(root, slot)
	s.kids(host, slot)
	s.kids(slot, text)
	s.kids(text)
	s.up(host, slot)
	s.up(slot, text)
	s.up(-1, host, root)
	s.walk(host, host, slot, text)
	s.hold()
}

// Where there is no shadow root all is as it stands.
func TestPlainNodes(t *testing.T) {
	s := newScene(t, 40)
	div, p, text, note, void := s.element("div"), s.element("p"), s.text(), s.comment(), s.element("br")
	doctype := s.node(api.Node{Kind: api.Doctype, Name: "html"})
	loose, fragment, inside := s.element("b"), s.fragment(), s.text()
	s.put(0, doctype, div)
	s.put(div, void, p, note)
	s.put(p, text)
	s.put(fragment, inside)
	s.kids(0, doctype, div)
	s.kids(div, void, p, note)
	s.kids(fragment, inside)
	for _, i := range []int{text, note, void, doctype, loose, inside} {
		s.kids(i)
		s.walk(i, i)
	}
	s.up(0, doctype, div)
	s.up(div, void, p, note)
	s.up(p, text)
	s.up(fragment, inside)
	s.up(-1, 0, loose, fragment)
	s.walk(0, 0, doctype, div, void, p, text, note)
	s.walk(p, p, text)
	s.walk(fragment, fragment, inside)
	s.hold()
}

// What is in a template's content is not shown in it, but is a tree of its own.
func TestContents(t *testing.T) {
	s := newScene(t, 40)
	template, own, text, slot := s.element("template"), s.text(), s.text(), s.element("slot")
	content := template + 1
	s.put(0, template)
	s.put(template, own)
	s.put(content, slot)
	s.put(slot, text)
	s.kids(template, own)
	s.kids(content, slot)
	s.up(template, own)
	s.up(content, slot)
	s.up(-1, content)
	s.walk(0, 0, template, own)
	s.walk(content, content, slot, text)
	s.hold()
	// A slot in the content of a template is in no shadow root, wherever the template is.
	host, shown := s.element("div"), s.text()
	s.put(s.shadow(host, api.Flags{}), template)
	s.put(host, shown)
	s.kids(slot, text)
	s.up(slot, text)
	s.up(-1, shown)
	s.walk(host, host, template, own)
	s.hold()
}

// What is in a host is not shown in it; without a slot it is shown nowhere.
func TestHostWithoutSlots(t *testing.T) {
	s := newScene(t, 40)
	host, text, note, bold, inner := s.element("div"), s.text(), s.comment(), s.element("b"), s.text()
	s.put(0, host)
	s.put(host, text, note, bold)
	s.put(bold, inner)
	s.walk(0, 0, host, text, note, bold, inner)
	root := s.shadow(host, api.Flags{Closed: true})
	s.kids(host)
	s.walk(0, 0, host)
	s.up(-1, text, note, bold, root)
	s.up(bold, inner)
	s.kids(bold, inner)
	s.walk(bold, bold, inner)
	own, remark := s.element("i"), s.comment()
	s.put(root, own, remark)
	s.kids(host, own, remark)
	s.kids(root, own, remark)
	s.up(host, own, remark)
	s.walk(0, 0, host, own, remark)
	s.walk(root, root, own, remark)
	s.hold()
}

func TestNames(t *testing.T) {
	s := newScene(t, 40)
	host := s.element("x-a")
	root := s.shadow(host, api.Flags{})
	named, bare, again, div := s.slotNamed("a"), s.element("slot"), s.slotNamed("a"), s.element("div")
	s.put(root, div, again)
	s.put(div, bare, named)
	text, a, b, second, note := s.text(), s.asking("a"), s.asking("b"), s.asking("a"), s.comment()
	s.put(host, a, text, note, b, second)
	s.kids(named, a, second)
	s.kids(bare, text)
	s.kids(again)
	s.up(named, a, second)
	s.up(bare, text)
	s.up(-1, b, note)
	s.walk(host, host, div, bare, text, named, a, second, again)
	s.hold()
	// The first of a name is the first in order: what it showed is shown in the other one.
	s.wants(s.Insert(root, again, div))
	s.kids(again, a, second)
	s.kids(named)
	s.up(again, a, second)
	s.walk(host, host, again, a, second, div, bare, text, named)
	s.hold()
	s.wants(s.Set(again, "name", "b"))
	s.kids(again, b)
	s.kids(named, a, second)
	s.hold()
}

// A slot shows all that is in it, comments too, just if nothing of the host is shown in it.
func TestFallback(t *testing.T) {
	s := newScene(t, 40)
	host := s.element("div")
	root := s.shadow(host, api.Flags{})
	slot, own, note, bold, inner := s.element("slot"), s.text(), s.comment(), s.element("b"), s.text()
	s.put(root, slot)
	s.put(slot, note, own, bold)
	s.put(bold, inner)
	s.kids(slot, note, own, bold)
	s.up(slot, note, own, bold)
	s.walk(host, host, slot, note, own, bold, inner)
	s.hold()
	text := s.text()
	s.put(host, text, s.comment())
	s.kids(slot, text)
	s.up(slot, text)
	s.up(-1, note, own, bold)
	s.up(bold, inner)
	s.walk(host, host, slot, text)
	s.walk(bold, bold, inner)
	s.hold()
	s.wants(s.Remove(text))
	s.kids(slot, note, own, bold)
	s.up(slot, note, own, bold)
	s.up(-1, text)
	s.hold()
}

// Slots in slots: what is in a slot that shows something else is not shown, the slots in it neither; yet they show what asks for them.
func TestSlotsInSlots(t *testing.T) {
	for _, f := range []api.Flags{{}, manual()} {
		s := newScene(t, 40)
		host := s.element("div")
		root := s.shadow(host, f)
		outer, inner, own, a, b := s.slotNamed("a"), s.slotNamed("b"), s.text(), s.asking("a"), s.asking("b")
		s.put(root, outer)
		s.put(outer, inner)
		s.put(inner, own)
		s.put(host, b)
		s.give(inner, b)
		s.walk(host, host, outer, inner, b)
		s.up(-1, own)
		s.hold()
		s.put(host, a)
		s.give(outer, a)
		s.walk(host, host, outer, a)
		s.walk(inner, inner, b)
		s.up(-1, inner, own)
		s.up(inner, b)
		s.hold()
	}
}

// An element `slot` that is in no shadow root is like any other one.
func TestSlotsThatAreNone(t *testing.T) {
	s := newScene(t, 40)
	host := s.element("div")
	root, text := s.shadow(host, api.Flags{}), s.text()
	s.put(host, text)
	slot, own := s.element("slot"), s.text()
	s.put(slot, own)
	s.give(slot, text)
	for _, up := range []int{0, s.fragment(), s.element("div")} {
		s.put(up, slot)
		s.kids(slot, own)
		s.up(slot, own)
		s.up(up, slot)
		s.up(-1, text)
		s.hold()
	}
	// In a host it is a node that is shown.
	s.put(host, slot)
	first := s.element("slot")
	s.put(root, first)
	s.walk(host, host, first, text, slot, own)
	s.up(first, slot)
	s.hold()
	// Others that are nearly so are none, in a shadow root neither.
	for _, name := range []string{"slots", "x-slot", "slo"} {
		near := s.element(name)
		s.wants(s.Insert(root, near, first))
		s.kids(first, text, slot)
		s.kids(near)
		s.hold()
	}
}

func TestManual(t *testing.T) {
	s := newScene(t, 40)
	host := s.element("div")
	root := s.shadow(host, manual())
	one, two, own := s.element("slot"), s.element("slot"), s.text()
	s.put(root, one, two)
	s.put(one, own)
	a, b, c := s.text(), s.element("b"), s.text()
	s.put(host, a, b, c)
	s.walk(host, host, one, own, two)
	s.up(-1, a, b, c)
	s.give(one, c, a)
	s.give(two, b)
	s.walk(host, host, one, c, a, two, b)
	s.up(one, a, c)
	s.up(two, b)
	s.up(-1, own)
	s.hold()
	s.give(two, a, b)
	s.walk(host, host, one, c, two, a, b)
	s.hold()
	// What is given stays given, but is shown just while it is in the host.
	s.wants(s.Remove(c))
	s.up(-1, c)
	s.up(one, own)
	s.walk(host, host, one, own, two, a, b)
	s.hold()
	s.put(root, c)
	s.up(host, c)
	s.walk(host, host, one, own, two, a, b, c)
	s.hold()
	// So it is while the slot is in the host's shadow root.
	other := s.element("div")
	s.put(s.shadow(other, manual()), two)
	s.up(-1, a, b)
	s.kids(two)
	s.put(other, b)
	s.up(two, b)
	s.kids(two, b)
	s.hold()
}

// A slot that has a shadow root shows that: what is shown in it as in a slot has it above it, but is not seen there.
func TestSlotsThatAreHosts(t *testing.T) {
	for _, f := range []api.Flags{{}, manual()} {
		s := newScene(t, 40)
		host := s.element("div")
		root, slot, text := s.shadow(host, f), s.element("slot"), s.text()
		s.put(root, slot)
		s.put(host, text)
		s.give(slot, text)
		own := s.element("i")
		s.put(slot, own)
		s.walk(host, host, slot, text)
		s.up(-1, own)
		within := s.shadow(slot, api.Flags{})
		s.kids(slot)
		s.up(slot, text)
		s.up(-1, own)
		s.walk(host, host, slot)
		inner, beside := s.element("slot"), s.text()
		s.put(within, beside, inner)
		s.kids(slot, beside, inner)
		s.up(slot, beside, inner, text)
		s.up(inner, own)
		s.walk(host, host, slot, beside, inner, own)
		s.hold()
		s.wants(s.Remove(text))
		s.walk(host, host, slot, beside, inner, own)
		s.up(inner, own)
		s.hold()
	}
}

// Layer 8 gives any element a shadow root, as a template.
func TestOtherHosts(t *testing.T) {
	s := newScene(t, 40)
	for _, name := range []string{"template", "br", "a", "input"} {
		host, text := s.element(name), s.text()
		root := s.shadow(host, api.Flags{})
		s.put(0, host)
		s.put(root, text)
		s.kids(host, text)
		s.up(host, text)
		s.walk(host, host, text)
	}
	s.hold()
}

// A slot that is put into an inner host is shown in the inner slot, with what it shows of the outer one.
func TestShadowRootsInShadowRoots(t *testing.T) {
	s := newScene(t, 60)
	outer, inner := s.element("div"), s.element("x-a")
	outerRoot, innerRoot := s.shadow(outer, api.Flags{}), s.shadow(inner, api.Flags{})
	s.put(0, outer)
	s.put(outerRoot, inner)
	deep, text, between, own := s.element("slot"), s.text(), s.element("slot"), s.text()
	s.put(innerRoot, deep)
	s.put(outer, text)
	s.walk(0, 0, outer, inner, deep)
	s.up(-1, text)
	s.put(inner, between)
	s.put(between, own)
	s.walk(0, 0, outer, inner, deep, between, text)
	s.up(deep, between)
	s.up(between, text)
	s.up(-1, own)
	s.hold()
	s.wants(s.Remove(text))
	s.walk(0, 0, outer, inner, deep, between, own)
	s.up(between, own)
	s.hold()
	// What is shown may be a host itself.
	third := s.element("div")
	last, note := s.element("slot"), s.asking("")
	s.put(s.shadow(third, manual()), last)
	s.put(third, note)
	s.give(last, note)
	s.put(outer, third)
	s.walk(0, 0, outer, inner, deep, between, third, last, note)
	s.up(between, third)
	s.up(third, last)
	s.up(last, note)
	s.hold()
}

// Nodes that are in nothing, or in a template's content, show all the same.
func TestHostsAnywhere(t *testing.T) {
	s := newScene(t, 40)
	host, text := s.element("div"), s.text()
	root, slot := s.shadow(host, api.Flags{}), s.element("slot")
	s.put(root, slot)
	s.put(host, text)
	template := s.element("template")
	for _, up := range []int{0, template, template + 1, s.fragment()} {
		s.put(up, host)
		s.up(up, host)
		s.up(slot, text)
		s.walk(up, up, host, slot, text)
		s.hold()
	}
}

// A shadow root has what is in it, and is in nothing; above what is in it is its host.
func TestShadows(t *testing.T) {
	s := newScene(t, 40)
	host, text := s.element("div"), s.text()
	root, slot, note := s.shadow(host, api.Flags{Closed: true}), s.element("slot"), s.comment()
	s.put(host, text)
	s.put(root, note, slot)
	s.kids(root, note, slot)
	s.walk(root, root, note, slot, text)
	s.up(-1, root)
	s.up(host, note, slot)
	s.hold()
}

func TestNumbersThatAreNone(t *testing.T) {
	s := newScene(t, 20)
	// Node 0 holds nodes, node 1 has a shadow root: numbers that are none must not stand for them.
	host, text := s.element("div"), s.text()
	root, slot := s.shadow(host, manual()), s.element("slot")
	s.put(root, slot)
	s.put(host, text)
	s.put(0, host)
	s.give(slot, text)
	n := s.Len()
	for _, i := range []int{math.MinInt, math.MinInt32, -1 << 32, slot - 1<<32, -2, -1, n, n + 1, 5000, math.MaxInt32, 1 << 32, 1<<32 + slot, 1<<32 + text, math.MaxInt} {
		s.kids(i)
		s.up(-1, i)
		s.walk(i)
	}
	s.hold()
}

func TestOneNode(t *testing.T) {
	s := newScene(t, 1)
	s.kids(0)
	s.up(-1, 0)
	s.walk(0, 0)
	s.hold()
}

func TestAnswersAreNewMemory(t *testing.T) {
	for _, f := range []api.Flags{{}, manual()} {
		s := newScene(t, 20)
		host := s.element("div")
		root, slot, spare := s.shadow(host, f), s.element("slot"), s.slotNamed("x")
		s.put(0, host)
		s.put(root, slot, spare)
		s.put(spare, s.text(), s.text())
		a, b, c := s.text(), s.text(), s.text()
		s.put(host, a, b, c)
		s.give(slot, a, b, c)
		for _, ask := range []func(*dom.Doc, int) []int{flat.Kids, flat.Walk} {
			for i := range s.Len() {
				first, second := ask(s.Doc, i), ask(s.Doc, i)
				want := slices.Clone(first)
				first = first[:cap(first)]
				for k := range first {
					first[k] = -7
				}
				if third := ask(s.Doc, i); !slices.Equal(second, want) || !slices.Equal(third, want) {
					t.Fatalf("%d: %v, %v, not %v", i, second, third, want)
				}
			}
		}
		s.hold()
	}
}

func TestDocumentsAreApart(t *testing.T) {
	s := newScene(t, 20)
	host, text := s.element("div"), s.text()
	root, slot := s.shadow(host, api.Flags{}), s.element("slot")
	s.put(host, text)
	s.put(root, slot)
	other := scene{s.Copy(), t}
	other.walk(host, host, slot, text)
	other.wants(other.Set(slot, "name", "x"))
	other.walk(host, host, slot)
	other.up(-1, text)
	s.walk(host, host, slot, text)
	s.up(slot, text)
	s.wants(s.Remove(slot))
	s.walk(host, host)
	other.up(host, slot)
	s.hold()
	other.hold()
}

package slots_test

import (
	"math"
	"slices"
	"testing"

	"portiere/api"
	"portiere/dom"
	"portiere/slots"
)

func manual() api.Flags { return api.Flags{Manual: true} }

func TestExample(t *testing.T) {
	s := newScene(t, 20)
	host, text, one, two := s.element("div"), s.text(), s.element("slot"), s.element("slot")
	root := s.shadow(host, api.Flags{})
	s.put(host, text)
	s.put(root, one, two)
	s.found(text, one)
	s.assigned(one, text)
	s.assigned(two)
	s.flat(one, text)
	s.flat(two)
	s.slotsIn(root, one, two)
	s.hold()
}

func TestNames(t *testing.T) {
	s := newScene(t, 40)
	host := s.element("x-a")
	root := s.shadow(host, api.Flags{Closed: true})
	named, bare, again := s.slotNamed("a"), s.element("slot"), s.slotNamed("a")
	other := s.slotNamed("b")
	s.put(root, named, bare, again, other)
	text, a, b, second, c := s.text(), s.asking("a"), s.asking("b"), s.asking("a"), s.asking("c")
	plain := s.element("b")
	s.put(host, text, a, b, second, c, plain)
	s.assigned(named, a, second)
	s.assigned(bare, text, plain)
	s.assigned(again)
	s.assigned(other, b)
	s.found(c, -1)
	s.found(second, named)
	s.hold()
}

// Names are held to one another byte by byte, and one that is not there is an empty one.
func TestNamesThatAreNearlyTheSame(t *testing.T) {
	cases := []struct{ name, asks string }{
		{"a", "A"}, {"a", "a "}, {" a", "a"}, {"", " "}, {" ", ""}, {"a", "ab"}, {"ab", "a"}, {"a b", "a"}, {"ä", "a\u0308"}, {"a", ""}, {"", "a"}, {"\x00", ""},
	}
	for _, c := range cases {
		s := newScene(t, 20)
		host := s.element("div")
		root := s.shadow(host, api.Flags{})
		slot, i := s.slotNamed(c.name), s.asking(c.asks)
		s.put(root, slot)
		s.put(host, i)
		s.found(i, -1)
		s.assigned(slot)
		s.wants(s.Set(i, "slot", c.name))
		s.found(i, slot)
		s.assigned(slot, i)
		s.hold()
	}
}

func TestEmptyNames(t *testing.T) {
	for _, name := range []bool{false, true} {
		s := newScene(t, 20)
		host := s.element("div")
		root := s.shadow(host, api.Flags{})
		slot, later := s.element("slot"), s.slotNamed("")
		if name {
			slot, later = later, slot
		}
		s.put(root, slot, later)
		text, without, with := s.text(), s.element("b"), s.asking("")
		s.put(host, text, without, with)
		s.assigned(slot, text, without, with)
		s.assigned(later)
		s.hold()
	}
}

// Each has its own attribute: a slot is asked for by its name, others ask by their slot.
func TestOtherAttributes(t *testing.T) {
	s := newScene(t, 20)
	host := s.element("div")
	root := s.shadow(host, api.Flags{})
	slot := s.element("slot", api.Attr{Name: "id", Value: "b"}, api.Attr{Name: "slot", Value: "b"}, api.Attr{Name: "name", Value: "a"})
	s.put(root, slot)
	wrong := s.element("b", api.Attr{Name: "name", Value: "a"}, api.Attr{Name: "slot", Value: "b"})
	right := s.element("b", api.Attr{Name: "name", Value: "b"}, api.Attr{Name: "slot", Value: "a"})
	s.put(host, wrong, right)
	s.found(wrong, -1)
	s.found(right, slot)
	s.assigned(slot, right)
	// What a host itself asks for says nothing of what is in it.
	s.wants(s.Set(host, "slot", "b"))
	s.found(right, slot)
	s.hold()
}

// The first is the first in the tree, whatever their numbers, and however deep.
func TestFirstInOrder(t *testing.T) {
	s := newScene(t, 40)
	host, text := s.element("div"), s.text()
	s.put(host, text)
	root := s.shadow(host, api.Flags{})
	last, middle, first, div, inner := s.element("slot"), s.element("slot"), s.element("slot"), s.element("div"), s.element("i")
	s.put(root, last)
	s.wants(s.Insert(root, middle, last))
	s.wants(s.Insert(root, div, middle))
	s.put(div, inner)
	s.put(inner, first)
	s.slotsIn(root, first, middle, last)
	s.found(text, first)
	s.wants(s.Remove(first))
	s.found(text, middle)
	s.assigned(first)
	s.hold()
	s.put(middle, last)
	s.found(text, middle)
	s.put(root, middle)
	s.put(last, first)
	s.slotsIn(root, middle, last, first)
	s.assigned(middle, text)
	s.wants(s.Set(middle, "name", "x"))
	s.assigned(middle)
	s.assigned(last, text)
	s.wants(s.Drop(middle, "name"))
	s.assigned(middle, text)
	s.hold()
}

// Just elements and texts are shown, just from the host itself.
func TestWhatIsShown(t *testing.T) {
	s := newScene(t, 60)
	host := s.element("div")
	root := s.shadow(host, api.Flags{})
	slot := s.element("slot")
	s.put(root, slot)
	empty := s.node(api.Node{Kind: api.Text})
	br, template, light := s.element("br"), s.element("template"), s.element("slot")
	b, deep, note := s.element("b"), s.text(), s.comment()
	doctype := s.node(api.Node{Kind: api.Doctype, Name: "html"})
	content := s.text()
	s.put(host, note, br, empty, doctype, template, light, b)
	s.put(b, deep)
	s.put(template+1, content)
	s.assigned(slot, br, empty, template, light, b)
	s.flat(slot, br, empty, template, light, b)
	for _, i := range []int{0, host, root, slot, note, doctype, deep, content, template + 1} {
		s.found(i, -1)
	}
	// What is in the shadow root itself is not shown in its slots.
	beside := s.text()
	s.put(root, beside)
	s.found(beside, -1)
	s.assigned(slot, br, empty, template, light, b)
	s.hold()
}

func TestWhatIsNoSlot(t *testing.T) {
	s := newScene(t, 60)
	host, text := s.element("div"), s.text()
	s.put(0, host)
	s.put(host, text)
	root := s.shadow(host, api.Flags{})
	loose, slotted, light := s.element("slot"), s.element("slots"), s.element("slot")
	inTemplate, template := s.element("slot"), s.element("template")
	doctype := s.node(api.Node{Kind: api.Doctype, Name: "slot"})
	s.put(root, slotted, template, doctype)
	s.put(template+1, inTemplate)
	s.put(0, light)
	for _, i := range []int{loose, light, inTemplate} {
		s.put(i, s.text())
	}
	for i := range s.Len() {
		s.assigned(i)
		s.flat(i)
	}
	s.found(text, -1)
	s.slotsIn(root)
	// A template's own Kids are in the tree, its content is not.
	s.put(template, inTemplate)
	s.slotsIn(root, inTemplate)
	s.found(text, inTemplate)
	s.assigned(inTemplate, text)
	s.hold()
}

// Slots in another shadow root have nothing to do with this one's.
func TestShadowRootsInShadowRoots(t *testing.T) {
	s := newScene(t, 60)
	outer, inner := s.element("div"), s.element("x-a")
	outerRoot, innerRoot := s.shadow(outer, api.Flags{}), s.shadow(inner, api.Flags{})
	s.put(outerRoot, inner)
	deep := s.element("slot")
	s.put(innerRoot, deep)
	text := s.text()
	s.put(outer, text)
	s.found(text, -1)
	s.assigned(deep)
	s.slotsIn(outerRoot)
	s.slotsIn(innerRoot, deep)
	// A slot that is put into the inner host shows the text, and is shown in the inner slot.
	between := s.element("slot")
	s.put(inner, between)
	s.found(text, between)
	s.found(between, deep)
	s.assigned(between, text)
	s.assigned(deep, between)
	s.flat(deep, text)
	s.flat(between, text)
	s.slotsIn(outerRoot, between)
	s.hold()
}

// Slots asks no more than that they are elements `slot` in that tree.
func TestSlotsOfAnyNode(t *testing.T) {
	s := newScene(t, 40)
	a, b, c, div, text := s.element("slot"), s.slotNamed("x"), s.element("slot"), s.element("div"), s.text()
	s.put(0, div, c)
	s.put(div, a, text)
	s.put(a, b)
	host := s.element("template")
	root, inside := s.shadow(host, manual()), s.element("slot")
	s.put(root, inside)
	s.put(div, host)
	s.slotsIn(0, a, b, c)
	s.slotsIn(div, a, b)
	s.slotsIn(a, a, b)
	s.slotsIn(b, b)
	s.slotsIn(text)
	s.slotsIn(host)
	s.slotsIn(host + 1)
	s.slotsIn(root, inside)
	s.slotsIn(inside, inside)
	s.hold()
}

func TestManual(t *testing.T) {
	s := newScene(t, 40)
	host := s.element("div")
	root := s.shadow(host, manual())
	one, two := s.element("slot"), s.slotNamed("a")
	s.put(root, one, two)
	text, a, b := s.text(), s.asking("a"), s.element("b")
	s.put(host, text, a, b)
	for _, i := range []int{text, a, b} {
		s.found(i, -1)
	}
	s.assigned(one)
	s.assigned(two)
	s.give(one, b, a)
	s.give(two, text)
	s.assigned(one, b, a)
	s.assigned(two, text)
	s.found(a, one)
	s.found(text, two)
	s.hold()
	s.give(two, a, text)
	s.assigned(one, b)
	s.assigned(two, a, text)
	s.give(one)
	s.assigned(one)
	s.found(b, -1)
	s.hold()
}

// What is given stays given, but is shown just while it is in the host, and the slot in the host's shadow root.
func TestGivenElsewhere(t *testing.T) {
	s := newScene(t, 40)
	host, other := s.element("div"), s.element("div")
	root, otherRoot := s.shadow(host, manual()), s.shadow(other, manual())
	slot := s.element("slot")
	s.put(root, slot)
	a, b, loose, deep, beside := s.text(), s.text(), s.text(), s.text(), s.text()
	bold := s.element("b")
	s.put(host, a, b, bold)
	s.put(bold, deep)
	s.put(root, beside)
	s.give(slot, loose, b, deep, host, beside, slot, a)
	s.assigned(slot, b, a)
	s.flat(slot, b, a)
	for _, i := range []int{loose, deep, host, beside, slot} {
		s.found(i, -1)
	}
	s.hold()
	s.put(host, loose)
	s.assigned(slot, loose, b, a)
	s.found(loose, slot)
	s.wants(s.Remove(b))
	s.assigned(slot, loose, a)
	s.found(b, -1)
	s.hold()
	s.put(otherRoot, slot)
	s.assigned(slot)
	s.found(a, -1)
	s.put(other, b)
	s.assigned(slot, b)
	s.found(b, slot)
	s.hold()
	s.wants(s.Remove(slot))
	s.assigned(slot)
	s.found(b, -1)
	s.put(bold, slot)
	s.found(a, -1)
	s.hold()
}

// By name nothing is said by what is given, by hand nothing by names.
func TestGivenWhereNamesCount(t *testing.T) {
	s := newScene(t, 40)
	host := s.element("div")
	root := s.shadow(host, api.Flags{Closed: true, Delegates: true, Serializable: true, Clonable: true})
	one, two := s.element("slot"), s.element("slot")
	s.put(root, one, two)
	a, b := s.text(), s.text()
	s.put(host, a, b)
	s.give(two, b, a)
	s.assigned(one, a, b)
	s.assigned(two)
	s.found(b, one)
	s.hold()
	// A slot of a shadow root by hand is given what is in a host by name.
	hand := s.element("div")
	handRoot, slot := s.shadow(hand, manual()), s.element("slot")
	s.put(handRoot, slot)
	s.give(slot, a, b)
	s.assigned(slot)
	s.found(a, one)
	s.put(hand, a)
	s.assigned(slot, a)
	s.found(a, slot)
	s.hold()
}

func TestFallback(t *testing.T) {
	s := newScene(t, 40)
	host := s.element("div")
	root := s.shadow(host, api.Flags{})
	slot, own, bold, note := s.element("slot"), s.text(), s.element("b"), s.comment()
	s.put(root, slot)
	s.put(slot, note, own, bold)
	s.put(bold, s.text())
	s.assigned(slot)
	s.flat(slot, own, bold)
	s.found(own, -1)
	text := s.text()
	s.put(host, s.comment())
	s.flat(slot, own, bold)
	s.put(host, text)
	s.assigned(slot, text)
	s.flat(slot, text)
	s.hold()
}

// Among a slot's own Kids slots are written out, too, with what they show.
func TestSlotsInSlots(t *testing.T) {
	for _, f := range []api.Flags{{}, manual()} {
		s := newScene(t, 40)
		host := s.element("div")
		root := s.shadow(host, f)
		slot, a, b, c := s.slotNamed("x"), s.slotNamed("a"), s.slotNamed("b"), s.slotNamed("a")
		head, own, tail := s.text(), s.text(), s.text()
		s.put(root, slot)
		s.put(slot, head, a, b, c, tail)
		s.put(b, own)
		s.flat(slot, head, own, tail)
		one, two := s.asking("a"), s.asking("a")
		s.put(host, one, two)
		s.give(a, one, two)
		s.flat(slot, head, one, two, own, tail)
		s.assigned(slot)
		x := s.asking("x")
		s.put(host, x)
		s.give(slot, x)
		s.flat(slot, x)
		s.flat(a, one, two)
		s.hold()
	}
}

// What is shown is taken through three hosts, past slots that show nothing, and one of its own.
func TestFlatThroughHosts(t *testing.T) {
	s := newScene(t, 60)
	x, y, z := s.element("div"), s.element("div"), s.element("div")
	xRoot, yRoot, zRoot := s.shadow(x, api.Flags{}), s.shadow(y, manual()), s.shadow(z, api.Flags{})
	s.put(xRoot, y)
	s.put(yRoot, z)
	a, b, light := s.text(), s.asking("b"), s.element("slot")
	s.put(x, a, light, b)
	s.put(light, s.text())
	slotA, slotB, none, own := s.element("slot"), s.slotNamed("b"), s.slotNamed("c"), s.text()
	s.put(y, slotA, none, slotB)
	s.put(none, own)
	hand, between := s.element("slot"), s.text()
	s.put(z, between, hand)
	s.give(hand, slotB, none, slotA)
	last := s.element("slot")
	s.put(zRoot, last)
	s.assigned(last, between, hand)
	s.assigned(hand, slotB, none, slotA)
	s.assigned(slotA, a, light)
	s.assigned(none)
	s.flat(hand, b, own, a, light)
	s.flat(last, between, b, own, a, light)
	s.hold()
	// In a shadow root that slot is one, too.
	far := s.element("div")
	s.put(s.shadow(far, api.Flags{}), x)
	in, _ := s.Node(light)
	s.flat(last, between, b, own, a, in.Kids[0])
	s.hold()
}

// An element `slot` may have a shadow root of its own: it is a slot, and a host.
func TestSlotsThatAreHosts(t *testing.T) {
	s := newScene(t, 40)
	host := s.element("div")
	root, slot := s.shadow(host, api.Flags{}), s.element("slot")
	s.put(root, slot)
	within, inner, own := s.shadow(slot, api.Flags{}), s.element("slot"), s.text()
	s.put(within, inner)
	s.put(slot, own)
	s.found(own, inner)
	s.assigned(inner, own)
	s.assigned(slot)
	s.flat(slot, own)
	s.flat(inner, own)
	text := s.text()
	s.put(host, text)
	s.flat(slot, text)
	s.flat(inner, own)
	// So may any element that layer 8 gives one, as a template.
	template := s.element("template")
	other, last := s.shadow(template, api.Flags{}), s.element("slot")
	s.put(other, last)
	s.put(template, text)
	s.put(template+1, own)
	s.assigned(last, text)
	s.found(own, -1)
	s.hold()
}

// Nodes that are in nothing, or in a template's content, are shown all the same.
func TestHostsAnywhere(t *testing.T) {
	s := newScene(t, 40)
	host, text := s.element("div"), s.text()
	root, slot := s.shadow(host, api.Flags{}), s.element("slot")
	s.put(root, slot)
	s.put(host, text)
	template := s.element("template")
	fragment := s.node(api.Node{Kind: api.Fragment})
	for _, up := range []int{0, template, template + 1, fragment} {
		s.put(up, host)
		s.found(text, slot)
		s.assigned(slot, text)
		s.flat(slot, text)
		s.hold()
	}
}

func TestNumbersThatAreNone(t *testing.T) {
	s := newScene(t, 20)
	// Node 0 holds a host, a slot and what would be shown: numbers that are none must not stand for it.
	host, text := s.element("div"), s.text()
	root, slot := s.shadow(host, manual()), s.element("slot")
	s.put(root, slot)
	s.put(host, text)
	s.put(0, host)
	s.give(slot, text)
	n := s.Len()
	for _, i := range []int{math.MinInt, math.MinInt32, -1 << 32, slot - 1<<32, -2, -1, n, n + 1, 5000, math.MaxInt32, 1 << 32, 1<<32 + slot, 1<<32 + text, math.MaxInt} {
		s.found(i, -1)
		s.assigned(i)
		s.flat(i)
		s.slotsIn(i)
	}
	s.hold()
}

func TestOneNode(t *testing.T) {
	s := newScene(t, 1)
	s.found(0, -1)
	s.assigned(0)
	s.flat(0)
	s.slotsIn(0)
	s.hold()
}

func TestAnswersAreNewMemory(t *testing.T) {
	for _, f := range []api.Flags{{}, manual()} {
		s := newScene(t, 20)
		host := s.element("div")
		root, slot, spare := s.shadow(host, f), s.element("slot"), s.slotNamed("x")
		s.put(root, slot, spare)
		s.put(spare, s.text(), s.text())
		a, b, c := s.text(), s.text(), s.text()
		s.put(host, a, b, c)
		s.give(slot, a, b, c)
		for _, ask := range []func(*dom.Doc, int) []int{slots.Assigned, slots.Flat, slots.Slots} {
			for i := range s.Len() {
				first, second := ask(s.Doc, i), ask(s.Doc, i)
				want := slices.Clone(first)
				first = first[:cap(first)]
				for k := range first {
					first[k] = -7
				}
				if third := ask(s.Doc, i); !slices.Equal(second, want) || !slices.Equal(third, want) {
					t.Fatalf("%d: %v, %v, not %v", i, second, third, want)
				}
			}
		}
		s.hold()
	}
}

func TestDocumentsAreApart(t *testing.T) {
	s := newScene(t, 20)
	host, text := s.element("div"), s.text()
	root, slot := s.shadow(host, api.Flags{}), s.element("slot")
	s.put(host, text)
	s.put(root, slot)
	other := scene{s.Copy(), t}
	other.assigned(slot, text)
	other.wants(other.Set(slot, "name", "x"))
	other.assigned(slot)
	s.assigned(slot, text)
	s.wants(s.Remove(text))
	s.assigned(slot)
	other.wants(other.Drop(slot, "name"))
	other.assigned(slot, text)
	s.hold()
	other.hold()
}

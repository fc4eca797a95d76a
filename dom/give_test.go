package dom_test

import (
	"slices"
	"testing"

	"portiere/api"
)

func (p *pair) given(slot int, want ...int) {
	p.t.Helper()
	if got := p.d.Given(slot); !slices.Equal(got, want) {
		p.t.Fatalf("given to %d are %v, not %v", slot, got, want)
	}
	for _, i := range want {
		if p.d.Slot(i) != slot {
			p.t.Fatalf("slot of %d is %d, not %d", i, p.d.Slot(i), slot)
		}
	}
}

func TestGive(t *testing.T) {
	p := newPair(t, 30)
	s, r := p.element("slot"), p.element("slot")
	a, b, c := p.element("a"), p.text("b"), p.text("")
	p.given(s)
	if p.d.Slot(a) != -1 {
		t.Errorf("slot of %d is %d", a, p.d.Slot(a))
	}
	p.wants(p.give(s, b, a), api.OK)
	p.given(s, b, a)
	p.given(r)
	// What was given is given to none, unless it comes again.
	p.wants(p.give(s, c, a), api.OK)
	p.given(s, c, a)
	if p.d.Slot(b) != -1 {
		t.Errorf("slot of %d is %d", b, p.d.Slot(b))
	}
	// One that comes again stands where it came first.
	p.wants(p.give(s, a, b, a, c, b, a), api.OK)
	p.given(s, a, b, c)
	// It is taken from another slot.
	p.wants(p.give(r, b), api.OK)
	p.given(r, b)
	p.given(s, a, c)
	p.wants(p.give(r, c, b, a), api.OK)
	p.given(r, c, b, a)
	p.given(s)
	p.wants(p.give(r), api.OK)
	p.given(r)
	p.wants(p.give(r), api.OK)
}

// Nothing bars a slot from being given, not even to itself.
func TestSlotsThatAreGiven(t *testing.T) {
	p := newPair(t, 30)
	s, r, a := p.element("slot"), p.element("slot"), p.element("a")
	p.wants(p.give(s, a, s, r), api.OK)
	p.given(s, a, s, r)
	p.wants(p.give(r, s, r), api.OK)
	p.given(r, s, r)
	p.given(s, a)
	p.wants(p.give(s, s), api.OK)
	p.given(s, s)
	p.given(r, r)
	p.wants(p.give(s), api.OK)
	p.given(s)
}

// Where nodes are and to which slot they are given has nothing to do with one another.
func TestGiftsStay(t *testing.T) {
	p := newPair(t, 30)
	s, a, b := p.element("slot"), p.element("a"), p.text("b")
	p.insert(0, a, -1)
	p.wants(p.give(s, a, b), api.OK)
	p.remove(a)
	p.given(s, a, b)
	p.insert(s, a, -1)
	p.insert(0, s, -1)
	p.given(s, a, b)
	p.kids(s, a)
	p.set(s, "name", "x")
	p.write(b, "other")
	p.shadow(a)
	p.given(s, a, b)
	p.wants(p.give(s), api.OK)
	p.kids(s, a)
}

func TestGiveErrors(t *testing.T) {
	p := newPair(t, 30)
	s, div, text, f := p.element("slot"), p.element("div"), p.text("x"), p.fragment()
	note, _ := p.make(api.Node{Kind: api.Comment})
	doctype, _ := p.make(api.Node{Kind: api.Doctype, Name: "slot"})
	root := p.shadow(div)
	p.give(s, text)
	for _, i := range []int{0, div, text, f, note, doctype, root, p.element("slots")} {
		p.wants(p.give(i), api.ErrSlot)
		p.wants(p.give(i, text), api.ErrSlot)
	}
	for _, i := range []int{0, f, note, doctype, root} {
		p.wants(p.give(s, i), api.ErrTree)
		p.wants(p.give(s, div, i), api.ErrTree)
		p.wants(p.give(s, i, div), api.ErrTree)
	}
	// In the order of the promise, wherever in the list they are.
	p.wants(p.give(div, note, 99), api.ErrNode)
	p.wants(p.give(s, note, 99), api.ErrNode)
	p.wants(p.give(99, note), api.ErrNode)
	p.wants(p.give(s, text, -1), api.ErrNode)
	p.wants(p.give(div, note), api.ErrSlot)
	p.given(s, text)
}

func TestGiveTwoHundred(t *testing.T) {
	p := newPair(t, 300)
	s, more := p.element("slot"), p.text("x")
	note, _ := p.make(api.Node{Kind: api.Comment})
	var l []int
	for range 200 {
		l = append(l, p.text(""))
	}
	p.wants(p.give(s, l...), api.OK)
	p.given(s, l...)
	p.wants(p.give(s, append(l, more)...), api.ErrArg)
	p.given(s, l...)
	// All are counted, those that come again, too.
	p.wants(p.give(s, append(l, l[0])...), api.ErrArg)
	same := slices.Repeat([]int{more}, 201)
	p.wants(p.give(s, same...), api.ErrArg)
	p.wants(p.give(s, same[:200]...), api.OK)
	p.given(s, more)
	// Other errors come first.
	p.wants(p.give(more, same...), api.ErrSlot)
	p.wants(p.give(s, append(same, note)...), api.ErrTree)
	p.wants(p.give(s, append(same, 999)...), api.ErrNode)
}

package slots_test

import (
	"slices"
	"strconv"
	"strings"
	"testing"

	"portiere/api"
	"portiere/slots"
)

// numbers is from, and all behind it, up to (and without) to.
func numbers(from, to int) []int {
	var out []int
	for i := from; i < to; i++ {
		out = append(out, i)
	}
	return out
}

func TestAsManyAsMayBeShown(t *testing.T) {
	s := newScene(t, api.MaxItems)
	host := s.element("div")
	root, slot, later := s.shadow(host, api.Flags{}), s.element("slot"), s.element("slot")
	s.put(root, slot, later)
	for s.Len() < s.Limit() {
		s.put(host, s.text())
	}
	all := numbers(later+1, api.MaxItems)
	s.assigned(slot, all...)
	s.flat(slot, all...)
	s.assigned(later)
	s.found(api.MaxItems-1, slot)
}

// Each slot has a name of its own; those that ask for them stand in the host the other way round.
func TestAsManySlotsAsMayBe(t *testing.T) {
	s := newScene(t, api.MaxItems)
	host := s.element("div")
	root, around := s.shadow(host, api.Flags{}), s.slotNamed("-")
	s.put(root, around)
	var all, asking []int
	before := -1
	for s.Len() < s.Limit() {
		name := strconv.Itoa(s.Len())
		slot, i := s.slotNamed(name), s.asking(name)
		s.put(around, slot)
		s.wants(s.Insert(host, i, before))
		all, asking, before = append(all, slot), append(asking, i), i
	}
	s.slotsIn(root, slices.Insert(slices.Clone(all), 0, around)...)
	for k := 0; k < len(all); k += 100 {
		s.found(asking[k], all[k])
		s.assigned(all[k], asking[k])
	}
	s.flat(around, asking...)
}

// Slots in slots, as deep as may be: the first of them shows what is in the host, any other one what is in the last.
func TestAsDeepAsMayBe(t *testing.T) {
	s := newScene(t, api.MaxItems)
	host, text, own := s.element("div"), s.text(), s.text()
	s.put(host, text)
	first := s.element("slot")
	s.put(s.shadow(host, api.Flags{}), first)
	second, last := -1, first
	for s.Len() < s.Limit() {
		i := s.element("slot")
		s.put(last, i)
		if last == first {
			second = i
		}
		last = i
	}
	s.put(last, own)
	s.flat(first, text)
	s.flat(second, own)
	s.flat(last, own)
	s.assigned(last)
	s.found(text, first)
	if n := len(slots.Slots(s.Doc, first)); n != api.MaxItems-5 {
		t.Errorf("%d slots", n)
	}
	s.wants(s.Remove(text))
	s.flat(first, own)
}

// Hosts in shadow roots, as many as may be: a text is handed on from slot to slot, from the outermost host to the innermost.
func TestAsManyHostsAsMayBe(t *testing.T) {
	for _, f := range []api.Flags{{}, manual()} {
		s := newScene(t, api.MaxItems-1)
		text, up := s.text(), 0
		shown, slot := text, -1
		for s.Limit()-s.Len() >= 3 {
			host := s.element("div")
			root := s.shadow(host, f)
			slot = s.element("slot")
			s.put(up, host)
			s.put(host, shown)
			s.put(root, slot)
			s.give(slot, shown)
			up, shown = root, slot
		}
		s.flat(slot, text)
		s.found(text, 4)
		if l := slots.Assigned(s.Doc, slot); len(l) != 1 || l[0] != slot-3 {
			t.Errorf("Assigned(%d) = %v", slot, l)
		}
	}
}

func TestAsManyAsMayBeGiven(t *testing.T) {
	s := newScene(t, 1000)
	host := s.element("div")
	root, slot := s.shadow(host, manual()), s.element("slot")
	s.put(root, slot)
	var all []int
	for range api.MaxGiven {
		all = append(all, s.text())
		s.put(host, all[len(all)-1])
	}
	slices.Reverse(all)
	s.give(slot, all...)
	s.assigned(slot, all...)
	s.flat(slot, all...)
	s.found(all[0], slot)
	// What is refused changes nothing.
	if err := s.Give(slot, append(all, s.text())); err != api.ErrArg {
		t.Errorf("%d", err)
	}
	s.assigned(slot, all...)
}

func TestLongNames(t *testing.T) {
	s := newScene(t, 20)
	host := s.element("div")
	root := s.shadow(host, api.Flags{})
	long := strings.Repeat("a", api.MaxValue)
	one, two := s.slotNamed(long[1:]+"b"), s.slotNamed(long)
	s.put(root, one, two)
	i := s.asking(long)
	s.put(host, i)
	s.found(i, two)
	s.assigned(one)
	s.assigned(two, i)
	s.hold()
}

package flat_test

import (
	"slices"
	"strconv"
	"testing"

	"portiere/api"
	"portiere/flat"
)

// numbers is from, and all behind it, up to (and without) to.
func numbers(from, to int) []int {
	var out []int
	for i := from; i < to; i++ {
		out = append(out, i)
	}
	return out
}

func TestAsManyAsMayBeShown(t *testing.T) {
	s := newScene(t, api.MaxItems)
	host := s.element("div")
	root, slot, later := s.shadow(host, api.Flags{}), s.element("slot"), s.element("slot")
	s.put(root, slot, later)
	for s.Len() < s.Limit() {
		s.put(host, s.text())
	}
	all := numbers(later+1, api.MaxItems)
	s.kids(slot, all...)
	s.kids(later)
	s.up(slot, api.MaxItems-1)
	s.walk(host, slices.Concat([]int{host, slot}, all, []int{later})...)
}

// Each slot has a name of its own; those that ask for them stand in the host the other way round.
func TestAsManySlotsAsMayBe(t *testing.T) {
	s := newScene(t, api.MaxItems)
	host := s.element("div")
	root := s.shadow(host, api.Flags{})
	want, before := []int{host}, -1
	for s.Limit()-s.Len() >= 2 {
		name := strconv.Itoa(s.Len())
		slot, i := s.slotNamed(name), s.asking(name)
		s.put(root, slot)
		s.wants(s.Insert(host, i, before))
		want, before = append(want, slot, i), i
	}
	s.walk(host, want...)
	s.up(before-1, before)
}

// Slots in slots, as deep as may be: with nothing to show but what is in the last.
func TestAsDeepAsMayBe(t *testing.T) {
	s := newScene(t, api.MaxItems)
	host := s.element("div")
	up := s.shadow(host, api.Flags{})
	want := []int{host}
	for s.Len() < s.Limit() {
		slot := s.element("slot")
		s.put(up, slot)
		want, up = append(want, slot), slot
	}
	s.walk(host, want...)
	s.walk(up, up)
	s.up(up-1, up)
}

// Hosts in shadow roots, as many as may be: a text is handed on from slot to slot, from the outermost host to the innermost.
func TestAsManyHostsAsMayBe(t *testing.T) {
	for _, f := range []api.Flags{{}, manual()} {
		s := newScene(t, api.MaxItems-1)
		text, up := s.text(), 0
		shown := text
		want, behind := []int{0}, []int{text}
		for s.Limit()-s.Len() >= 3 {
			host := s.element("div")
			root := s.shadow(host, f)
			slot := s.element("slot")
			s.put(up, host)
			s.put(host, shown)
			s.put(root, slot)
			s.give(slot, shown)
			up, shown = root, slot
			want, behind = append(want, host), append(behind, slot)
		}
		slices.Reverse(behind)
		s.walk(0, append(want, behind...)...)
		if up := flat.Up(s.Doc, text); up != behind[len(behind)-2] {
			t.Errorf("Up(%d) = %d", text, up)
		}
	}
}

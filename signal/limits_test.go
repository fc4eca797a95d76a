package signal_test

import (
	"slices"
	"strconv"
	"testing"

	"portiere/api"
)

// A slot that shows as many nodes as may be: one that is moved, or gone, is a change.
func TestAsManyAsMayBeShown(t *testing.T) {
	s := newScene(t, api.MaxItems)
	host, _, all := s.host(api.Flags{}, "")
	for s.Len() < s.Limit() {
		s.put(host, s.text())
	}
	s.changed(all[0])
	last := api.MaxItems - 1
	s.ok(s.Insert(host, last, last-1))
	s.changed(all[0])
	s.ok(s.Remove(last))
	s.changed(all[0])
	s.ok(s.Remove(last - 2))
	s.put(host, last-2)
	s.changed(all[0])
}

// As many hosts, each with one slot, as may be: all are pending, then those that change, one behind the other.
func TestAsManyPendingAsMayBe(t *testing.T) {
	s := newScene(t, api.MaxItems)
	var all, texts []int
	for s.Limit()-s.Len() >= 4 {
		host, _, slots := s.host(api.Flags{}, "")
		texts = append(texts, s.text())
		s.put(host, texts[len(texts)-1])
		all = append(all, slots[0])
	}
	s.changed(all...)
	var later []int
	for k := len(all) - 1; k >= 0; k -= 200 {
		s.ok(s.Remove(texts[k]))
		s.see(s.Doc)
		later = append(later, all[k])
		s.wants(later...)
	}
	for k, slot := range all {
		s.ok(s.Insert(slot-2, texts[k], -1)) // the host is two ahead of its slot
		if !slices.Contains(later, slot) {
			s.ok(s.Remove(texts[k]))
			later = append(later, slot)
		}
	}
	s.see(s.Doc)
	s.takes(later...)
}

// Slots of one shadow root, each with a name of its own. The words take their time here, for they look for each slot among all.
func TestManySlotsOfOneRoot(t *testing.T) {
	s := newScene(t, 1500)
	host, root, _ := s.host(api.Flags{})
	var all []int
	for s.Limit()-s.Len() >= 2 {
		name := strconv.Itoa(s.Len())
		slot, i := s.slotNamed(name), s.asking(name)
		s.put(root, slot)
		s.put(host, i)
		all = append(all, slot)
	}
	s.see(s.Doc)
	s.takes(all...)
	// The second one is ahead of the first, and has its name: it shows what that has shown.
	s.ok(s.Set(all[1], "name", strconv.Itoa(all[0])))
	s.ok(s.Insert(root, all[1], all[0]))
	s.see(s.Doc)
	s.takes(all[0], all[1])
}

func TestAsManyAsMayBeGiven(t *testing.T) {
	s := newScene(t, 1000)
	host, _, all := s.host(manual(), "", "")
	var texts []int
	for range api.MaxGiven {
		texts = append(texts, s.text())
	}
	s.put(host, texts...)
	s.give(all[0], texts...)
	s.changed(all[0])
	slices.Reverse(texts)
	s.give(all[0], texts...)
	s.changed(all[0])
	s.give(all[0], texts...)
	s.changed()
	s.give(all[1], texts[len(texts)-1])
	s.changed(all[0], all[1])
}

// Round and round: what is known and what is pending are the same each time.
func TestManyTimes(t *testing.T) {
	s := newScene(t, 20)
	host, _, all := s.host(api.Flags{}, "a", "b")
	i := s.asking("a")
	s.put(host, i)
	s.changed(all[0])
	for k := range 1000 {
		s.ok(s.Set(i, "slot", []string{"b", "a"}[k%2]))
		s.changed(all...)
	}
}

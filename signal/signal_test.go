package signal_test

import (
	"reflect"
	"slices"
	"testing"

	"portiere/api"
	"portiere/dom"
	"portiere/signal"
)

func manual() api.Flags { return api.Flags{Manual: true} }

func TestExample(t *testing.T) {
	s := newScene(t, 20)
	host, text, slot := s.element("div"), s.text(), s.element("slot")
	s.put(s.shadow(host, api.Flags{}), slot)
	s.see(s.Doc)
	s.wants()
	s.put(host, text)
	s.wants() // it is not seen yet
	s.see(s.Doc)
	s.wants(slot)
	s.takes(slot)
}

func TestNew(t *testing.T) {
	one, two := signal.New(), signal.New()
	if one == nil || two == nil || one == two {
		t.Fatal("New: no board of its own")
	}
	for _, l := range [][]int{one.Pending(), one.Take(), one.Pending()} {
		if len(l) != 0 {
			t.Errorf("pending is %v", l)
		}
	}
}

func TestNothingIsShown(t *testing.T) {
	for limit := 1; limit < 4; limit++ {
		s := newScene(t, limit)
		s.changed()
	}
	s := newScene(t, 40)
	host, _, _ := s.host(api.Flags{}, "a", "", "b")
	s.put(host, s.node(api.Node{Kind: api.Comment}), s.asking("c"))
	s.put(s.element("div"), s.text()) // has no shadow root
	s.put(s.element("slot"), s.text())
	s.changed()
}

// They are told by their numbers, in whatever order they stand in the document.
func TestSeenInTheOrderOfNumbers(t *testing.T) {
	s := newScene(t, 40)
	last, middle, first := s.slotNamed("c"), s.slotNamed("b"), s.slotNamed("a")
	host := s.element("div")
	s.put(s.shadow(host, api.Flags{}), first, middle, last)
	s.put(host, s.asking("a"), s.asking("b"), s.asking("c"))
	s.changed(last, middle, first)
}

func TestBehindAllOthers(t *testing.T) {
	s := newScene(t, 40)
	host, _, all := s.host(api.Flags{}, "a", "b", "c")
	a, b, c := s.asking("a"), s.asking("b"), s.asking("c")
	s.put(host, b)
	s.see(s.Doc)
	s.wants(all[1])
	s.put(host, c)
	s.see(s.Doc)
	s.wants(all[1], all[2])
	s.put(host, a)
	s.see(s.Doc)
	s.wants(all[1], all[2], all[0])
	// One that is pending stays where it is, and is not there twice.
	s.put(host, s.asking("c"), s.asking("b"))
	s.see(s.Doc)
	s.wants(all[1], all[2], all[0])
	// Nothing of that is forgotten where nothing has changed.
	s.see(s.Doc)
	s.takes(all[1], all[2], all[0])
	// The places are gone with what was taken.
	s.put(host, s.asking("c"))
	s.see(s.Doc)
	s.put(host, s.asking("b"))
	s.see(s.Doc)
	s.takes(all[2], all[1])
}

func TestTakeLeavesWhatIsKnown(t *testing.T) {
	s := newScene(t, 20)
	host, _, all := s.host(api.Flags{}, "")
	text := s.text()
	s.put(host, text)
	s.see(s.Doc)
	s.takes(all[0])
	s.see(s.Doc)
	s.wants()
	s.ok(s.Remove(text))
	s.changed(all[0])
	s.put(host, text)
	s.changed(all[0])
	s.ok(s.Remove(text))
	s.changed(all[0])
}

// What was the same again when it was looked at has not changed; what was seen to change stays pending, even if it is as it was.
func TestThereAndBack(t *testing.T) {
	s := newScene(t, 20)
	host, _, all := s.host(api.Flags{}, "")
	one, two := s.text(), s.text()
	s.put(host, one)
	s.changed(all[0])
	s.put(host, two)
	s.ok(s.Remove(two))
	s.changed()
	s.ok(s.Remove(one))
	s.put(host, one)
	s.changed()
	s.put(host, two)
	s.see(s.Doc)
	s.ok(s.Remove(two))
	s.see(s.Doc)
	s.takes(all[0])
	// From nothing to nothing.
	s.ok(s.Remove(one))
	s.see(s.Doc)
	s.takes(all[0])
	s.put(host, one)
	s.see(s.Doc)
	s.ok(s.Remove(one))
	s.see(s.Doc)
	s.takes(all[0])
	s.changed()
}

// The lists are held to one another in their order, too, to the last node.
func TestWhatIsNotTheSame(t *testing.T) {
	s := newScene(t, 20)
	host, _, all := s.host(api.Flags{}, "")
	one, two, three := s.text(), s.text(), s.text()
	s.put(host, one, two)
	s.changed(all[0])
	s.ok(s.Insert(host, two, one)) // the order alone
	s.changed(all[0])
	s.put(host, three) // one more behind
	s.changed(all[0])
	s.ok(s.Remove(three)) // one less there
	s.changed(all[0])
	s.ok(s.Remove(one)) // another one in the last place
	s.put(host, three)
	s.changed(all[0])
	s.ok(s.Remove(two)) // the first is gone
	s.changed(all[0])
	s.ok(s.Insert(host, one, three)) // one more ahead
	s.changed(all[0])
}

func TestChangesInTheHost(t *testing.T) {
	s := newScene(t, 60)
	host, _, all := s.host(api.Flags{Closed: true}, "a", "b", "")
	i := s.asking("a")
	s.put(host, i)
	s.changed(all[0])
	s.ok(s.Set(i, "slot", "b")) // from one to another
	s.changed(all[0], all[1])
	s.ok(s.Drop(i, "slot"))
	s.changed(all[1], all[2])
	s.ok(s.Set(i, "slot", "c"))
	s.changed(all[2])
	s.ok(s.Set(i, "slot", "a"))
	s.changed(all[0])
	f := s.node(api.Node{Kind: api.Fragment})
	s.put(f, s.text(), s.asking("a"), s.asking("b"))
	s.changed()
	s.put(host, f)
	s.changed(all...)
	other, _, more := s.host(api.Flags{}, "a")
	s.put(other, i) // from one host to another
	s.changed(all[0], more[0])
	s.ok(s.Remove(other)) // the host is elsewhere, with all that is in it
	s.changed()
}

func TestChangesInTheShadowRoot(t *testing.T) {
	s := newScene(t, 60)
	host, root, all := s.host(api.Flags{}, "a", "b")
	s.put(host, s.asking("a"))
	s.changed(all[0])
	s.ok(s.Set(all[0], "name", "c"))
	s.changed(all[0])
	s.ok(s.Set(all[1], "name", "a"))
	s.changed(all[1])
	s.ok(s.Set(all[0], "name", "a")) // it is ahead
	s.changed(all[0], all[1])
	s.ok(s.Insert(root, all[1], all[0]))
	s.changed(all[0], all[1])
	s.ok(s.Remove(all[1])) // a slot that is in nothing shows nothing
	s.changed(all[0], all[1])
	s.put(root, all[1])
	s.changed()
	div := s.element("div")
	s.put(div, all[0]) // it is in no shadow root
	s.changed(all[0], all[1])
	s.ok(s.Insert(root, div, all[1])) // it is, with what it is in
	s.changed(all[0], all[1])
	s.ok(s.Drop(all[0], "name"))
	s.changed(all[0], all[1])
	s.put(host, s.text())
	s.changed(all[0])
}

func TestARootThatComesLater(t *testing.T) {
	s := newScene(t, 20)
	host, slot := s.element("div"), s.element("slot")
	s.put(host, s.text())
	s.changed()
	root := s.shadow(host, api.Flags{})
	s.changed()
	s.put(root, slot)
	s.changed(slot)
}

func TestGivenByHand(t *testing.T) {
	s := newScene(t, 40)
	host, root, all := s.host(manual(), "", "")
	one, two, out := s.text(), s.element("b"), s.text()
	s.put(host, one, two)
	s.changed() // by hand alone
	s.give(all[1], two, one)
	s.changed(all[1])
	s.give(all[1], two, one, out) // out is not in the host
	s.changed()
	s.give(all[1], one, two, out)
	s.changed(all[1])
	s.give(all[0], one) // it is taken from the other one
	s.changed(all[0], all[1])
	s.put(host, out)
	s.changed(all[1])
	s.ok(s.Remove(two))
	s.changed(all[1])
	s.give(all[0])
	s.changed(all[0])
	s.ok(s.Remove(all[1]))
	s.changed(all[1])
	s.put(root, all[1])
	s.changed(all[1])
}

// What is written otherwise, or is shown in another place, does not change a slot.
func TestWhatChangesNoSlot(t *testing.T) {
	s := newScene(t, 60)
	host, root, all := s.host(api.Flags{}, "", "a")
	text, i := s.text(), s.element("b")
	s.put(host, text, i)
	s.changed(all[0])
	s.ok(s.Write(text, "y"))
	s.ok(s.Set(i, "id", "a"))
	s.ok(s.Set(i, "name", "a"))
	s.ok(s.Set(i, "slot", ""))
	s.ok(s.Drop(i, "slot"))
	s.ok(s.Set(all[0], "slot", "a"))
	s.put(i, s.text())
	s.put(all[0], s.text())
	s.put(all[1], s.text()) // it is shown there, but is no node of the host
	s.ok(s.Insert(host, s.node(api.Node{Kind: api.Comment}), text))
	s.put(host, s.asking("c"))
	s.put(root, s.text(), s.element("slot"))
	s.shadow(i, api.Flags{})
	s.ok(s.Remove(host))
	s.changed()
	if s.Insert(text, i, -1) == api.OK || s.Remove(root) == api.OK || s.Give(all[0], []int{99}) == api.OK {
		t.Error("not refused")
	}
	s.changed()
	// All that was given to slots that show by name is nothing to them.
	s.give(all[1], text, i)
	s.changed()
}

// A slot that is shown in another one: of that one the same is shown, whatever is shown in the first.
func TestSlotsInSlots(t *testing.T) {
	s := newScene(t, 40)
	host, root, outer := s.host(api.Flags{}, "")
	inside, _, inner := s.host(api.Flags{}, "")
	s.put(root, inside)
	s.put(inside, outer[0])
	s.changed(inner[0])
	text := s.text()
	s.put(host, text)
	s.changed(outer[0])
	s.ok(s.Remove(outer[0]))
	s.changed(outer[0], inner[0])
	s.put(inside, outer[0], s.text())
	s.changed(outer[0], inner[0])
	s.ok(s.Remove(text))
	s.changed(outer[0])
}

func TestAnswersAreNewMemory(t *testing.T) {
	s := newScene(t, 40)
	host, _, all := s.host(api.Flags{}, "a", "b", "c", "d", "e")
	s.put(host, s.asking("a"), s.asking("b"), s.asking("c"))
	s.see(s.Doc)
	one, two := s.b.Pending(), s.b.Pending()
	one[0], two[1] = -7, -8
	_ = append(one, -9)
	_ = append(one[:0], -9)
	s.wants(all[:3]...)
	s.put(host, s.asking("d"))
	s.see(s.Doc)
	s.wants(all[:4]...)
	kept := s.b.Pending()
	taken := s.b.Take()
	s.w.take()
	_ = append(taken[:1], -9)
	taken[0] = -7
	s.put(host, s.asking("e"), s.asking("a"))
	s.see(s.Doc)
	s.wants(all[0], all[4])
	if want := []int{-7, -9, all[2], all[3]}; !slices.Equal(taken, want) {
		t.Errorf("what was taken is %v, not %v", taken, want)
	}
	if !slices.Equal(kept, all[:4]) {
		t.Errorf("what was pending is %v", kept)
	}
}

// See changes nothing of the document, and keeps none of it.
func TestDocumentsAreLookedAt(t *testing.T) {
	s := newScene(t, 40)
	host, _, all := s.host(manual(), "", "")
	one, two := s.text(), s.text()
	s.put(host, one, two)
	s.give(all[0], two, one)
	was := s.Copy()
	s.see(s.Doc)
	if !reflect.DeepEqual(was, s.Doc) {
		t.Error("it has changed")
	}
	s.takes(all[0])
	s.give(all[1], one)
	s.wants()
	s.see(was) // it is as it was: what is known is, too
	s.wants()
	s.see(s.Doc)
	s.wants(all[0], all[1])
}

func TestBoardsKnowNothingOfOneAnother(t *testing.T) {
	s := newScene(t, 40)
	host, _, all := s.host(api.Flags{}, "", "a")
	s.put(host, s.text())
	other := newWatch(t)
	s.see(s.Doc)
	other.wants()
	s.takes(all[0])
	other.see(s.Doc)
	s.wants()
	s.put(host, s.asking("a"))
	other.see(s.Doc)
	other.takes(all[0], all[1])
	s.see(s.Doc)
	other.wants()
	s.takes(all[1])
}

// Numbers alone are known, of whatever document; of those that a document does not have, what is known stays.
func TestOtherDocuments(t *testing.T) {
	s := newScene(t, 40)
	host, _, all := s.host(api.Flags{}, "a", "b")
	s.put(host, s.asking("a"), s.asking("b"))
	s.see(s.Doc)
	s.see(s.Copy())
	s.takes(all[0], all[1])
	s.see(dom.New(1)) // has none of these numbers
	s.see(s.Doc)
	s.wants()
	// Another one, as long as to have the first of the slots' numbers, but not the second.
	short := scene{dom.New(40), s.watch}
	for short.Len() <= all[0] {
		short.text()
	}
	s.see(short.Doc)
	s.takes(all[0])
	s.see(s.Doc)
	s.takes(all[0])
	// The same lists at the same numbers are the same.
	same := scene{dom.New(30), s.watch}
	host, _, all = same.host(api.Flags{Closed: true}, "b", "a")
	same.put(host, same.asking("b"), same.asking("a"))
	s.see(same.Doc)
	s.wants()
	same.ok(same.Set(all[0], "name", "c"))
	s.see(same.Doc)
	s.takes(all[0])
	// One that is pending stays so, though the next document does not have it.
	same.ok(same.Set(all[0], "name", "b"))
	s.see(same.Doc)
	s.see(dom.New(1))
	s.takes(all[0])
}

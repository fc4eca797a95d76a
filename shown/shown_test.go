package shown_test

import (
	"fmt"
	"maps"
	"math/rand"
	"slices"
	"testing"

	"portiere/api"
	"portiere/build"
	"portiere/dom"
	"portiere/shown"
	"portiere/slots"
)

// scene is a document in which a text is put into node 0; its nodes are from 2 on.
type scene struct {
	*dom.Doc
	t *testing.T
}

func newScene(t *testing.T, text string) scene {
	t.Helper()
	d := dom.New(api.MaxItems)
	fragment, _, err := build.Parse(d, text, true)
	if err != api.OK || d.Insert(0, fragment, -1) != api.OK {
		t.Fatalf("%q: %d", text, err)
	}
	return scene{d, t}
}

// all says what all slots show, and holds it to slots.Assigned.
func (s scene) all(want shown.Lists) {
	s.t.Helper()
	got := shown.All(s.Doc)
	if !maps.EqualFunc(got, want, slices.Equal) {
		s.t.Errorf("All is %v, not %v", got, want)
	}
	s.holds()
}

// holds says that it is just what is told of each node alone.
func (s scene) holds() {
	s.t.Helper()
	want := shown.Lists{}
	for i := range s.Len() {
		if l := slots.Assigned(s.Doc, i); len(l) > 0 {
			want[i] = l
		}
	}
	if got := shown.All(s.Doc); !maps.EqualFunc(got, want, slices.Equal) {
		s.t.Fatalf("All is %v, not %v", got, want)
	}
}

const (
	open   = "<template shadowrootmode=open>"
	manual = "<template shadowrootmode=open shadowrootslotassignment=manual>"
	end    = "</template>"
)

func TestNothingIsShown(t *testing.T) {
	for _, text := range []string{
		"", "a", "<slot>a</slot>", "<div>a</div>", "<div>" + open + "a" + end + "a</div>", "<div>" + open + "<slot></slot>" + end + "</div>",
		"<div>" + open + "<slot></slot>" + end + "<!--a--><b slot=b></b></div>", "<div>" + open + "<slot name=a></slot>" + end + "a<b></b></div>",
		"<div>" + manual + "<slot></slot>" + end + "a</div>", "<div>" + open + "<template><slot></slot></template>" + end + "a</div>",
	} {
		newScene(t, text).all(nil)
	}
}

// The first of its name shows all that ask for it, in their order.
func TestByName(t *testing.T) {
	// 2 div, 3 its shadow root, 4 to 9 slots, one in another, 10 to 15 what is in div
	s := newScene(t, "<div>"+open+"<slot name=a></slot><slot><slot name=b></slot></slot><slot name=a></slot><slot name></slot><slot name=c></slot>"+end+"x<i slot=a></i><!--y--><i slot></i><i slot=b></i><slot slot=a></slot></div>")
	s.all(shown.Lists{4: {11, 15}, 5: {10, 13}, 6: {14}})
	s.Insert(3, 8, 4)
	s.all(shown.Lists{4: {11, 15}, 8: {10, 13}, 6: {14}})
	s.Set(8, "name", "a")
	s.all(shown.Lists{8: {11, 15}, 5: {10, 13}, 6: {14}})
	s.Set(11, "slot", "A")
	s.all(shown.Lists{8: {15}, 5: {10, 13}, 6: {14}})
	s.Insert(2, 10, -1)
	s.all(shown.Lists{8: {15}, 5: {13, 10}, 6: {14}})
	// What is given by hand is nothing here.
	s.Give(9, []int{10, 13})
	s.all(shown.Lists{8: {15}, 5: {13, 10}, 6: {14}})
	s.Remove(2)
	s.all(shown.Lists{8: {15}, 5: {13, 10}, 6: {14}})
	s.Remove(5)
	s.all(shown.Lists{8: {15}})
}

// What is given is shown in the order in which it is given, if it is in the host, and the slot is in the host's shadow root.
func TestByHand(t *testing.T) {
	// 2 div, 3 its shadow root, 4 and 5 slots, 6 to 8 what is in div
	s := newScene(t, "<div>"+manual+"<slot name=a></slot><slot></slot>"+end+"x<i slot=a></i><b></b></div>")
	s.all(nil)
	s.Give(5, []int{8, 6, 8})
	s.Give(4, []int{7})
	s.all(shown.Lists{4: {7}, 5: {8, 6}})
	s.Insert(7, 6, -1)
	s.all(shown.Lists{4: {7}, 5: {8}})
	s.Insert(2, 6, 7)
	s.Remove(4)
	s.all(shown.Lists{5: {8, 6}})
	s.Insert(2, 4, -1)
	s.all(shown.Lists{5: {8, 6}})
	s.Insert(5, 4, -1)
	s.all(shown.Lists{4: {7}, 5: {8, 6}})
	s.Give(4, nil)
	s.all(shown.Lists{5: {8, 6}})
}

// Slots in many shadow roots: of an element in a shadow root, of one in a template's content, of a slot.
func TestManyRoots(t *testing.T) {
	// 2 div, 3 its root, 4 p, 5 its root, 6 slot, 7 slot in p, 8 a; 9 template, 10 its content, 11 p, 12 its root, 13 slot, 14 b
	s := newScene(t, "<div>"+open+"<p>"+open+"<slot></slot>"+end+"<slot></slot></p>"+end+"a</div><template><p>"+open+"<slot></slot>"+end+"b</p></template>")
	s.all(shown.Lists{6: {7}, 7: {8}, 13: {14}})
	root, _ := s.Root(7, api.Flags{})
	slot, _ := s.Make(api.Node{Kind: api.Element, Name: "slot"})
	text, _ := s.Make(api.Node{Kind: api.Text})
	s.Insert(root, slot, -1)
	s.Insert(7, text, -1)
	s.all(shown.Lists{6: {7}, 7: {8}, 13: {14}, slot: {text}})
}

func TestListsAreNewMemory(t *testing.T) {
	s := newScene(t, "<div>"+open+"<slot></slot><slot name=a></slot>"+end+"a<b></b><b slot=a></b></div>")
	one := shown.All(s.Doc)
	one[4][0] = -7
	_ = append(one[4][:1], -8)
	delete(one, 5)
	s.all(shown.Lists{4: {6, 7}, 5: {8}})
}

func TestNodes(t *testing.T) {
	for _, n := range []api.Node{{}, {Kind: api.Text, Name: "slot"}, {Kind: api.Doctype, Name: "slot"}, {Kind: api.Element, Name: "Slot"}, {Kind: api.Element, Name: "slots"}} {
		if shown.IsSlot(n) {
			t.Errorf("%v is a slot", n)
		}
	}
	if !shown.IsSlot(api.Node{Kind: api.Element, Name: "slot"}) {
		t.Error("slot is none")
	}
	for kind := range uint8(9) {
		if shown.MayShow(api.Node{Kind: kind}) != (kind == api.Element || kind == api.Text) {
			t.Errorf("kind %d", kind)
		}
	}
	n := api.Node{Attrs: []api.Attr{{Name: "a", Value: "b"}, {Name: "c", Value: "d"}}}
	for name, want := range map[string]string{"a": "b", "c": "d", "": "", "A": "", "b": ""} {
		if got := shown.Value(n, name); got != want {
			t.Errorf("Value of %q is %q", name, got)
		}
	}
}

// change is some call of dom; many are refused.
func change(d *dom.Doc, r *rand.Rand) {
	any := func() int { return r.Intn(d.Len()) }
	names := []string{"", "a", "b"}
	switch r.Intn(8) {
	case 0:
		d.Remove(any())
	case 1:
		d.Set(any(), "name", names[r.Intn(3)])
	case 2:
		d.Set(any(), "slot", names[r.Intn(3)])
	case 3:
		d.Drop(any(), []string{"name", "slot"}[r.Intn(2)])
	case 4, 5:
		d.Give(any(), []int{any(), any()}[:1+r.Intn(2)])
	default:
		d.Insert(any(), any(), -1)
	}
}

func TestRandomDocuments(t *testing.T) {
	r := rand.New(rand.NewSource(11))
	parts := []string{"<div>" + open, "<x-a>" + manual, "<p>" + open + "<slot></slot>" + end, end, "</div>", "</x-a>", "</p>", "<slot>", "<slot name=a>", "</slot>", "<b slot=a>", "</b>", "x", "<!--y-->", "<b>", "<template>"}
	count := 0
	for range 800 {
		text := ""
		for range r.Intn(40) {
			text += parts[r.Intn(len(parts))]
		}
		s := newScene(t, text)
		for range 40 {
			s.holds()
			count += len(shown.All(s.Doc))
			change(s.Doc, r)
		}
	}
	if count < 10000 {
		t.Errorf("too little is shown: %d", count)
	}
}

// All slots of a great document are looked at often, and it is done: each list is gone through once.
func TestOften(t *testing.T) {
	text := ""
	for i := range 900 {
		text += fmt.Sprintf("<slot name=%d></slot>", i)
	}
	text = "<div>" + open + text + end
	for i := range 900 {
		text += fmt.Sprintf("<b slot=%d></b>", i)
	}
	s := newScene(t, text+"</div>")
	for range 500 {
		if l := shown.All(s.Doc); len(l) != 900 || !slices.Equal(l[903], []int{1803}) {
			t.Fatalf("%d slots, %v", len(l), l[903])
		}
	}
}

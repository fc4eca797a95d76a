package shadow_test

import (
	"math"
	"strings"
	"testing"

	"portiere/api"
	"portiere/dom"
	"portiere/shadow"
)

func TestExample(t *testing.T) {
	d := dom.New(20)
	div := element(t, d, "div")
	if root, err := shadow.Attach(d, div, api.Flags{}); div != 1 || root != 2 || err != api.OK {
		t.Fatalf("Attach(%d) = %d, %d", div, root, err)
	}
	if root, err := shadow.Attach(d, div, api.Flags{}); root != 0 || err != api.ErrTwice {
		t.Errorf("again: %d, %d", root, err)
	}
	p := element(t, d, "p")
	if root, err := shadow.Attach(d, p, api.Flags{}); root != 4 || err != api.OK {
		t.Errorf("to p: %d, %d", root, err)
	}
	if root, err := shadow.Attach(d, element(t, d, "a"), api.Flags{}); root != 0 || err != api.ErrHost {
		t.Errorf("to a: %d, %d", root, err)
	}
	hold(t, d)
}

func TestNamesOfHosts(t *testing.T) {
	const may = hosts + "x-a my-card a- a-.b_9 font-face-other xfont-face annotation-xmls"
	const mayNot = taken + "a abbr address b br button details dialog em figure form h7 hgroup hr html i img input li ol slot script style table template textarea title ul xa x_a x.a"
	d := dom.New(200)
	for name := range strings.FieldsSeq(may) {
		attached(t, d, element(t, d, name), api.Flags{})
	}
	for name := range strings.FieldsSeq(mayNot) {
		refused(t, d, element(t, d, name), api.ErrHost)
	}
	attached(t, d, element(t, d, "x-"+strings.Repeat("a", api.MaxName-2)), api.Flags{})
	hold(t, d)
}

func TestOtherKindsAreNoHosts(t *testing.T) {
	d := dom.New(40)
	refused(t, d, 0, api.ErrHost)
	others := []api.Node{
		{Kind: api.Text, Data: "div"}, {Kind: api.Text}, {Kind: api.Comment, Data: "div"}, {Kind: api.Fragment},
		{Kind: api.Doctype, Name: "html"}, {Kind: api.Doctype, Name: "div"}, {Kind: api.Doctype, Name: "x-a"},
	}
	for _, n := range others {
		refused(t, d, node(t, d, n), api.ErrHost)
	}
	template := element(t, d, "template")
	refused(t, d, template+1, api.ErrHost)
	root := attached(t, d, element(t, d, "div"), api.Flags{})
	refused(t, d, root, api.ErrHost)
	hold(t, d)
}

func numbersThatAreNone(d *dom.Doc) []int {
	return []int{math.MinInt, math.MinInt32, -1 << 32, 1 - 1<<32, -2, -1, d.Len(), d.Len() + 1, 5000, math.MaxInt32, 1 << 32, 1<<32 + 1, math.MaxInt}
}

func TestNumbersThatAreNone(t *testing.T) {
	d := dom.New(20)
	attached(t, d, element(t, d, "div"), api.Flags{})
	for _, i := range numbersThatAreNone(d) {
		refused(t, d, i, api.ErrNode)
		if of, open := shadow.Of(d, i), shadow.Open(d, i); of != -1 || open != -1 {
			t.Errorf("Of(%d) = %d, Open %d", i, of, open)
		}
	}
}

// Of several errors that apply the first one is told; with none of them the last room is taken.
func TestErrorsInOrder(t *testing.T) {
	d := dom.New(8)
	div, p := element(t, d, "div"), element(t, d, "p")
	a, b := element(t, d, "a"), element(t, d, "b")
	attached(t, d, div, api.Flags{})
	if _, err := d.Root(a, api.Flags{}); err != api.OK {
		t.Fatal(err)
	}
	refused(t, d, a, api.ErrHost) // though it has one
	attached(t, d, p, api.Flags{})
	if d.Len() != d.Limit() {
		t.Fatalf("%d nodes", d.Len())
	}
	refused(t, d, d.Len(), api.ErrNode)
	refused(t, d, b, api.ErrHost)
	refused(t, d, a, api.ErrHost)
	refused(t, d, div, api.ErrTwice)
	hold(t, d)
}

func TestLimit(t *testing.T) {
	d := dom.New(3)
	div, p := element(t, d, "div"), element(t, d, "p")
	refused(t, d, div, api.ErrLimit)
	refused(t, d, p, api.ErrLimit)
	if shadow.Open(d, div) != -1 || shadow.Of(d, div) != -1 {
		t.Error("what was refused has made something")
	}
	refused(t, dom.New(1), 0, api.ErrHost)
	hold(t, d)
}

func TestGreatestLimit(t *testing.T) {
	d := dom.New(api.MaxItems)
	for range api.MaxItems - 2 {
		element(t, d, "div")
	}
	attached(t, d, 1, api.Flags{})
	refused(t, d, 2, api.ErrLimit)
	refused(t, d, 1, api.ErrTwice)
	hold(t, d)
}

// Each flag is kept as it is given; just the first of them closes.
func TestFlags(t *testing.T) {
	d := dom.New(100)
	for k := range 32 {
		f := api.Flags{Closed: k&1 != 0, Manual: k&2 != 0, Delegates: k&4 != 0, Serializable: k&8 != 0, Clonable: k&16 != 0}
		host := element(t, d, "x-a")
		root := attached(t, d, host, f)
		want := root
		if f.Closed {
			want = -1
		}
		if got := shadow.Open(d, host); got != want {
			t.Errorf("%+v: Open is %d, not %d", f, got, want)
		}
		if got := shadow.Of(d, root); got != root {
			t.Errorf("%+v: Of is %d, not %d", f, got, root)
		}
		refused(t, d, host, api.ErrTwice)
	}
	hold(t, d)
}

// written is a document with shadow roots in shadow roots:
//
//	0: div 1 (shadow root 2: slot 3 (text 4), p 5 (closed shadow root 6: comment 7, b 8), template 9 (content 10: div 11)), text 12
//	span 13 (shadow root 14), a 15 (shadow root 16: text 17)
func written(t *testing.T) *dom.Doc {
	d := dom.New(20)
	text := func() int { return node(t, d, api.Node{Kind: api.Text, Data: "x"}) }
	div := element(t, d, "div")
	root := attached(t, d, div, api.Flags{})
	slot := element(t, d, "slot")
	insert(t, d, slot, text())
	p := element(t, d, "p")
	inner := attached(t, d, p, api.Flags{Closed: true})
	insert(t, d, inner, node(t, d, api.Node{Kind: api.Comment}), element(t, d, "b"))
	template := element(t, d, "template")
	insert(t, d, template+1, element(t, d, "div"))
	insert(t, d, root, slot, p, template)
	insert(t, d, div, text())
	insert(t, d, 0, div)
	attached(t, d, element(t, d, "span"), api.Flags{Manual: true})
	// Layer 8 gives any element a shadow root; Of and Open tell of that one, too.
	last, err := d.Root(element(t, d, "a"), api.Flags{})
	if err != api.OK {
		t.Fatal(err)
	}
	insert(t, d, last, text())
	if d.Len() != 18 {
		t.Fatalf("%d nodes", d.Len())
	}
	return d
}

func TestWritten(t *testing.T) {
	d := written(t)
	hold(t, d)
	of := []int{-1, -1, 2, 2, 2, 2, 6, 6, 6, 2, -1, -1, -1, -1, 14, -1, 16, 16}
	open := []int{-1, 2, -1, -1, -1, -1, -1, -1, -1, -1, -1, -1, -1, 14, -1, 16, -1, -1}
	for i := range d.Len() {
		if gotOf, gotOpen := shadow.Of(d, i), shadow.Open(d, i); gotOf != of[i] || gotOpen != open[i] {
			t.Errorf("%d: Of %d, Open %d, not %d, %d", i, gotOf, gotOpen, of[i], open[i])
		}
	}
}

// What is taken out, or put elsewhere, is in its new shadow root at once.
func TestBehindChanges(t *testing.T) {
	d := written(t)
	of := func(i, want int) {
		t.Helper()
		if got := shadow.Of(d, i); got != want {
			t.Errorf("Of(%d) = %d, not %d", i, got, want)
		}
		hold(t, d)
	}
	if err := d.Remove(3); err != api.OK {
		t.Fatal(err)
	}
	of(3, -1)
	of(4, -1)
	insert(t, d, 8, 3)
	of(3, 6)
	of(4, 6)
	insert(t, d, 0, 5)
	of(5, -1)
	of(4, 6) // a shadow root goes with its host
	insert(t, d, 14, 1)
	of(1, 14)
	of(12, 14)
	of(2, 2)
	root := attached(t, d, 11, api.Flags{})
	insert(t, d, root, 12)
	of(12, root)
}

// What is given to a slot by hand stays where it is.
func TestGivenNodesStay(t *testing.T) {
	d := written(t)
	if err := d.Give(3, []int{12, 17, 1}); err != api.OK {
		t.Fatal(err)
	}
	hold(t, d)
	if shadow.Of(d, 12) != -1 || shadow.Of(d, 17) != 16 || shadow.Of(d, 1) != -1 {
		t.Error("Of what is given")
	}
	// Lists of what is given stay, too, when there is a new shadow root.
	attached(t, d, 11, api.Flags{Manual: true})
}

// What is done to a copy is not seen in the document.
func TestDocumentsAreApart(t *testing.T) {
	d := dom.New(10)
	div := element(t, d, "div")
	other := d.Copy()
	root := attached(t, other, div, api.Flags{})
	if shadow.Open(d, div) != -1 || shadow.Of(d, root) != -1 || shadow.Open(other, div) != root {
		t.Error("one document knows of the other")
	}
	attached(t, d, div, api.Flags{Closed: true})
	if shadow.Open(d, div) != -1 || shadow.Open(other, div) != root {
		t.Error("one document knows of the other")
	}
}

func TestAsDeepAsMayBe(t *testing.T) {
	d := dom.New(api.MaxItems)
	last := attached(t, d, element(t, d, "div"), api.Flags{})
	for d.Len() < d.Limit() {
		i := element(t, d, "div")
		insert(t, d, last, i)
		last = i
	}
	if shadow.Of(d, last) != 2 || shadow.Open(d, last) != -1 {
		t.Errorf("Of(%d) = %d", last, shadow.Of(d, last))
	}
	refused(t, d, last, api.ErrLimit)
}

func TestAsManyShadowRootsAsMayBe(t *testing.T) {
	d := dom.New(api.MaxItems - 1)
	up := 0
	for d.Len() < d.Limit() {
		host := element(t, d, "div")
		insert(t, d, up, host)
		root, err := shadow.Attach(d, host, api.Flags{})
		if err != api.OK || root != host+1 {
			t.Fatalf("Attach(%d) = %d, %d", host, root, err)
		}
		up = root
	}
	hold(t, d)
	if host := up - 1; shadow.Of(d, host) != up-2 || shadow.Open(d, host) != up {
		t.Errorf("Of(%d) = %d, Open %d", host, shadow.Of(d, host), shadow.Open(d, host))
	}
}

package comp_test

import (
	"slices"
	"strconv"
	"strings"
	"testing"

	"portiere/api"
)

func TestLengthOfTexts(t *testing.T) {
	for _, n := range []int{59999, 60000, 60001, 100000} {
		p := newPair(t, 10)
		p.filled(0, "b")
		for _, call := range []func(int, string) ([]api.Fault, api.Errno){p.html, p.unsafe} {
			if _, err := call(0, strings.Repeat("a", n)); (n > 60000) != (err == api.ErrLimit) {
				t.Errorf("%d bytes: %d", n, err)
			}
		}
		if got, err := p.get(0, api.Options{}); err != api.OK || (n > 60000) != (got == "b") {
			t.Errorf("%d bytes: there is %.20q", n, got)
		}
	}
}

// No node is lost: what is made anew again and again has no room at last.
func TestTillThereIsNoRoom(t *testing.T) {
	p := newPair(t, api.MaxItems)
	const text = "<p>a</p>"
	p.filled(0, "<div></div>")
	for p.c.Doc().Limit()-p.c.Doc().Len() >= 3 {
		if l, err := p.c.HTML(2, text); err != api.OK || len(l) != 0 {
			t.Fatalf("%v, %d", l, err)
		}
		if _, err := p.fill(2, text, false); err != api.OK {
			t.Fatal(err)
		}
	}
	p.hold("many texts")
	for range 2 {
		if _, err := p.html(2, text); err != api.ErrLimit {
			t.Errorf("%d", err)
		}
		p.text(0, "<div>"+text+"</div>")
	}
	p.length(4998)
	p.filled(2, "b") // the last two
	if _, err := p.html(2, ""); err != api.ErrLimit {
		t.Errorf("%d", err)
	}
	p.text(0, "<div>b</div>")
}

// As many nodes of one text as there is room for: node 0 and the Fragment are there, too.
func TestAsManyNodesAsMayBe(t *testing.T) {
	for _, n := range []int{4998, 4999, 5001} {
		p := newPair(t, api.MaxItems)
		text := strings.Repeat("<br>", n)
		l, err := p.html(0, text)
		if fits := n == 4998; fits != (err == api.OK) || !fits && err != api.ErrLimit || len(l) != 0 {
			t.Errorf("%d elements: %v, %d", n, l, err)
		}
		if err == api.OK {
			p.text(0, text)
			p.length(5000)
		}
	}
	p := newPair(t, 1)
	if _, err := p.html(0, ""); err != api.ErrLimit {
		t.Errorf("%d", err)
	}
	p = newPair(t, 2)
	p.filled(0, "")
	p.length(2)
}

func TestAsDeepAsMayBe(t *testing.T) {
	p := newPair(t, api.MaxItems)
	for range 40 {
		last := 0
		if n := p.c.Doc().Len(); n > 1 {
			last = n - 1
		}
		p.filled(last, strings.Repeat("<b>", 99)+"<i></i>"+strings.Repeat("</b>", 99))
	}
	s := strings.Repeat("<b>", 99) + "<i>"
	e := "</i>" + strings.Repeat("</b>", 99)
	p.text(0, strings.Repeat(s, 40)+strings.Repeat(e, 40))
	p.filled(2, "a")
	p.text(0, "<b>a</b>")
	p.length(1 + 40*101 + 2)
}

// Hosts one in another, each with a slot in which the next one is shown.
func TestManyShadowRoots(t *testing.T) {
	p := newPair(t, api.MaxItems)
	var want []int
	for k := range 300 {
		host, root := p.c.Doc().Len()+1, p.c.Doc().Len()+2
		at := 0
		if k > 0 {
			at = want[k-1] - 2
		}
		p.filled(at, "<x-a>"+open+"<slot></slot>"+end+"</x-a>")
		want = append(want, root+1)
		if n, _ := p.c.Doc().Node(host); n.Shadow != root {
			t.Fatalf("%d has %d", host, n.Shadow)
		}
	}
	p.changed(want[:299]...)
	p.filled(want[298]-2, "")
	p.changed(want[298])
	p.filled(0, "")
	p.changed()
}

func TestManySlotsOfOneRoot(t *testing.T) {
	p := newPair(t, 1200)
	in, of := "", ""
	var want []int
	for k := range 290 {
		in += "<slot name=" + strconv.Itoa(k) + "></slot>"
		of += "<b slot=" + strconv.Itoa(289-k) + "></b>"
		want = append(want, 4+k)
	}
	p.filled(0, "<div>"+open+in+end+of+"</div>")
	p.changed(want...)
	p.filled(2, of)
	p.changed(want...)
	p.filled(3, "")
	p.changed(want...)
}

func TestAsManyAsMayBeAssigned(t *testing.T) {
	p := newPair(t, 500)
	p.filled(0, "<div>"+byHand+"<slot></slot>"+end+strings.Repeat("<b></b>", 201)+"</div>")
	var l []int
	for i := 5; i < 5+201; i++ {
		l = append(l, i)
	}
	p.wants(p.assign(4, l...), api.ErrArg)
	p.changed()
	p.ok(p.assign(4, l[:200]...))
	p.changed(4)
	if got := p.c.Doc().Given(4); !slices.Equal(got, l[:200]) {
		t.Errorf("given are %v", got)
	}
}

func TestAsManyAttributesAsMayBe(t *testing.T) {
	p := newPair(t, 10)
	div := p.element("div")
	for k := range 50 {
		p.ok(p.set(div, strings.Repeat("a", k+1), strings.Repeat("x", 2000)))
	}
	p.wants(p.set(div, "b", ""), api.ErrName)
	p.wants(p.set(div, "a", strings.Repeat("x", 2001)), api.ErrName)
	p.ok(p.set(div, "a", ""))
	p.wants(p.set(div, strings.Repeat("a", 61), ""), api.ErrName)
	p.put(0, div)
	// It is written, but is too long to be read again.
	text, err := p.get(0, api.Options{})
	p.ok(err)
	if _, err := p.html(0, text); len(text) <= 60000 || err != api.ErrLimit {
		t.Errorf("%d bytes: %d", len(text), err)
	}
	p.text(0, text)
}

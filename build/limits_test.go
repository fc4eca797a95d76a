package build_test

import (
	"slices"
	"strings"
	"testing"

	"portiere/api"
	"portiere/build"
	"portiere/dom"
)

// As many items as a tree may have are more than a document has room for: node 0 and the Fragment are there, too.
func TestAsManyItemsAsMayBe(t *testing.T) {
	for _, n := range []int{4997, 4998, 4999, 5000} {
		d := dom.New(api.MaxItems)
		i, err := lay(t, d, slices.Repeat([]api.Item{text(0, "a")}, n), true)
		if fits := n <= 4998; fits != (err == api.OK) || fits != (i == 1) || fits != (d.Len() == n+2) || !fits && err != api.ErrLimit {
			t.Errorf("%d items: %d, %d, %d nodes", n, i, err, d.Len())
		}
	}
	d := dom.New(api.MaxItems)
	if i, err := lay(t, d, slices.Repeat([]api.Item{text(0, "a")}, 5001), true); i != 0 || err != api.ErrArg {
		t.Errorf("5001 items: %d, %d", i, err)
	}
}

func TestAsManyElementsOfATextAsMayBe(t *testing.T) {
	for _, r := range []struct {
		n    int
		want api.Errno
	}{{4998, api.OK}, {4999, api.ErrLimit}, {5000, api.ErrLimit}, {5001, api.ErrLimit}, {15000, api.ErrLimit}} {
		d := dom.New(api.MaxItems)
		if _, _, err := parse(t, d, strings.Repeat("<br>", r.n), true); err != r.want {
			t.Errorf("%d elements: %d", r.n, err)
		}
	}
}

// nested are elements within one another, by turns of these.
func nested(n int, turns ...api.Item) []api.Item {
	var out []api.Item
	for deep := range n {
		item := turns[deep%len(turns)]
		item.Deep = deep
		out = append(out, item)
	}
	return out
}

func TestAsDeepAsMayBe(t *testing.T) {
	rows := []struct {
		turns []api.Item
		n     int // of so many there is room for all
	}{
		{[]api.Item{element(0, "b")}, 4998},
		{[]api.Item{element(0, "div"), declarative(0, "open")}, 4998},
		{[]api.Item{element(0, "template")}, 2499},
		{[]api.Item{element(0, "b"), element(0, "template")}, 3332},
	}
	for _, r := range rows {
		d := dom.New(api.MaxItems)
		if i, err := build.Lay(d, nested(r.n+1, r.turns...), true); i != 0 || err != api.ErrLimit || d.Len() != 1 {
			t.Errorf("%d of %s: %d, %d", r.n+1, r.turns[0].Name, i, err)
		}
		if i, err := lay(t, d, nested(r.n, r.turns...), true); i != 1 || err != api.OK || d.Limit()-d.Len() > 1 {
			t.Errorf("%d of %s: %d, %d, %d nodes", r.n, r.turns[0].Name, i, err, d.Len())
		}
		d = dom.New(api.MaxItems)
		if i, err := build.Lay(d, nested(5000, r.turns...), true); i != 0 || err != api.ErrLimit || d.Len() != 1 {
			t.Errorf("5000 of %s: %d, %d", r.turns[0].Name, i, err)
		}
	}
}

// The last of many items may stand in the first.
func TestBackFromTheDeepest(t *testing.T) {
	for _, back := range []int{0, 1, 2, 1000, 4000} {
		l := nested(4000, element(0, "div"))
		l = append(l, declarative(back, "closed"))
		if back < 4000 {
			l = append(l, text(back, "a"))
		}
		lay(t, dom.New(api.MaxItems), l, true)
	}
}

// One host, and as many templates as may be: the first one alone is its shadow root.
func TestAsManyTemplatesAsMayBe(t *testing.T) {
	l := []api.Item{element(0, "div")}
	for range 2498 {
		l = append(l, declarative(1, "open"))
	}
	d := dom.New(api.MaxItems)
	if _, err := lay(t, d, l, true); err != api.OK || d.Len() != 1+1+1+1+2*2497 {
		t.Errorf("%d, %d nodes", err, d.Len())
	}
	d = dom.New(api.MaxItems)
	if _, err := lay(t, d, l, false); err != api.OK || d.Len() != 1+1+1+2*2498 {
		t.Errorf("%d, %d nodes", err, d.Len())
	}
	d = dom.New(d.Len() - 1)
	if _, err := lay(t, d, l, false); err != api.ErrLimit || d.Len() != 1 {
		t.Errorf("%d, %d nodes", err, d.Len())
	}
}

func TestAsManyAttributesAsMayBe(t *testing.T) {
	var attrs []api.Attr
	for i := range api.MaxAttrs - 1 {
		attrs = append(attrs, api.Attr{Name: strings.Repeat("a", i+1), Value: strings.Repeat("open", 500)})
	}
	attrs = append(attrs, api.Attr{Name: "shadowrootmode", Value: "closed"})
	lay(t, dom.New(10), []api.Item{element(0, "x-a"), element(1, "template", attrs...)}, true)
	lay(t, dom.New(10), []api.Item{element(0, "x-a"), element(1, "template", attrs...)}, false)
	attrs = append(attrs, api.Attr{Name: "b"})
	if _, err := lay(t, dom.New(10), []api.Item{element(0, "x-a"), element(1, "template", attrs...)}, true); err != api.ErrArg {
		t.Errorf("51 attributes: %d", err)
	}
}

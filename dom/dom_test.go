package dom_test

import (
	"math"
	"reflect"
	"slices"
	"strconv"
	"strings"
	"testing"

	"portiere/api"
	"portiere/dom"
)

func TestExample(t *testing.T) {
	p := newPair(t, 20)
	if div, text := p.element("div"), p.text("x"); div != 1 || text != 2 {
		t.Fatalf("div %d, text %d", div, text)
	}
	p.wants(p.insert(0, 1, -1), api.OK)
	p.wants(p.insert(1, 2, -1), api.OK)
	n, err := p.d.Node(1)
	want := api.Node{Kind: api.Element, Name: "div", Up: 0, Kids: []int{2}, Shadow: -1, Host: -1, Content: -1}
	if err != api.OK || !reflect.DeepEqual(plain(n), want) {
		t.Errorf("%+v, %d", n, err)
	}
}

func TestNew(t *testing.T) {
	for _, limit := range []int{math.MinInt, -5000, -1, 0, 5001, 1 << 32, 1<<32 + 1, math.MaxInt} {
		if dom.New(limit) != nil {
			t.Errorf("New(%d)", limit)
		}
	}
	for _, limit := range []int{1, 2, 4999, 5000} {
		d := dom.New(limit)
		if d == nil || d.Len() != 1 || d.Limit() != limit {
			t.Fatalf("New(%d)", limit)
		}
		n, err := d.Node(0)
		if want := (api.Node{Kind: api.Fragment, Up: -1, Shadow: -1, Host: -1, Content: -1}); err != api.OK || !reflect.DeepEqual(plain(n), want) {
			t.Errorf("node 0 is %+v, %d", n, err)
		}
	}
}

func TestNumbersThatAreNone(t *testing.T) {
	p := newPair(t, 20)
	p.element("slot")
	numbers := []int{math.MinInt, math.MinInt32, -2, -1, 2, 3, 5000, math.MaxInt32, 1 << 32, 1<<32 + 1, -1 << 32, math.MaxInt}
	p.holdBeyond(numbers...)
	for _, i := range numbers {
		p.wants(p.insert(i, 1, -1), api.ErrNode)
		p.wants(p.insert(0, i, -1), api.ErrNode)
		p.wants(p.remove(i), api.ErrNode)
		p.wants(p.set(i, "a", ""), api.ErrNode)
		p.wants(p.drop(i, "a"), api.ErrNode)
		p.wants(p.write(i, "a"), api.ErrNode)
		p.wants(p.give(i), api.ErrNode)
		p.wants(p.give(1, 1, i), api.ErrNode)
		if _, err := p.root(i, api.Flags{}); err != api.ErrNode {
			t.Errorf("Root(%d): %d", i, err)
		}
		if i != -1 {
			p.wants(p.insert(0, 1, i), api.ErrNode)
		}
	}
	p.wants(p.insert(0, 1, -1), api.OK)
}

func TestMakeKinds(t *testing.T) {
	attrs := []api.Attr{{Name: "a", Value: "b"}}
	cases := []struct {
		n    api.Node
		want api.Errno
	}{
		{api.Node{}, api.ErrArg},
		{api.Node{Kind: api.Shadow}, api.ErrArg},
		{api.Node{Kind: 7}, api.ErrArg},
		{api.Node{Kind: 255}, api.ErrArg},
		{api.Node{Kind: api.Element}, api.ErrArg},
		{api.Node{Kind: api.Element, Name: "div"}, api.OK},
		{api.Node{Kind: api.Element, Name: "x-a", Attrs: attrs}, api.OK},
		{api.Node{Kind: api.Element, Name: "br", Attrs: attrs}, api.OK},
		{api.Node{Kind: api.Element, Name: "template", Attrs: attrs}, api.OK},
		{api.Node{Kind: api.Element, Name: "Div"}, api.ErrArg},
		{api.Node{Kind: api.Element, Name: "1a"}, api.ErrArg},
		{api.Node{Kind: api.Element, Name: "div", Data: "x"}, api.ErrArg},
		{api.Node{Kind: api.Element, Name: strings.Repeat("a", 60)}, api.OK},
		{api.Node{Kind: api.Element, Name: strings.Repeat("a", 61)}, api.ErrArg},
		{api.Node{Kind: api.Text}, api.OK},
		{api.Node{Kind: api.Text, Data: "x"}, api.OK},
		{api.Node{Kind: api.Text, Data: "\x00\xff"}, api.OK},
		{api.Node{Kind: api.Text, Data: strings.Repeat("x", 100000)}, api.OK},
		{api.Node{Kind: api.Text, Name: "x"}, api.ErrArg},
		{api.Node{Kind: api.Text, Name: "x", Data: "x"}, api.ErrArg},
		{api.Node{Kind: api.Text, Attrs: attrs}, api.ErrArg},
		{api.Node{Kind: api.Text, Data: "x", Attrs: attrs}, api.ErrArg},
		{api.Node{Kind: api.Text, Data: "x", Attrs: []api.Attr{}}, api.OK},
		{api.Node{Kind: api.Comment}, api.OK},
		{api.Node{Kind: api.Comment, Data: "-->"}, api.OK},
		{api.Node{Kind: api.Comment, Name: "x"}, api.ErrArg},
		{api.Node{Kind: api.Comment, Attrs: attrs}, api.ErrArg},
		{api.Node{Kind: api.Doctype}, api.OK},
		{api.Node{Kind: api.Doctype, Name: "html"}, api.OK},
		{api.Node{Kind: api.Doctype, Name: "A b"}, api.OK},
		{api.Node{Kind: api.Doctype, Name: "html", Data: "x"}, api.ErrArg},
		{api.Node{Kind: api.Doctype, Name: "html", Attrs: attrs}, api.ErrArg},
		{api.Node{Kind: api.Fragment}, api.OK},
		{api.Node{Kind: api.Fragment, Attrs: []api.Attr{}}, api.OK},
		{api.Node{Kind: api.Fragment, Name: "x"}, api.ErrArg},
		{api.Node{Kind: api.Fragment, Data: "x"}, api.ErrArg},
		{api.Node{Kind: api.Fragment, Attrs: attrs}, api.ErrArg},
	}
	p := newPair(t, 5000)
	for _, c := range cases {
		ahead := p.d.Len()
		i, err := p.make(c.n)
		if err != c.want || err == api.OK && i != ahead || err != api.OK && i != 0 {
			t.Errorf("Make(%+v) = %d, %d, not %d", c.n, i, err, c.want)
		}
	}
}

func TestMakeAttributes(t *testing.T) {
	many := func(n int) []api.Attr {
		var out []api.Attr
		for i := range n {
			out = append(out, api.Attr{Name: "a" + strconv.Itoa(i)})
		}
		return out
	}
	cases := []struct {
		attrs []api.Attr
		want  api.Errno
	}{
		{many(50), api.OK},
		{many(51), api.ErrArg},
		{[]api.Attr{{Name: ""}}, api.ErrArg},
		{[]api.Attr{{Name: "A"}}, api.ErrArg},
		{[]api.Attr{{Name: "a"}, {Name: "b"}, {Name: "a"}}, api.ErrArg},
		{[]api.Attr{{Name: "a", Value: strings.Repeat("x", 2000)}}, api.OK},
		{[]api.Attr{{Name: "a", Value: strings.Repeat("x", 2001)}}, api.ErrArg},
		{[]api.Attr{{Name: "b", Value: "2"}, {Name: "a", Value: "1"}}, api.OK},
	}
	p := newPair(t, 100)
	for _, c := range cases {
		if _, err := p.make(api.Node{Kind: api.Element, Name: "p", Attrs: c.attrs}); err != c.want {
			t.Errorf("%d attributes: %d, not %d", len(c.attrs), err, c.want)
		}
	}
}

// Of what Make is handed the rest is not looked at.
func TestMakeLooksAtNothingElse(t *testing.T) {
	p := newPair(t, 100)
	p.element("div")
	for _, kind := range []uint8{api.Element, api.Text, api.Comment, api.Fragment, api.Doctype} {
		n := api.Node{Kind: kind, Up: 1, Kids: []int{0, 77}, Shadow: 1, Host: 5, Content: -9, Flags: api.Flags{Closed: true, Clonable: true}}
		if kind == api.Element {
			n.Name = "template"
		}
		i, err := p.make(n)
		got, _ := p.d.Node(i)
		want := api.Node{Kind: kind, Name: n.Name, Up: -1, Shadow: -1, Host: -1, Content: -1}
		if kind == api.Element {
			want.Content = i + 1
		}
		if err != api.OK || !reflect.DeepEqual(plain(got), want) {
			t.Errorf("%+v, %d", got, err)
		}
	}
}

func TestTemplatesHaveContents(t *testing.T) {
	p := newPair(t, 20)
	p.text("x")
	if i := p.element("template"); i != 2 || p.d.Len() != 4 {
		t.Fatalf("template %d of %d", i, p.d.Len())
	}
	n, _ := p.d.Node(2)
	c, _ := p.d.Node(3)
	if n.Content != 3 || n.Host != -1 || c.Kind != api.Fragment || c.Host != 2 || c.Up != -1 || c.Content != -1 {
		t.Errorf("%+v, %+v", n, c)
	}
	// What is in a template is not in its content.
	p.wants(p.insert(2, 1, -1), api.OK)
	p.kids(2, 1)
	p.kids(3)
	p.wants(p.insert(3, 1, -1), api.OK)
	p.kids(2)
	p.kids(3, 1)
	if i := p.element("templates"); p.d.Len() != i+1 {
		t.Error("templates is no template")
	}
}

func TestLimit(t *testing.T) {
	template := api.Node{Kind: api.Element, Name: "template"}
	for limit := 1; limit <= 6; limit++ {
		p := newPair(t, limit)
		for p.d.Len() < limit-1 {
			p.element("div")
		}
		if limit > 1 {
			if i, err := p.make(template); i != 0 || err != api.ErrLimit || p.d.Len() != limit-1 {
				t.Errorf("limit %d: a template with room for one: %d, %d", limit, i, err)
			}
			if _, err := p.make(api.Node{Kind: api.Comment}); err != api.OK {
				t.Errorf("limit %d: the last one: %d", limit, err)
			}
		}
		for _, n := range []api.Node{template, {Kind: api.Text}, {Kind: api.Comment}, {Kind: api.Fragment}, {Kind: api.Doctype}, {Kind: api.Element, Name: "p"}} {
			if i, err := p.make(n); i != 0 || err != api.ErrLimit {
				t.Errorf("limit %d, %+v: %d, %d", limit, n, i, err)
			}
		}
		// What is wrong comes first.
		if _, err := p.make(api.Node{Kind: api.Shadow}); err != api.ErrArg {
			t.Errorf("limit %d: %d", limit, err)
		}
		if _, err := p.root(0, api.Flags{}); err != api.ErrHost {
			t.Errorf("limit %d: %d", limit, err)
		}
		if limit > 2 {
			if i, err := p.root(1, api.Flags{}); i != 0 || err != api.ErrLimit {
				t.Errorf("limit %d: Root %d, %d", limit, i, err)
			}
		}
	}
	p := newPair(t, 3)
	if i := p.element("template"); i != 1 || p.d.Len() != 3 {
		t.Error("a template with room for two")
	}
}

func TestGreatestLimit(t *testing.T) {
	d := dom.New(api.MaxItems)
	for i := 1; i < 5000; i++ {
		if k, err := d.Make(api.Node{Kind: api.Element, Name: "b"}); k != i || err != api.OK {
			t.Fatalf("%d, %d", k, err)
		}
	}
	if _, err := d.Make(api.Node{Kind: api.Text}); err != api.ErrLimit || d.Len() != 5000 {
		t.Error("more than 5000")
	}
	if _, err := d.Root(1, api.Flags{}); err != api.ErrLimit {
		t.Error("a root beyond 5000")
	}
}

func TestRoot(t *testing.T) {
	p := newPair(t, 40)
	p.element("div") // 1
	p.text("x")      // 2
	p.fragment()     // 3
	p.make(api.Node{Kind: api.Comment})
	p.make(api.Node{Kind: api.Doctype})
	for _, i := range []int{0, 2, 3, 4, 5} {
		if k, err := p.root(i, api.Flags{}); k != 0 || err != api.ErrHost {
			t.Errorf("Root(%d) = %d, %d", i, k, err)
		}
	}
	f := api.Flags{Closed: true, Delegates: true, Clonable: true}
	if k, err := p.root(1, f); k != 6 || err != api.OK {
		t.Fatalf("Root(1) = %d, %d", k, err)
	}
	n, _ := p.d.Node(6)
	want := api.Node{Kind: api.Shadow, Up: -1, Shadow: -1, Host: 1, Content: -1, Flags: f}
	if !reflect.DeepEqual(plain(n), want) {
		t.Errorf("%+v", n)
	}
	if n, _ := p.d.Node(1); n.Shadow != 6 || n.Flags != (api.Flags{}) {
		t.Errorf("%+v", n)
	}
	if k, err := p.root(1, api.Flags{Manual: true}); k != 0 || err != api.ErrTwice {
		t.Errorf("again: %d, %d", k, err)
	}
	if _, err := p.root(6, f); err != api.ErrHost {
		t.Errorf("of a root: %d", err)
	}
	// Each flag is kept; any element may be a host here.
	all := []api.Flags{{Closed: true}, {Manual: true}, {Delegates: true}, {Serializable: true}, {Clonable: true}}
	for k, name := range []string{"a", "br", "slot", "template", "x-a"} {
		i, _ := p.root(p.element(name), all[k])
		if n, _ := p.d.Node(i); n.Flags != all[k] || n.Kind != api.Shadow {
			t.Errorf("%s: %+v", name, n)
		}
	}
}

func TestRootErrorsInOrder(t *testing.T) {
	p := newPair(t, 3)
	p.element("div")
	p.shadow(1)
	if _, err := p.root(3, api.Flags{}); err != api.ErrNode {
		t.Errorf("%d", err)
	}
	if _, err := p.root(2, api.Flags{}); err != api.ErrHost {
		t.Errorf("%d", err)
	}
	if _, err := p.root(1, api.Flags{}); err != api.ErrTwice {
		t.Errorf("%d: there are too many, and it has one", err)
	}
}

// The last room is enough for the root of a template, for it is one node.
func TestRootOfATemplateInTheLastRoom(t *testing.T) {
	p := newPair(t, 4)
	p.element("template")
	if i, err := p.root(1, api.Flags{}); i != 3 || err != api.OK {
		t.Errorf("%d, %d", i, err)
	}
}

func TestCopy(t *testing.T) {
	p := newPair(t, 30)
	host, slot := p.element("x-a"), p.element("slot")
	root := p.shadow(host)
	p.insert(0, host, -1)
	p.insert(root, slot, -1)
	p.set(host, "a", "1")
	p.set(host, "b", "2")
	p.give(slot, host, slot)
	q := p.copied()
	q.hold("Copy")
	// What is done to one is not seen in the other.
	q.set(host, "a", "3")
	q.set(host, "c", "4")
	q.drop(host, "b")
	q.write(q.text("x"), "y")
	q.insert(host, slot, -1)
	q.remove(host)
	q.give(slot)
	q.element("template")
	p.hold("behind what was done to its copy")
	p.drop(host, "a")
	p.text("other")
	p.insert(root, p.text("text"), slot)
	p.give(slot, slot)
	q.hold("behind what was done to what it is a copy of")
	p.hold()
	if q.d.Limit() != 30 {
		t.Error("Limit of a copy")
	}
}

func TestCopyOfAFullDocument(t *testing.T) {
	p := newPair(t, 2)
	p.element("b")
	q := p.copied()
	q.hold("Copy")
	if _, err := q.make(api.Node{Kind: api.Text}); err != api.ErrLimit {
		t.Errorf("%d", err)
	}
}

func TestAnswersAreNewMemory(t *testing.T) {
	p := newPair(t, 30)
	attrs := make([]api.Attr, 2, 6)
	attrs[0], attrs[1] = api.Attr{Name: "a", Value: "1"}, api.Attr{Name: "b", Value: "2"}
	behind := attrs[:6]
	behind[2] = api.Attr{Name: "behind", Value: "its length"}
	i, _ := p.make(api.Node{Kind: api.Element, Name: "slot", Attrs: attrs})
	p.set(i, "c", "3")
	p.set(i, "a", "4")
	p.drop(i, "b")
	want := []api.Attr{{Name: "a", Value: "1"}, {Name: "b", Value: "2"}, {Name: "behind", Value: "its length"}, {}, {}, {}}
	if !slices.Equal(behind, want) {
		t.Errorf("what was handed in is %v", behind)
	}
	attrs[0] = api.Attr{Name: "changed"}
	p.hold("behind a change of what was handed in")
	p.insert(0, i, -1)
	p.insert(i, p.text("x"), -1)
	l := []int{1, 2, 2, 77}[:3]
	p.give(i, l...)
	if !slices.Equal(l[:4], []int{1, 2, 2, 77}) {
		t.Errorf("the list that was handed in is %v", l[:4])
	}
	l[0], l[1] = 2, 0
	p.hold("behind a change of the list")
	for range 2 {
		n, _ := p.d.Node(i)
		given := p.d.Given(i)
		scribble(n.Attrs[:cap(n.Attrs)], api.Attr{Name: "scribbled"})
		scribble(n.Kids[:cap(n.Kids)], 9)
		scribble(given[:cap(given)], 9)
		p.hold("behind a change of what came out")
		p.set(i, "d", "5")
		p.insert(i, p.text("y"), -1)
	}
	p.hold()
}

// Not even of an element that is left as it was made what was handed in is kept.
func TestMakeKeepsNothing(t *testing.T) {
	p := newPair(t, 30)
	attrs := []api.Attr{{Name: "a", Value: "1"}, {Name: "b", Value: "2"}}
	i, _ := p.make(api.Node{Kind: api.Element, Name: "b", Attrs: attrs})
	attrs[0].Value = "changed"
	p.hold("behind a change of what was handed in")
	p.drop(i, "a")
	if want := []api.Attr{{Name: "a", Value: "changed"}, {Name: "b", Value: "2"}}; !slices.Equal(attrs, want) {
		t.Errorf("what was handed in is %v", attrs)
	}
}

func scribble[T any](l []T, x T) {
	for i := range l {
		l[i] = x
	}
}

// Nothing behind a list's length is read, either.
func TestBehindAListsLength(t *testing.T) {
	p := newPair(t, 30)
	i := p.element("slot")
	p.wants(p.d.Give(i, []int{1, 99}[:1]), api.OK)
	if !slices.Equal(p.d.Given(i), []int{1}) {
		t.Errorf("%v", p.d.Given(i))
	}
	attrs := []api.Attr{{Name: "a"}, {Name: "A"}}
	k, err := p.d.Make(api.Node{Kind: api.Element, Name: "b", Attrs: attrs[:1]})
	if n, _ := p.d.Node(k); err != api.OK || len(n.Attrs) != 1 {
		t.Errorf("%d, %v", err, n.Attrs)
	}
}

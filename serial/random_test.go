package serial_test

import (
	"hash/fnv"
	"math/rand"
	"slices"
	"strings"
	"testing"

	"portiere/api"
	"portiere/build"
	"portiere/clone"
	"portiere/dom"
	"portiere/serial"
)

// calls reads calls from bytes, so that random ones and those of the fuzzer are the same.
type calls struct {
	b     []byte
	tally map[string]int
}

func (c *calls) pick(n int) int {
	if len(c.b) == 0 {
		return 0
	}
	x := int(c.b[0])
	c.b = c.b[1:]
	return x % n
}

func one[T any](c *calls, l ...T) T { return l[c.pick(len(l))] }

// number is mostly one of a node, late ones as often as all.
func (c *calls) number(d *dom.Doc) int {
	switch c.pick(40) {
	case 0:
		return one(c, -1, d.Len(), d.Len()+1, -1000)
	case 1:
		return 0
	}
	if c.pick(2) == 0 {
		return d.Len() - 1 - c.pick(min(d.Len(), 12))
	}
	return c.pick(d.Len())
}

// holder is one in which a node is to be put: mostly of the first ones, so that some have many.
func (c *calls) holder(d *dom.Doc) int {
	if c.pick(3) == 0 {
		return c.number(d)
	}
	return c.pick(min(d.Len(), 8))
}

func (c *calls) data() string {
	return one(c, "", "a", "<", "&", "&lt;", "\u00a0", "\"'>", "-->", "</script>", "\x00\xff\xc2", "\xa0")
}

func (c *calls) node() api.Node {
	switch c.pick(9) {
	case 0, 1:
		return api.Node{Kind: api.Text, Data: c.data()}
	case 2:
		return api.Node{Kind: api.Comment, Data: c.data()}
	case 3:
		return api.Node{Kind: api.Doctype, Name: one(c, "", "html", "script", "template")}
	case 4:
		return api.Node{Kind: api.Element, Name: "template"}
	}
	n := api.Node{Kind: api.Element, Name: one(c, "div", "x-a", "slot", "script", "style", "b", "br", "input", "title")}
	if c.pick(2) == 0 {
		n.Attrs = []api.Attr{attr("id", c.data()), attr("a&", c.data())}
	}
	return n
}

func (c *calls) flags() api.Flags {
	return api.Flags{Closed: c.pick(2) == 0, Manual: c.pick(2) == 0, Delegates: c.pick(2) == 0, Serializable: c.pick(2) == 0, Clonable: c.pick(2) == 0}
}

func (c *calls) options(d *dom.Doc) api.Options {
	o := api.Options{Serializable: c.pick(2) == 0}
	for range c.pick(6) {
		o.Roots = append(o.Roots, c.number(d))
	}
	for i := range d.Len() {
		if n, _ := d.Node(i); n.Kind == api.Shadow && c.pick(4) == 0 {
			o.Roots = append(o.Roots, i)
		}
	}
	return o
}

func (c *calls) text() string {
	s := ""
	for range c.pick(12) {
		s += one(c, "<div>", "<x-a>", "<b>", "</div>", "</x-a>", end, "<template>", "<slot></slot>", "a&lt;", "<!--x-->", "<script>a<b</script>", "<div>"+open, "<x-a>"+kept, "<p id='\"'>"+open)
	}
	return s
}

// play does something to the document; some calls are refused.
func (c *calls) play(d *dom.Doc) {
	switch c.pick(11) {
	case 0, 1, 2:
		if i, err := d.Make(c.node()); err == api.OK {
			d.Insert(c.holder(d), i, -1)
		}
	case 3, 4:
		d.Root(c.holder(d), c.flags())
	case 5, 6:
		d.Insert(c.holder(d), c.number(d), one(c, -1, -1, c.number(d)))
	case 7:
		d.Set(c.number(d), one(c, "id", "slot", "name"), c.data())
		d.Drop(c.number(d), one(c, "id", "slot"))
		d.Write(c.number(d), c.data())
	case 8:
		d.Give(c.number(d), []int{c.number(d), c.number(d)})
	case 9:
		if i, _, err := build.Parse(d, c.text(), true); err == api.OK {
			d.Insert(c.holder(d), i, -1)
		}
	case 10:
		if i, err := clone.Clone(d, c.number(d), true); err == api.OK {
			d.Insert(c.holder(d), i, -1)
		}
	}
}

// run holds what is written of a document to the words, again and again, and at last to what is written of others that differ in what is not asked for.
func (c *calls) run(t *testing.T) {
	seed := fnv.New64a()
	seed.Write(c.b)
	r := rand.New(rand.NewSource(int64(seed.Sum64())))
	d := dom.New(1 + one(c, 5, 20, 60, 200))
	for k := 0; len(c.b) > 0; k++ {
		c.play(d)
		if k%8 == 0 {
			holdAll(t, d, c.options(d))
		}
	}
	for range 3 {
		c.b = make([]byte, 400+8*d.Len())
		r.Read(c.b)
		o := c.options(d)
		holdAll(t, d, o)
		c.count(d, o)
		c.holdNoTrace(t, d, o)
	}
}

// count counts what has come of it.
func (c *calls) count(d *dom.Doc, o api.Options) {
	w := tell(d)
	for _, n := range w.nodes {
		switch {
		case n.Shadow != -1 && isOf(voids, n):
			c.tally["a void host"]++
		case n.Shadow != -1 && isOf(raws, n):
			c.tally["a raw host"]++
		case n.Shadow != -1 && n.Content != -1:
			c.tally["a template that is a host"]++
		case n.Shadow != -1 && w.isChosen(n.Shadow, o) && len(w.nodes[n.Shadow].Kids) > 0:
			c.tally["a root that is chosen"]++
		case n.Shadow != -1 && len(w.nodes[n.Shadow].Kids) > 0:
			c.tally["a root that is not chosen"]++
		case n.Kind == api.Text && n.Up >= 0 && isOf(raws, w.nodes[n.Up]):
			c.tally["a raw text"]++
		case n.Content != -1 && len(n.Kids) > 0 && len(w.nodes[n.Content].Kids) > 0:
			c.tally["a template with both"]++
		}
	}
}

// holdNoTrace holds the texts of all nodes to those behind changes that no chosen root is touched by: roots that are not chosen are changed, and there are more of them.
func (c *calls) holdNoTrace(t *testing.T, d *dom.Doc, o api.Options) {
	t.Helper()
	// A root that is new is to be none of those that are asked for.
	o.Roots = slices.DeleteFunc(o.Roots, func(i int) bool { return i >= d.Len() })
	e := withRoom(d)
	within := withinUnchosen(tell(d), o)
	for i := range d.Len() {
		if n, _ := d.Node(i); n.Kind == api.Shadow && within[i] && c.pick(2) == 0 {
			text, _ := e.Make(api.Node{Kind: api.Text, Data: "trace"})
			e.Insert(i, text, -1)
			if len(n.Kids) > 0 {
				e.Remove(n.Kids[0])
			}
		}
		f := c.flags()
		f.Serializable = f.Serializable && !o.Serializable
		if root, err := e.Root(i, f); err == api.OK {
			text, _ := e.Make(api.Node{Kind: api.Text, Data: "trace"})
			e.Insert(root, text, -1)
			c.tally["a new root"]++
		}
	}
	for i := range d.Len() {
		if within[i] {
			continue
		}
		if a, b := serial.Inner(d, i, o), serial.Inner(e, i, o); a != b {
			t.Fatalf("Inner(%d, %v) has a trace:\n%q\n%q", i, o, a, b)
		}
		if a, b := serial.Outer(d, i, o), serial.Outer(e, i, o); a != b || strings.Contains(b, "trace") {
			t.Fatalf("Outer(%d, %v) has a trace:\n%q\n%q", i, o, a, b)
		}
	}
}

// withRoom is the same document with the greatest limit: node by node, for the limit of one that is there stays.
func withRoom(d *dom.Doc) *dom.Doc {
	e := dom.New(api.MaxItems)
	for i := 1; i < d.Len(); i++ {
		n, _ := d.Node(i)
		switch {
		case n.Kind == api.Shadow:
			e.Root(n.Host, n.Flags)
		case n.Kind != api.Fragment || n.Host == -1:
			e.Make(n)
		}
	}
	for i := range d.Len() {
		n, _ := d.Node(i)
		for _, k := range n.Kids {
			e.Insert(i, k, -1)
		}
	}
	return e
}

// withinUnchosen says of each node whether it is a shadow root that is not chosen, or is in one.
func withinUnchosen(w told, o api.Options) []bool {
	out := make([]bool, len(w.nodes))
	for i := range w.nodes {
		for k := i; k >= 0; {
			n := w.nodes[k]
			if n.Kind == api.Shadow && !w.isChosen(k, o) {
				out[i] = true
			}
			k = max(n.Up, n.Host)
		}
	}
	return out
}

func TestRandomCalls(t *testing.T) {
	r := rand.New(rand.NewSource(16))
	tally := map[string]int{}
	for range 1500 {
		b := make([]byte, 20+r.Intn(600))
		r.Read(b)
		(&calls{b, tally}).run(t)
	}
	for _, what := range []string{"a void host", "a raw host", "a template that is a host", "a root that is chosen", "a root that is not chosen", "a raw text", "a template with both", "a new root"} {
		if tally[what] < 100 {
			t.Errorf("too few of one sort: %s %d", what, tally[what])
		}
	}
}

func FuzzSerial(f *testing.F) {
	r := rand.New(rand.NewSource(1016))
	for n := range 20 {
		b := make([]byte, 40*n)
		r.Read(b)
		f.Add(b)
	}
	f.Fuzz(func(t *testing.T, b []byte) {
		if len(b) > 2000 {
			return
		}
		(&calls{b, map[string]int{}}).run(t)
	})
}

package clone_test

import (
	"math/rand"
	"testing"

	"portiere/api"
	"portiere/build"
	"portiere/dom"
)

// calls reads calls from bytes, so that random ones and those of the fuzzer are the same.
type calls struct {
	b     []byte
	tally map[string]int
}

func (c *calls) pick(n int) int {
	if len(c.b) == 0 {
		return 0
	}
	x := int(c.b[0])
	c.b = c.b[1:]
	return x % n
}

func one[T any](c *calls, l ...T) T { return l[c.pick(len(l))] }

// number is mostly one of a node, late ones as often as all.
func (c *calls) number(d *dom.Doc) int {
	switch c.pick(40) {
	case 0:
		return one(c, -1, d.Len(), d.Len()+1, -1000)
	case 1:
		return 0
	}
	if c.pick(2) == 0 {
		return d.Len() - 1 - c.pick(min(d.Len(), 12))
	}
	return c.pick(d.Len())
}

// holder is one in which a node is to be put: mostly of the first ones, so that some have many.
func (c *calls) holder(d *dom.Doc) int {
	if c.pick(4) == 0 {
		return c.number(d)
	}
	return c.pick(min(d.Len(), 8))
}

func (c *calls) node() api.Node {
	switch c.pick(8) {
	case 0, 1:
		return api.Node{Kind: api.Text, Data: one(c, "", "a", "b")}
	case 2:
		return api.Node{Kind: one(c, api.Comment, api.Fragment, api.Doctype)}
	case 3, 4:
		return api.Node{Kind: api.Element, Name: "template"}
	}
	n := api.Node{Kind: api.Element, Name: one(c, "div", "x-a", "slot", "b", "br")}
	if c.pick(2) == 0 {
		n.Attrs = []api.Attr{{Name: "id", Value: one(c, "a", "")}}
	}
	return n
}

func (c *calls) flags() api.Flags {
	return api.Flags{Closed: c.pick(2) == 0, Manual: c.pick(2) == 0, Delegates: c.pick(2) == 0, Serializable: c.pick(2) == 0, Clonable: c.pick(3) > 0}
}

func (c *calls) text() string {
	s := ""
	for range c.pick(12) {
		s += one(c, "<div>", "<x-a>", "<b>", "</div>", "</x-a>", "</template>", "<template>", "<slot></slot>", "a", "<!--x-->", other, clonable, "<div>"+clonable, "<x-a>"+clonable, "<p>"+other)
	}
	return s
}

// play copies a node, or does something else to the document; some calls are refused.
func (c *calls) play(t *testing.T, d *dom.Doc) {
	switch c.pick(12) {
	case 0, 1, 2:
		c.copy(t, d)
	case 3, 4:
		if i, err := d.Make(c.node()); err == api.OK {
			d.Insert(c.holder(d), i, -1)
		}
	case 5, 6:
		d.Root(c.holder(d), c.flags())
	case 7, 8:
		d.Insert(c.holder(d), c.number(d), one(c, -1, -1, c.number(d)))
	case 9:
		d.Set(c.number(d), one(c, "id", "slot", "name"), one(c, "", "a"))
		d.Drop(c.number(d), one(c, "id", "slot"))
		d.Write(c.number(d), one(c, "", "z"))
	case 10:
		d.Give(c.number(d), []int{c.number(d), c.number(d)})
	case 11:
		if i, _, err := build.Parse(d, c.text(), true); err == api.OK {
			d.Insert(c.holder(d), i, -1)
		}
	}
}

func (c *calls) copy(t *testing.T, d *dom.Doc) {
	i, deep, ahead := one(c, c.number(d), c.holder(d)), c.pick(3) > 0, d.Len()
	at, err := copied(t, d, i, deep)
	c.tally[err.Error()]++
	if err != api.OK {
		return
	}
	n, _ := d.Node(at)
	if n.Shadow != -1 && !deep {
		c.tally["a shadow root of one that is not deep"]++
	}
	for k := ahead; k < d.Len(); k++ {
		c.count(d, k)
	}
	if c.pick(2) == 0 {
		d.Insert(c.number(d), at, -1)
	}
}

// count counts what has come of it.
func (c *calls) count(d *dom.Doc, k int) {
	n, _ := d.Node(k)
	switch {
	case n.Kind == api.Shadow && len(n.Kids) > 0:
		c.tally["a shadow root with something in it"]++
		if host, _ := d.Node(n.Host); host.Up != -1 {
			c.tally["a shadow root within"]++
		}
	case n.Kind == api.Fragment && n.Host != -1 && len(n.Kids) > 0:
		c.tally["a content with something in it"]++
	case n.Content != -1 && n.Shadow != -1:
		c.tally["a template that is a host"]++
	case n.Kind == api.Element && len(n.Kids) > 2:
		c.tally["an element with many"]++
	}
}

func (c *calls) run(t *testing.T) {
	d := dom.New(1 + one(c, 5, 20, 60, 200))
	for len(c.b) > 0 {
		c.play(t, d)
	}
}

func TestRandomCalls(t *testing.T) {
	r := rand.New(rand.NewSource(15))
	tally := map[string]int{}
	for range 3000 {
		b := make([]byte, 20+r.Intn(600))
		r.Read(b)
		(&calls{b, tally}).run(t)
	}
	for _, what := range []string{"portiere 0", "portiere 3", "portiere 80", "portiere 81", "a shadow root of one that is not deep", "a shadow root with something in it", "a shadow root within", "a content with something in it", "a template that is a host", "an element with many"} {
		if tally[what] < 100 {
			t.Errorf("too few of one sort: %s %d", what, tally[what])
		}
	}
}

func FuzzClone(f *testing.F) {
	r := rand.New(rand.NewSource(1015))
	for n := range 20 {
		b := make([]byte, 40*n)
		r.Read(b)
		f.Add(b)
	}
	f.Fuzz(func(t *testing.T, b []byte) {
		if len(b) > 2000 {
			return
		}
		(&calls{b, map[string]int{}}).run(t)
	})
}

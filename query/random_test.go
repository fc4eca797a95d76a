package query_test

import (
	"math/rand"
	"strings"
	"testing"

	"portiere/api"
	"portiere/build"
	"portiere/dom"
	"portiere/query"
)

// calls reads calls from bytes, so that random ones and those of the fuzzer are the same.
type calls struct {
	b     []byte
	tally map[string]int
}

func (c *calls) pick(n int) int {
	if len(c.b) == 0 {
		return 0
	}
	x := int(c.b[0])
	c.b = c.b[1:]
	return x % n
}

func one[T any](c *calls, l ...T) T { return l[c.pick(len(l))] }

func (c *calls) value() string { return one(c, "", "a", "a", "b", "div", "*", "a b", "\x00", "\xff") }

func (c *calls) node() api.Node {
	switch c.pick(10) {
	case 0:
		return api.Node{Kind: one(c, api.Text, api.Comment), Data: one(c, "", "a", "div", "*")}
	case 1:
		return api.Node{Kind: api.Doctype, Name: one(c, "", "html", "div")}
	case 2:
		return api.Node{Kind: api.Fragment}
	}
	n := api.Node{Kind: api.Element, Name: one(c, "div", "div", "b", "x-a", "html", "slot", "template", "br")}
	for _, name := range []string{"x", "id", "*"} {
		if c.pick(3) == 0 {
			n.Attrs = append(n.Attrs, attr(name, c.value()))
		}
	}
	return n
}

// play makes a node, or does something to one; many calls are refused.
func (c *calls) play(d *dom.Doc) {
	switch c.pick(12) {
	case 0, 1, 2:
		d.Make(c.node())
	case 3:
		d.Root(c.pick(d.Len()), api.Flags{Closed: c.pick(2) == 0})
	case 4:
		d.Remove(c.pick(d.Len()))
	case 5:
		d.Give(c.pick(d.Len()), []int{c.pick(d.Len())})
	case 6:
		d.Set(c.pick(d.Len()), one(c, "id", "x", "*"), c.value())
	case 7:
		d.Drop(c.pick(d.Len()), one(c, "id", "x", "*"))
	case 8:
		if i, _, err := build.Parse(d, one(c, "<div id=a><b x=a id=a></b></div>", "<x-a id=b><template shadowrootmode=open><slot id=b></slot></template></x-a>", "<template><b id=a></b></template>", "<b id>a"), true); err == api.OK {
			d.Insert(c.pick(d.Len()), i, -1)
		}
	default:
		up, before := c.pick(d.Len()), -1
		if n, _ := d.Node(up); len(n.Kids) > 0 {
			before = one(c, n.Kids...)
		}
		d.Insert(up, c.pick(d.Len()), before)
	}
}

// count counts what is found, so that too few of one sort are seen.
func (c *calls) count(d *dom.Doc) {
	for i := range d.Len() {
		if l := query.ByAttr(d, i, "id", "a"); len(l) > 0 {
			c.tally["by id"]++
			if len(l) > 1 && l[0] > l[1] {
				c.tally["by id, not by number"]++
			}
		}
		if l := query.ByAttr(d, i, "id", ""); len(l) > 0 {
			c.tally["by an empty value"]++
		}
		if l := query.ByName(d, i, "div"); len(l) > 1 {
			c.tally["by name"]++
		}
		if k := query.Closest(d, i, "div"); k != i && k != -1 {
			c.tally["closest"]++
		}
	}
}

func (c *calls) run(t *testing.T) {
	d := dom.New(1 + c.pick(40))
	for range c.pick(30) {
		if i, err := d.Make(c.node()); err == api.OK {
			d.Insert(c.pick(d.Len()), i, -1)
		}
	}
	for n := 1; len(c.b) > 0; n++ {
		c.play(d)
		if n%20 == 0 {
			hold(t, d)
			c.count(d)
		}
	}
	hold(t, d)
	c.count(d)
}

func TestRandomDocuments(t *testing.T) {
	r := rand.New(rand.NewSource(18))
	tally := map[string]int{}
	for range 800 {
		b := make([]byte, 20+r.Intn(600))
		r.Read(b)
		(&calls{b, tally}).run(t)
	}
	var few []string
	for _, what := range []string{"by id", "by id, not by number", "by an empty value", "by name", "closest"} {
		if tally[what] < 100 {
			few = append(few, what)
		}
	}
	if len(few) > 0 {
		t.Errorf("too few of some sorts: %s; %v", strings.Join(few, ", "), tally)
	}
}

func FuzzQuery(f *testing.F) {
	r := rand.New(rand.NewSource(1018))
	for n := range 20 {
		b := make([]byte, 40*n)
		r.Read(b)
		f.Add(b)
	}
	f.Fuzz(func(t *testing.T, b []byte) {
		if len(b) < 2000 {
			(&calls{b, map[string]int{}}).run(t)
		}
	})
}

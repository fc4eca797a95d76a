package build_test

import (
	"math/rand"
	"testing"

	"portiere/api"
	"portiere/dom"
)

// calls reads calls from bytes, so that random ones and those of the fuzzer are the same.
type calls struct {
	b     []byte
	tally map[string]int
}

func (c *calls) pick(n int) int {
	if len(c.b) == 0 {
		return 0
	}
	x := int(c.b[0])
	c.b = c.b[1:]
	return x % n
}

func one[T any](c *calls, l ...T) T { return l[c.pick(len(l))] }

func (c *calls) attributes() []api.Attr {
	var out []api.Attr
	if c.pick(3) > 0 {
		out = append(out, api.Attr{Name: "shadowrootmode", Value: one(c, "open", "closed", "Open", "CLOSED", "", "auto")})
	}
	for _, name := range []string{"shadowrootdelegatesfocus", "shadowrootserializable", "shadowrootclonable", "id"} {
		if c.pick(4) == 0 {
			out = append(out, api.Attr{Name: name, Value: one(c, "", "false")})
		}
	}
	if c.pick(3) == 0 {
		out = append(out, api.Attr{Name: "shadowrootslotassignment", Value: one(c, "manual", "Manual", "named", "")})
	}
	if c.pick(30) == 0 {
		out = append(out, api.Attr{Name: one(c, "id", "A"), Value: "x"})
	}
	return out
}

func (c *calls) item() api.Item {
	switch c.pick(12) {
	case 0, 1:
		return text(0, one(c, "a", "b", "c", "\x00", "<", "a", "a", ""))
	case 2:
		return api.Item{Kind: api.Comment, Data: one(c, "", "x")}
	case 3, 4, 5:
		return element(0, one(c, "div", "p", "x-a", "section"))
	case 6:
		return element(0, one(c, "a", "b", "slot", "br", "font-face"), c.attributes()...)
	case 7:
		if c.pick(8) == 0 {
			return api.Item{Kind: one(c, api.Fragment, api.Shadow, 0, 7, api.Doctype), Name: one(c, "", "template")}
		}
		return element(0, "template")
	}
	return element(0, "template", c.attributes()...)
}

// items are mostly sound: each is within the one ahead, beside it, or higher.
func (c *calls) items() []api.Item {
	var out []api.Item
	if c.pick(6) == 0 {
		out = append(out, api.Item{Kind: api.Doctype, Name: one(c, "html", "div", "template")})
	}
	deepest := 0
	for range c.pick(24) {
		item := c.item()
		item.Deep = deepest - min(deepest, one(c, 0, 0, 0, 0, 0, 1, 1, 2, 3))
		if c.pick(200) == 0 {
			item.Deep = one(c, -1, deepest+1)
		}
		deepest = max(item.Deep, 0)
		if item.Kind == api.Element && item.Name != "br" {
			deepest++
		}
		out = append(out, item)
	}
	return out
}

func (c *calls) text() string {
	s := ""
	for range c.pick(20) {
		s += one(c, "<div>", "<x-a>", "<p>", "<b>", "</div>", "</x-a>", "</p>", "</template>", "</template>", "<template>", "<slot></slot>", "a", "&lt", "<!--x-->", "<", "\x00", "<template shadowroot",
			"<template shadowrootmode=open>", "<template shadowrootmode=closed>", "<div><template shadowrootmode=Open shadowrootclonable>", "<x-a><template shadowrootmode=CLOSED shadowrootslotassignment=manual shadowrootserializable>")
	}
	return s
}

// play builds, or does something else to the document; many calls are refused.
func (c *calls) play(t *testing.T, d *dom.Doc) {
	shadows := c.pick(4) > 0
	switch c.pick(8) {
	case 0, 1, 2:
		_, err := lay(t, d, c.items(), shadows)
		c.tally["lay "+err.Error()]++
	case 3, 4:
		_, faults, err := parse(t, d, c.text(), shadows)
		c.tally["parse "+err.Error()]++
		if len(faults) > 0 {
			c.tally["faults"]++
		}
	case 5:
		d.Insert(c.pick(d.Len()), c.pick(d.Len()), -1)
	case 6:
		d.Root(c.pick(d.Len()), api.Flags{})
	case 7:
		d.Give(c.pick(d.Len()), []int{c.pick(d.Len())})
	}
}

// count counts what has come of it.
func (c *calls) count(d *dom.Doc) {
	for i := range d.Len() {
		switch n, _ := d.Node(i); {
		case n.Kind == api.Shadow:
			c.tally["root"]++
			if n.Flags.Closed && n.Flags.Manual || n.Flags.Serializable && n.Flags.Clonable {
				c.tally["flags"]++
			}
			if up, _ := d.Node(n.Host); up.Up != -1 {
				above, _ := d.Node(up.Up)
				if above.Kind == api.Shadow {
					c.tally["root in root"]++
				}
			}
		case n.Content != -1 && len(n.Attrs) > 0:
			c.tally["template"]++
		}
	}
}

func (c *calls) run(t *testing.T) {
	d := dom.New(1 + one(c, 5, 20, 60, 200))
	for len(c.b) > 0 {
		c.play(t, d)
	}
	c.count(d)
}

func TestRandomCalls(t *testing.T) {
	r := rand.New(rand.NewSource(14))
	tally := map[string]int{}
	for range 2000 {
		b := make([]byte, 20+r.Intn(800))
		r.Read(b)
		(&calls{b, tally}).run(t)
	}
	for _, what := range []string{"lay portiere 0", "lay portiere 1", "lay portiere 3", "parse portiere 0", "parse portiere 3", "faults", "root", "flags", "root in root", "template"} {
		if tally[what] < 100 {
			t.Errorf("too few of one sort: %s %d", what, tally[what])
		}
	}
}

func FuzzNodes(f *testing.F) {
	r := rand.New(rand.NewSource(1014))
	for n := range 20 {
		b := make([]byte, 40*n)
		r.Read(b)
		f.Add(b, "<div><template shadowrootmode=open>a</template>b")
	}
	f.Fuzz(func(t *testing.T, b []byte, s string) {
		if len(b) > 2000 || len(s) > 2000 {
			return
		}
		(&calls{b, map[string]int{}}).run(t)
		parse(t, dom.New(50), s, true)
		parse(t, dom.New(50), s, false)
	})
}

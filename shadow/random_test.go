package shadow_test

import (
	"math/rand"
	"testing"

	"portiere/api"
	"portiere/dom"
)

// calls reads calls from bytes, so that random ones and those of the fuzzer are the same.
type calls struct {
	b []byte
}

func (c *calls) pick(n int) int {
	if len(c.b) == 0 {
		return 0
	}
	x := int(c.b[0])
	c.b = c.b[1:]
	return x % n
}

func one[T any](c *calls, l ...T) T { return l[c.pick(len(l))] }

func (c *calls) flags() api.Flags {
	k := c.pick(32)
	return api.Flags{Closed: k&1 != 0, Manual: k&2 != 0, Delegates: k&4 != 0, Serializable: k&8 != 0, Clonable: k&16 != 0}
}

func (c *calls) element(d *dom.Doc) {
	d.Make(api.Node{Kind: api.Element, Name: one(c, "div", "div", "p", "x-a", "font-face", "slot", "template", "br")})
}

// play makes a node, moves one, or attaches a shadow root; many calls are refused.
func (c *calls) play(t *testing.T, d *dom.Doc) {
	switch c.pick(10) {
	case 0:
		kind := one(c, api.Text, api.Comment, api.Fragment, api.Doctype)
		name := ""
		if kind == api.Doctype {
			name = one(c, "html", "div")
		}
		d.Make(api.Node{Kind: kind, Name: name})
	case 1, 2:
		c.element(d)
	case 3:
		d.Root(c.pick(d.Len()), c.flags())
	case 4:
		d.Remove(c.pick(d.Len()))
	case 5:
		d.Give(c.pick(d.Len()), []int{c.pick(d.Len())})
	case 6, 7:
		attach(t, d, c.pick(d.Len()+2)-1, c.flags())
	default:
		d.Insert(c.pick(d.Len()), c.pick(d.Len()), -1)
	}
}

func (c *calls) run(t *testing.T) {
	d := dom.New(1 + c.pick(40))
	for range c.pick(20) {
		c.element(d)
	}
	for len(c.b) > 0 {
		c.play(t, d)
		hold(t, d)
	}
}

func TestRandomDocuments(t *testing.T) {
	r := rand.New(rand.NewSource(10))
	for range 400 {
		b := make([]byte, 20+r.Intn(600))
		r.Read(b)
		(&calls{b}).run(t)
	}
}

func FuzzShadow(f *testing.F) {
	r := rand.New(rand.NewSource(1010))
	for n := range 20 {
		b := make([]byte, 40*n)
		r.Read(b)
		f.Add(b)
	}
	f.Fuzz(func(t *testing.T, b []byte) {
		if len(b) < 2000 {
			(&calls{b}).run(t)
		}
	})
}

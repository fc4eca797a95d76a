package order_test

import (
	"math/rand"
	"testing"

	"portiere/api"
	"portiere/dom"
)

// calls reads calls from bytes, so that random ones and those of the fuzzer are the same.
type calls struct {
	b []byte
}

func (c *calls) pick(n int) int {
	if len(c.b) == 0 {
		return 0
	}
	x := int(c.b[0])
	c.b = c.b[1:]
	return x % n
}

func one[T any](c *calls, l ...T) T { return l[c.pick(len(l))] }

// play makes a node, or moves one; many calls are refused.
func (c *calls) play(d *dom.Doc) {
	switch c.pick(10) {
	case 0:
		d.Make(api.Node{Kind: one(c, api.Text, api.Comment, api.Fragment, api.Doctype)})
	case 1, 2:
		d.Make(api.Node{Kind: api.Element, Name: one(c, "div", "div", "slot", "template", "br")})
	case 3:
		d.Root(c.pick(d.Len()), api.Flags{})
	case 4:
		d.Remove(c.pick(d.Len()))
	case 5:
		d.Give(c.pick(d.Len()), []int{c.pick(d.Len())})
	case 6, 7:
		d.Insert(c.pick(d.Len()), c.pick(d.Len()), -1)
	default:
		up := c.pick(d.Len())
		before := -1
		if n, _ := d.Node(up); len(n.Kids) > 0 {
			before = one(c, n.Kids...)
		}
		d.Insert(up, c.pick(d.Len()), before)
	}
}

func (c *calls) run(t *testing.T) {
	d := dom.New(1 + c.pick(40))
	for range c.pick(30) {
		d.Make(api.Node{Kind: api.Element, Name: one(c, "div", "div", "slot", "template")})
	}
	for n := 1; len(c.b) > 0; n++ {
		c.play(d)
		if n%20 == 0 {
			hold(t, d)
		}
	}
	hold(t, d)
}

func TestRandomDocuments(t *testing.T) {
	r := rand.New(rand.NewSource(9))
	for range 400 {
		b := make([]byte, 20+r.Intn(600))
		r.Read(b)
		(&calls{b}).run(t)
	}
}

func FuzzOrder(f *testing.F) {
	r := rand.New(rand.NewSource(99))
	for n := range 20 {
		b := make([]byte, 40*n)
		r.Read(b)
		f.Add(b)
	}
	f.Fuzz(func(t *testing.T, b []byte) {
		if len(b) < 2000 {
			(&calls{b}).run(t)
		}
	})
}

package dom_test

import (
	"math/rand"
	"strings"
	"testing"

	"portiere/api"
)

// calls reads calls from bytes, so that random ones and those of the fuzzer are the same.
type calls struct {
	b []byte
}

func (c *calls) pick(n int) int {
	if len(c.b) == 0 {
		return 0
	}
	x := int(c.b[0])
	c.b = c.b[1:]
	return x % n
}

func one[T any](c *calls, l ...T) T { return l[c.pick(len(l))] }

// node is a number that is there, mostly.
func (c *calls) node(p *pair) int { return c.pick(p.d.Len()+3) - 1 }

func (c *calls) text() string {
	return one(c, "", "x", "y z", "\x00", strings.Repeat("v", 2001))
}

func (c *calls) name() string {
	return one(c, "a", "b", "id", "A", "", "x-y", "x y")
}

func (c *calls) made() api.Node {
	n := api.Node{Kind: one[uint8](c, 1, 1, 1, 1, 2, 2, 3, 4, 4, 5, 6, 0, 7)}
	switch n.Kind {
	case api.Element:
		n.Name = one(c, "div", "div", "b", "template", "template", "slot", "slot", "br", "Div", "")
	case api.Text, api.Comment:
		n.Data = c.text()
	}
	if c.pick(8) == 0 {
		n.Name, n.Data = one(c, "x", n.Name), one(c, "x", n.Data)
	}
	for range one(c, 0, 0, 0, 1, 2) {
		n.Attrs = append(n.Attrs, api.Attr{Name: c.name(), Value: c.text()})
	}
	return n
}

func (c *calls) play(p *pair) {
	switch c.pick(14) {
	case 0, 1:
		p.make(c.made())
	case 2:
		p.root(c.node(p), api.Flags{Closed: c.pick(2) == 0, Manual: c.pick(2) == 0})
	case 3, 4, 5, 6:
		p.insert(c.node(p), c.node(p), -1)
	case 7, 8:
		p.insert(c.near(p))
	case 9:
		p.remove(c.node(p))
	case 10:
		p.set(c.node(p), c.name(), c.text())
	case 11:
		p.drop(c.node(p), c.name())
	case 12:
		p.write(c.node(p), c.text())
	case 13:
		var l []int
		for range c.pick(6) {
			l = append(l, c.node(p))
		}
		p.give(c.node(p), l...)
	}
}

// near is a place ahead of something, mostly of what is in up.
func (c *calls) near(p *pair) (up, i, before int) {
	up, i, before = c.node(p), c.node(p), c.node(p)
	if n, _ := p.d.Node(up); len(n.Kids) > 0 && c.pick(5) > 0 {
		before = one(c, n.Kids...)
	}
	return up, i, before
}

// begin makes enough of a document for calls to be more than refused.
func (c *calls) begin(t *testing.T) *pair {
	if c.pick(3) == 0 {
		return everything(t)
	}
	p := newPair(t, 1+c.pick(24))
	for range c.pick(10) {
		p.make(api.Node{Kind: api.Element, Name: one(c, "div", "slot", "template", "b")})
		p.make(api.Node{Kind: api.Text, Data: "x"})
	}
	return p
}

// holdShape holds what the chapter says under 'What holds', by what is told alone.
func holdShape(p *pair) {
	p.t.Helper()
	places := map[int]int{}
	for i := range p.d.Len() {
		n, _ := p.d.Node(i)
		for _, kid := range n.Kids {
			k, _ := p.d.Node(kid)
			places[kid]++
			if k.Up != i || places[kid] > 1 {
				p.t.Fatalf("%d is in %d, and in %d", kid, i, k.Up)
			}
		}
		steps := 0
		for at := i; at != -1; steps++ {
			n, _ := p.d.Node(at)
			at = n.Up
			if at == -1 {
				at = n.Host
			}
			if steps > p.d.Len() {
				p.t.Fatalf("%d is within itself", i)
			}
		}
	}
}

// run plays all calls, and holds a copy that was made between to what it was.
func (c *calls) run(t *testing.T) {
	p := c.begin(t)
	q := p.copied()
	for n := 0; len(c.b) > 0; n++ {
		c.play(p)
		if n%16 == 15 {
			q.hold("the copy")
			q = p.copied()
			if c.pick(2) == 0 {
				p, q = q, p
			}
		}
	}
	q.hold("the copy")
	holdShape(p)
}

func TestRandomCalls(t *testing.T) {
	r := rand.New(rand.NewSource(8))
	for range 4000 {
		b := make([]byte, 50+r.Intn(400))
		r.Read(b)
		(&calls{b}).run(t)
	}
}

func FuzzCalls(f *testing.F) {
	r := rand.New(rand.NewSource(88))
	for n := range 20 {
		b := make([]byte, 20*n)
		r.Read(b)
		f.Add(b)
	}
	f.Fuzz(func(t *testing.T, b []byte) {
		if len(b) < 2000 {
			(&calls{b}).run(t)
		}
	})
}

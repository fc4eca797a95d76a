package flat_test

import (
	"math/rand"
	"testing"

	"portiere/api"
	"portiere/dom"
)

// calls reads calls from bytes, so that random ones and those of the fuzzer are the same.
type calls struct {
	b []byte
}

func (c *calls) pick(n int) int {
	if len(c.b) == 0 {
		return 0
	}
	x := int(c.b[0])
	c.b = c.b[1:]
	return x % n
}

func one[T any](c *calls, l ...T) T { return l[c.pick(len(l))] }

// next is the first node of that kind from one on; that one, if there is none.
func next(d *dom.Doc, from int, is func(n api.Node) bool) int {
	for k := range d.Len() {
		i := (from + k) % d.Len()
		if n, _ := d.Node(i); is(n) {
			return i
		}
	}
	return from
}

func (c *calls) sought(d *dom.Doc, is func(n api.Node) bool) int { return next(d, c.pick(d.Len()), is) }

func isHost(n api.Node) bool { return n.Kind == api.Element && n.Shadow != -1 }
func isRoot(n api.Node) bool { return n.Kind == api.Shadow }
func isSlot(n api.Node) bool { return n.Kind == api.Element && n.Name == "slot" }
func isInHost(d *dom.Doc) func(n api.Node) bool {
	return func(n api.Node) bool {
		up, _ := d.Node(n.Up)
		return n.Kind <= api.Text && isHost(up)
	}
}

// isInRoot is of hosts in shadow roots: a slot that is put into one may show something, and be shown.
func isInRoot(d *dom.Doc) func(n api.Node) bool {
	return func(n api.Node) bool {
		up, _ := d.Node(n.Up)
		return isHost(n) && isRoot(up)
	}
}

// host is a new one, in a place where it is seen, mostly.
func (c *calls) host(d *dom.Doc) {
	i, err := d.Make(api.Node{Kind: api.Element, Name: one(c, "div", "div", "div", "div", "div", "div", "slot", "template")})
	if err != api.OK {
		return
	}
	d.Root(i, api.Flags{Manual: c.pick(3) == 0, Closed: c.pick(2) == 0})
	d.Insert(one(c, 0, c.sought(d, isRoot), c.sought(d, isHost), c.pick(d.Len())), i, -1)
}

// named sets or drops that by which a slot is named, or asked for; a slot may ask, too.
func (c *calls) named(d *dom.Doc) {
	i, name := c.sought(d, isSlot), one(c, "name", "name", "slot")
	if c.pick(2) == 0 {
		i, name = c.sought(d, isInHost(d)), "slot"
	}
	if c.pick(2) == 0 {
		d.Drop(i, name)
		return
	}
	d.Set(i, name, one(c, "", "a", "b"))
}

func (c *calls) give(d *dom.Doc) {
	var l []int
	for range c.pick(5) {
		l = append(l, c.sought(d, isInHost(d)))
	}
	d.Give(c.sought(d, isSlot), l)
}

// put puts slots into shadow roots, or anything into hosts, slots, or anything.
func (c *calls) put(d *dom.Doc) {
	up, i := c.sought(d, isHost), c.pick(d.Len())
	switch c.pick(8) {
	case 0, 1:
		up, i = c.sought(d, isRoot), c.sought(d, isSlot)
	case 2, 3:
		c.through(d)
		return
	case 4:
		up = c.sought(d, isSlot)
	case 5:
		up = c.pick(d.Len())
	}
	before := -1
	if n, _ := d.Node(up); len(n.Kids) > 0 && c.pick(2) == 0 {
		before = one(c, n.Kids...)
	}
	d.Insert(up, i, before)
}

// through puts a slot into a host in a shadow root, something into the outer host, and a slot into the inner shadow root.
func (c *calls) through(d *dom.Doc) {
	inner := c.sought(d, isInRoot(d))
	in, _ := d.Node(inner)
	root, _ := d.Node(in.Up)
	d.Insert(inner, c.sought(d, isSlot), -1)
	if isRoot(root) {
		d.Insert(root.Host, c.pick(d.Len()), -1)
		d.Insert(in.Shadow, c.sought(d, isSlot), -1)
	}
}

func (c *calls) make(d *dom.Doc) {
	if c.pick(3) == 0 {
		d.Make(api.Node{Kind: one(c, api.Text, api.Text, api.Comment, api.Fragment)})
		return
	}
	d.Make(api.Node{Kind: api.Element, Name: one(c, "b", "slot", "slot", "template", "br")})
}

// play changes a document; many calls are refused.
func (c *calls) play(d *dom.Doc) {
	switch c.pick(10) {
	case 0:
		c.make(d)
	case 1:
		d.Remove(one(c, c.sought(d, isSlot), c.pick(d.Len())))
	case 2:
		c.named(d)
	case 3, 4:
		c.give(d)
	case 5:
		if c.pick(3) > 0 {
			c.make(d)
			return
		}
		d.Root(c.pick(d.Len()), api.Flags{Manual: c.pick(2) == 0})
	case 6:
		c.host(d)
	default:
		c.put(d)
	}
}

func (c *calls) run(t *testing.T) tally {
	var seen tally
	d := dom.New(1 + c.pick(60))
	for range c.pick(6) {
		c.host(d)
	}
	for range c.pick(30) {
		c.make(d)
	}
	for n := 1; len(c.b) > 0; n++ {
		c.play(d)
		if n%8 == 0 || len(c.b) == 0 {
			seen.look(hold(t, d))
		}
	}
	hold(t, d)
	return seen
}

// tally is how much of what the chapter speaks of has come up.
type tally struct {
	assigned, byHand, fallback, hidden, through, slotHosts int
}

func (a *tally) look(w words) {
	for i, n := range w.nodes {
		if n.Up != -1 && w.full[n.Up] && !w.isHost(n.Up) {
			a.hidden++
		}
		if !w.isSlot(i) {
			continue
		}
		switch {
		case w.isHost(i) && w.full[i]:
			a.slotHosts++
		case w.full[i] && w.nodes[w.of[i]].Flags.Manual:
			a.byHand++
		case w.full[i]:
			a.assigned++
		case len(n.Kids) > 0:
			a.fallback++
		}
		for k := range w.nodes {
			if w.isAssigned(i, k) && w.full[i] {
				a.through++
			}
		}
	}
}

func (a *tally) add(b tally) {
	a.assigned += b.assigned
	a.byHand += b.byHand
	a.fallback += b.fallback
	a.hidden += b.hidden
	a.through += b.through
	a.slotHosts += b.slotHosts
}

func TestRandomDocuments(t *testing.T) {
	r := rand.New(rand.NewSource(13))
	var seen tally
	for range 600 {
		b := make([]byte, 100+r.Intn(900))
		r.Read(b)
		seen.add((&calls{b}).run(t))
	}
	if seen.assigned < 1000 || seen.byHand < 200 || seen.fallback < 500 || seen.hidden < 500 || seen.through < 100 || seen.slotHosts < 100 {
		t.Errorf("too little has come up: %+v", seen)
	}
}

func FuzzFlat(f *testing.F) {
	r := rand.New(rand.NewSource(1313))
	for n := range 20 {
		b := make([]byte, 60*n)
		r.Read(b)
		f.Add(b)
	}
	f.Fuzz(func(t *testing.T, b []byte) {
		if len(b) < 2000 {
			(&calls{b}).run(t)
		}
	})
}

package slots_test

import (
	"math/rand"
	"testing"

	"portiere/api"
	"portiere/dom"
	"portiere/shadow"
	"portiere/slots"
)

// calls reads calls from bytes, so that random ones and those of the fuzzer are the same.
type calls struct {
	b []byte
}

func (c *calls) pick(n int) int {
	if len(c.b) == 0 {
		return 0
	}
	x := int(c.b[0])
	c.b = c.b[1:]
	return x % n
}

func one[T any](c *calls, l ...T) T { return l[c.pick(len(l))] }

func (c *calls) make(d *dom.Doc) {
	switch c.pick(8) {
	case 0, 1:
		d.Make(api.Node{Kind: api.Text})
	case 2:
		d.Make(api.Node{Kind: one(c, api.Comment, api.Fragment)})
	case 3:
		d.Make(api.Node{Kind: api.Element, Name: one(c, "template", "slots")})
	case 4, 5:
		d.Make(api.Node{Kind: api.Element, Name: "div"})
	default:
		d.Make(api.Node{Kind: api.Element, Name: "slot"})
	}
}

// place is a node, mostly a host or a shadow root, so that these are filled.
func (c *calls) place(d *dom.Doc) int {
	i := c.pick(d.Len())
	if c.pick(4) == 0 {
		return i
	}
	return next(d, i, func(n api.Node) bool { return n.Kind == api.Shadow || n.Kind == api.Element && n.Shadow != -1 })
}

// host is one with a shadow root, in another place.
func (c *calls) host(d *dom.Doc) {
	up := c.place(d)
	i, err := d.Make(api.Node{Kind: api.Element, Name: one(c, "div", "div", "slot")})
	if err != api.OK {
		return
	}
	d.Root(i, api.Flags{Manual: c.pick(3) == 0, Closed: c.pick(2) == 0})
	d.Insert(up, i, -1)
}

// list is some nodes, most of them ones that may be shown in that slot.
func (c *calls) list(d *dom.Doc, slot int) []int {
	r, _ := d.Node(shadow.Of(d, slot))
	h, _ := d.Node(r.Host)
	var out []int
	for range c.pick(5) {
		i := c.pick(d.Len())
		if len(h.Kids) > 0 && c.pick(4) > 0 {
			i = one(c, h.Kids...)
		}
		if n, _ := d.Node(i); n.Kind == api.Element || n.Kind == api.Text || c.pick(16) == 0 {
			out = append(out, i)
		}
	}
	return out
}

// next is the first node of that kind from i on; i, if there is none.
func next(d *dom.Doc, from int, is func(n api.Node) bool) int {
	for k := range d.Len() {
		i := (from + k) % d.Len()
		if n, _ := d.Node(i); is(n) {
			return i
		}
	}
	return from
}

// slot is an element `slot`, if there is one.
func (c *calls) slot(d *dom.Doc) int {
	return next(d, c.pick(d.Len()), func(n api.Node) bool { return n.Kind == api.Element && n.Name == "slot" })
}

// play makes a node, moves one, names one or gives some; many calls are refused.
func (c *calls) play(d *dom.Doc) {
	switch c.pick(12) {
	case 0:
		c.make(d)
	case 1:
		c.host(d)
	case 2:
		d.Root(c.pick(d.Len()), api.Flags{Manual: c.pick(3) == 0})
	case 3:
		d.Remove(c.pick(d.Len()))
	case 4:
		d.Set(c.pick(d.Len()), one(c, "name", "slot"), one(c, "", "a", "a", "A"))
	case 5:
		d.Drop(c.pick(d.Len()), one(c, "name", "slot"))
	case 6, 7:
		slot := c.slot(d)
		d.Give(slot, c.list(d, slot))
	case 8:
		up := c.place(d)
		before := -1
		if n, _ := d.Node(up); len(n.Kids) > 0 {
			before = one(c, n.Kids...)
		}
		d.Insert(up, c.pick(d.Len()), before)
	default:
		d.Insert(c.place(d), c.pick(d.Len()), -1)
	}
}

func (c *calls) run(t *testing.T) tally {
	var seen tally
	d := dom.New(1 + c.pick(60))
	for range c.pick(6) {
		c.host(d)
	}
	for range c.pick(30) {
		c.make(d)
	}
	for n := 1; len(c.b) > 0; n++ {
		c.play(d)
		if n%8 == 0 || len(c.b) == 0 {
			hold(t, d)
			seen.look(d)
		}
	}
	hold(t, d)
	return seen
}

// tally is how much of what the chapter speaks of has come up.
type tally struct {
	assigned, byHand, fallback, through int
}

func (a *tally) look(d *dom.Doc) {
	w := tell(d)
	for s := range w.nodes {
		if !w.isSlot(s) {
			continue
		}
		shown, flat := slots.Assigned(d, s), slots.Flat(d, s)
		switch {
		case len(shown) == 0 && len(flat) > 0:
			a.fallback++
		case len(shown) > 0 && w.nodes[w.of[s]].Flags.Manual:
			a.byHand++
		case len(shown) > 0:
			a.assigned++
		}
		for _, i := range shown {
			if w.isSlot(i) {
				a.through++
			}
		}
	}
}

func (a *tally) add(b tally) {
	a.assigned += b.assigned
	a.byHand += b.byHand
	a.fallback += b.fallback
	a.through += b.through
}

func TestRandomDocuments(t *testing.T) {
	r := rand.New(rand.NewSource(11))
	var seen tally
	for range 800 {
		b := make([]byte, 100+r.Intn(900))
		r.Read(b)
		seen.add((&calls{b}).run(t))
	}
	if seen.assigned < 1000 || seen.byHand < 200 || seen.fallback < 500 || seen.through < 100 {
		t.Errorf("too little has come up: %+v", seen)
	}
}

func FuzzSlots(f *testing.F) {
	r := rand.New(rand.NewSource(1111))
	for n := range 20 {
		b := make([]byte, 60*n)
		r.Read(b)
		f.Add(b)
	}
	f.Fuzz(func(t *testing.T, b []byte) {
		if len(b) < 2000 {
			(&calls{b}).run(t)
		}
	})
}

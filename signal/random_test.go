package signal_test

import (
	"math/rand"
	"testing"

	"portiere/api"
	"portiere/dom"
)

// calls reads calls from bytes, so that random ones and those of the fuzzer are the same.
type calls struct {
	b []byte
}

func (c *calls) pick(n int) int {
	if len(c.b) == 0 {
		return 0
	}
	x := int(c.b[0])
	c.b = c.b[1:]
	return x % n
}

func one[T any](c *calls, l ...T) T { return l[c.pick(len(l))] }

// next is the first node of that kind from one on; that one, if there is none.
func next(d *dom.Doc, from int, is func(n api.Node) bool) int {
	for k := range d.Len() {
		i := (from + k) % d.Len()
		if n, _ := d.Node(i); is(n) {
			return i
		}
	}
	return from
}

func (c *calls) sought(d *dom.Doc, is func(n api.Node) bool) int { return next(d, c.pick(d.Len()), is) }

func isHost(n api.Node) bool { return n.Kind == api.Element && n.Shadow != -1 }
func isRoot(n api.Node) bool { return n.Kind == api.Shadow }
func isSlot(n api.Node) bool { return n.Kind == api.Element && n.Name == "slot" }
func isKid(n api.Node) bool {
	return n.Kind == api.Text || n.Kind == api.Element && n.Name == "b"
}

func (c *calls) host(d *dom.Doc) {
	i, err := d.Make(api.Node{Kind: api.Element, Name: one(c, "div", "div", "slot")})
	if err != api.OK {
		return
	}
	d.Root(i, api.Flags{Manual: c.pick(3) == 0})
	d.Insert(one(c, 0, c.pick(d.Len())), i, -1)
}

// named sets or drops that by which a slot is named, or asked for.
func (c *calls) named(d *dom.Doc) {
	i, name := c.sought(d, isSlot), "name"
	if c.pick(2) == 0 {
		i, name = c.sought(d, isKid), "slot"
	}
	if c.pick(3) == 0 {
		d.Drop(i, name)
		return
	}
	d.Set(i, name, one(c, "", "a", "b"))
}

func (c *calls) give(d *dom.Doc) {
	var l []int
	for range c.pick(4) {
		l = append(l, c.sought(d, isKid))
	}
	d.Give(c.sought(d, isSlot), l)
}

// put puts a node that may be shown into a host, a slot into a shadow root, or anything anywhere.
func (c *calls) put(d *dom.Doc) {
	up, i := c.sought(d, isHost), c.sought(d, isKid)
	switch c.pick(6) {
	case 0, 1:
		up, i = c.sought(d, isRoot), c.sought(d, isSlot)
	case 2:
		up, i = c.pick(d.Len()), c.pick(d.Len())
	}
	before := -1
	if n, _ := d.Node(up); len(n.Kids) > 0 && c.pick(2) == 0 {
		before = one(c, n.Kids...)
	}
	d.Insert(up, i, before)
}

func (c *calls) make(d *dom.Doc) {
	if c.pick(4) == 0 {
		d.Make(api.Node{Kind: one(c, api.Text, api.Text, api.Comment, api.Fragment)})
		return
	}
	d.Make(api.Node{Kind: api.Element, Name: one(c, "b", "slot", "template", "b", "slot")})
}

// play changes a document; many calls are refused.
func (c *calls) play(d *dom.Doc) {
	switch c.pick(9) {
	case 0:
		c.make(d)
	case 1:
		d.Remove(one(c, c.sought(d, isKid), c.sought(d, isSlot), c.pick(d.Len())))
	case 2, 3:
		c.named(d)
	case 4:
		c.give(d)
	case 5:
		d.Root(c.pick(d.Len()), api.Flags{Manual: c.pick(2) == 0})
	default:
		c.put(d)
	}
}

func (c *calls) start() *dom.Doc {
	d := dom.New(1 + c.pick(80))
	for range 1 + c.pick(4) {
		c.host(d)
	}
	for range c.pick(24) {
		c.make(d)
	}
	return d
}

// run changes two documents, the second one seldom, and looks at them.
func (c *calls) run(t *testing.T) *words {
	docs := []*dom.Doc{c.start(), c.start()}
	w := newWatch(t)
	for len(c.b) > 0 {
		d := docs[max(0, c.pick(12)-10)]
		for range c.pick(4) {
			c.play(d)
		}
		w.see(d)
		switch c.pick(8) {
		case 0, 1:
			w.takes(w.w.pending()...)
		case 2:
			docs[1] = docs[0].Copy()
		}
	}
	w.takes(w.w.pending()...)
	return w.w
}

func TestRandomDocuments(t *testing.T) {
	r := rand.New(rand.NewSource(12))
	changes, again := 0, 0
	for range 1000 {
		b := make([]byte, 100+r.Intn(900))
		r.Read(b)
		w := (&calls{b}).run(t)
		changes += w.count
		again += w.again
	}
	if changes < 3000 || again < 2000 {
		t.Errorf("too little has come up: %d slots became pending, %d changed that were", changes, again)
	}
}

func FuzzBoard(f *testing.F) {
	r := rand.New(rand.NewSource(1212))
	for n := range 20 {
		b := make([]byte, 60*n)
		r.Read(b)
		f.Add(b)
	}
	f.Fuzz(func(t *testing.T, b []byte) {
		if len(b) < 2000 {
			(&calls{b}).run(t)
		}
	})
}

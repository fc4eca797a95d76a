package stable_test

import (
	"math/rand"
	"strings"
	"testing"

	"portiere/api"
	"portiere/build"
	"portiere/clone"
	"portiere/dom"
	"portiere/shadow"
)

// calls reads calls from bytes, so that random ones and those of the fuzzer are the same.
type calls struct {
	b     []byte
	tally map[string]int
}

func (c *calls) pick(n int) int {
	if len(c.b) == 0 {
		return 0
	}
	x := int(c.b[0])
	c.b = c.b[1:]
	return x % n
}

func one[T any](c *calls, l ...T) T { return l[c.pick(len(l))] }

func (c *calls) flags() api.Flags {
	return api.Flags{Closed: c.pick(2) == 0, Delegates: c.pick(2) == 0, Serializable: c.pick(2) == 0, Clonable: c.pick(2) == 0}
}

func (c *calls) stableElement() api.Node {
	n := api.Node{Kind: api.Element, Name: one(c, "div", "span", "section", "article", "b", "i", "slot", "slot", "slot", "x-a", "a-._9")}
	if c.pick(2) == 0 {
		n.Attrs = append(n.Attrs, attr("slot", one(c, "", "a", "\u00a0")))
	}
	if c.pick(2) == 0 {
		n.Attrs = append(n.Attrs, attr("name", one(c, "", "a", "\u00a0")))
	}
	if c.pick(4) == 0 {
		n.Attrs = append(n.Attrs, attr(one(c, "id", "<&\"'", "\xff\r", "shadowrootmode"), one(c, "open", "\"'", "&quot;", "<\u00a0>", "\xff\r\n")))
	}
	return n
}

// grow puts random nodes into one, such as leave what it is in stable.
func (c *calls) grow(d *dom.Doc, up, deep int) {
	put := func(n api.Node) int {
		i, err := d.Make(n)
		if err == api.OK {
			d.Insert(up, i, -1)
		}
		return i
	}
	lastIsText := false
	for range c.pick(4) {
		isText := !lastIsText && c.pick(3) == 0
		lastIsText = isText
		switch {
		case isText:
			put(api.Node{Kind: api.Text, Data: one(c, "a", "<b>", "&lt;", "\u00a0", "\"'>", "--!>", "\xff\xc2", " ", "\r\n")})
		case c.pick(6) == 0:
			put(api.Node{Kind: api.Comment, Data: one(c, "", "a", "<b", "&lt;", "\u00a0!", "!")})
		case d.Len() < d.Limit():
			i := put(c.stableElement())
			if c.pick(2) == 0 && deep < 36 {
				if root, err := shadow.Attach(d, i, c.flags()); err == api.OK {
					c.grow(d, root, deep+2)
				}
			}
			if deep < 38 {
				c.grow(d, i, deep+1)
			}
		}
	}
}

// number is mostly one of a node.
func (c *calls) number(d *dom.Doc) int {
	if c.pick(40) == 0 {
		return one(c, -1, d.Len(), d.Len()+1, -1000)
	}
	return (c.pick(256)<<8 | c.pick(256)) % d.Len()
}

func (c *calls) data() string {
	return one(c, "", "a", "-", ">", "\x00", "a\x00b", "<", "\u00a0")
}

func (c *calls) node() api.Node {
	switch c.pick(9) {
	case 0, 1, 2:
		return api.Node{Kind: api.Text, Data: c.data()}
	case 3, 4, 5:
		return api.Node{Kind: api.Comment, Data: c.data()}
	case 6:
		return api.Node{Kind: api.Doctype, Name: one(c, "", "div")}
	}
	n := api.Node{Kind: api.Element, Name: one(c, "div", "x-a", "slot", "template", "p", "font-face", "br")}
	if c.pick(2) == 0 {
		n.Attrs = []api.Attr{attr("id", c.data()), attr("name", c.data())}
	}
	return n
}

// chain puts elements into one another, so many that the last may be too deep.
func (c *calls) chain(d *dom.Doc, up int) {
	for range 30 + c.pick(14) {
		i, err := d.Make(api.Node{Kind: api.Element, Name: "x-a"})
		if err != api.OK || d.Insert(up, i, -1) != api.OK {
			return
		}
		if root, err := d.Root(i, c.flags()); c.pick(20) == 0 && err == api.OK {
			i = root
		}
		up = i
	}
}

// play does something to the document; some calls are refused.
func (c *calls) play(d *dom.Doc) {
	switch c.pick(12) {
	case 0, 1, 2:
		if i, err := d.Make(c.node()); err == api.OK {
			d.Insert(c.number(d), i, one(c, -1, -1, c.number(d)))
		}
	case 3:
		f := c.flags()
		f.Manual = c.pick(2) == 0
		d.Root(c.number(d), f)
	case 4, 5:
		d.Insert(c.number(d), c.number(d), one(c, -1, -1, c.number(d)))
	case 6:
		d.Set(c.number(d), one(c, "id", "slot", "name"), c.data())
	case 7:
		d.Write(c.number(d), c.data())
	case 8:
		d.Remove(c.number(d))
	case 9:
		d.Drop(c.number(d), one(c, "id", "slot", "name"))
		d.Give(c.number(d), []int{c.number(d), c.number(d)})
	case 10:
		if i, err := clone.Clone(d, c.number(d), true); err == api.OK {
			d.Insert(c.number(d), i, -1)
		}
	case 11:
		if c.pick(2) == 0 {
			c.chain(d, c.number(d))
		} else if i, _, err := build.Parse(d, one(c, "<div>"+open+"a<slot></slot>"+end+"b</div>", "<template>a</template>", "<b>a</b>", "a"), true); err == api.OK {
			d.Insert(c.number(d), i, -1)
		}
	}
}

// count counts documents by what is wrong with a node, and with nothing else.
func (c *calls) count(d *dom.Doc, flaws [][]string) {
	for i, l := range flaws {
		if n, _ := d.Node(i); len(l) == 0 && len(n.Kids) > 0 {
			c.tally["stable"]++
		} else if len(l) == 1 {
			c.tally[l[0]]++
		}
	}
}

// holdTwin holds a document against a copy behind one more call: all its nodes one by one, and some of other numbers.
func (c *calls) holdTwin(t *testing.T, d *dom.Doc) {
	t.Helper()
	e := d.Copy()
	c.play(e)
	if c.pick(8) == 0 {
		for range c.pick(4) {
			c.play(e)
		}
	}
	differ := 0
	for range 12 {
		i := c.number(d)
		if !holdSame(t, d, i, e, i) {
			differ++
		}
		if j := c.number(e); holdSame(t, d, i, e, j) && i != j {
			c.tally["same of other numbers"]++
		}
	}
	if n, _ := d.Node(1); holdSame(t, d, 1, e, 1) && len(n.Kids) > 0 {
		c.tally["same"]++
	}
	if differ > 0 {
		c.tally["not same"]++
	}
}

// run grows a stable node with a part of the bytes; with the others it plays on, mostly anew from there, so that what is wrong is often one thing alone.
func (c *calls) run(t *testing.T) {
	rest := c.b[len(c.b)/3:]
	c.b = c.b[:len(c.b)/3]
	d := dom.New(one(c, 30, 80, 200, 400))
	top, _ := d.Make(api.Node{Kind: api.Element, Name: "div"})
	if c.pick(2) == 0 {
		d.Insert(0, top, -1)
	}
	c.grow(d, top, 0)
	c.count(d, holdStable(t, d))
	c.b = rest
	for e := d.Copy(); len(c.b) > 0; {
		if c.pick(3) > 0 {
			e = d.Copy()
		}
		c.play(e)
		c.count(e, holdStable(t, e))
		if c.pick(4) == 0 {
			c.holdTwin(t, e)
		}
	}
}

var sorts = []string{"stable", "same", "same of other numbers", "not same", "no div", "a host", "too deep", "another kind", "another name", "null in a value", "empty text", "null in a text", "text behind text", "comment with -", "comment with >", "null in a comment", "manual"}

func TestRandomCalls(t *testing.T) {
	r := rand.New(rand.NewSource(17))
	tally := map[string]int{}
	for range 2000 {
		b := make([]byte, 20+r.Intn(400))
		r.Read(b)
		(&calls{b, tally}).run(t)
	}
	var few []string
	for _, what := range sorts {
		if tally[what] < 40 {
			few = append(few, what)
		}
	}
	if len(few) > 0 {
		t.Errorf("too few of some sorts: %s; %v", strings.Join(few, ", "), tally)
	}
}

func FuzzStable(f *testing.F) {
	r := rand.New(rand.NewSource(1017))
	for n := range 20 {
		b := make([]byte, 30*n)
		r.Read(b)
		f.Add(b)
	}
	f.Fuzz(func(t *testing.T, b []byte) {
		if len(b) > 1000 {
			return
		}
		c := &calls{b, map[string]int{}}
		c.run(t)
		c.b = b
		c.runBack(t)
	})
}

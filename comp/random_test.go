package comp_test

import (
	"math/rand"
	"testing"

	"portiere/api"
)

// calls reads calls from bytes, so that random ones and those of the fuzzer are the same.
type calls struct {
	*pair
	b     []byte
	tally map[string]int
}

func (c *calls) pick(n int) int {
	if len(c.b) == 0 {
		return 0
	}
	x := int(c.b[0])
	c.b = c.b[1:]
	return x % n
}

func one[T any](c *calls, l ...T) T { return l[c.pick(len(l))] }

// number is mostly one of a node, late ones as often as all.
func (c *calls) number() int {
	n := c.d.Len()
	switch c.pick(40) {
	case 0:
		return one(c, -1, n, n+1, -1000)
	case 1:
		return 0
	}
	if c.pick(2) == 0 {
		return n - 1 - c.pick(min(n, 12))
	}
	return c.pick(n)
}

// sought is the first node of that sort from some one on; that one, if there is none.
func (c *calls) sought(is func(n api.Node) bool) int {
	from := c.pick(c.d.Len())
	for k := range c.d.Len() {
		i := (from + k) % c.d.Len()
		if n, _ := c.d.Node(i); is(n) {
			return i
		}
	}
	return from
}

func isHost(n api.Node) bool { return n.Kind == api.Element && n.Shadow != -1 }
func isRoot(n api.Node) bool { return n.Kind == api.Shadow }
func isSlot(n api.Node) bool { return n.Kind == api.Element && n.Name == "slot" }
func isKid(n api.Node) bool {
	return n.Kind == api.Text || n.Kind == api.Element && n.Name == "b"
}
func isTemplate(n api.Node) bool { return n.Content != -1 }

func (c *calls) holder() int {
	switch c.pick(6) {
	case 0:
		return c.sought(isHost)
	case 1:
		return c.sought(isRoot)
	case 2:
		return c.sought(isTemplate)
	case 3:
		return 0
	}
	return c.number()
}

func (c *calls) kid() int {
	switch c.pick(4) {
	case 0:
		return c.number()
	case 1:
		return c.sought(isSlot)
	}
	return c.sought(isKid)
}

func (c *calls) flags() api.Flags {
	return api.Flags{Closed: c.pick(2) == 0, Manual: c.pick(3) == 0, Delegates: c.pick(2) == 0, Serializable: c.pick(2) == 0, Clonable: c.pick(2) == 0}
}

func (c *calls) text() string {
	s := ""
	for range c.pick(14) {
		s += one(c, "<div>", "<x-a>", "<b>", "<b slot=a>", "</div>", "</x-a>", "</b>", end, "<template>", "<slot>", "<slot name=a></slot>", "</slot>", "a&lt;", "<!--x-->", "</", "&copy", "<br>",
			"<div>"+open, "<x-a>"+kept, "<div>"+byHand, "<p><template shadowrootmode=closed shadowrootclonable>", "<div>"+open+"<slot></slot>"+end, "<x-a>"+byHand+"<slot></slot>"+end+"x")
	}
	return s
}

func (c *calls) node() api.Node {
	switch c.pick(8) {
	case 0, 1:
		return api.Node{Kind: api.Text, Data: one(c, "", "a")}
	case 2:
		return api.Node{Kind: one(c, api.Comment, api.Fragment, api.Doctype, api.Shadow)}
	}
	return api.Node{Kind: api.Element, Name: one(c, "div", "x-a", "b", "b", "slot", "slot", "template", "br", "B")}
}

func (c *calls) options() api.Options {
	o := api.Options{Serializable: c.pick(2) == 0}
	for range c.pick(6) {
		o.Roots = append(o.Roots, one(c, c.number(), c.sought(isRoot)))
	}
	return o
}

// play does one call; many are refused. Each holds all that is behind it to the words.
func (c *calls) play() {
	switch c.pick(20) {
	case 0, 1:
		c.texts("HTML", c.html)
	case 2, 3, 4:
		c.texts("Unsafe", c.unsafe)
	case 5:
		_, err := c.get(c.number(), c.options())
		c.tally["Get "+err.Error()]++
	case 6:
		_, err := c.make(c.node())
		c.tally["Make "+err.Error()]++
	case 7, 8:
		_, err := c.attach(one(c, c.holder(), c.d.Len()-1), c.flags())
		c.tally["Attach "+err.Error()]++
	case 9, 10, 11:
		c.tally["Insert "+c.insert(c.holder(), c.kid(), one(c, -1, -1, c.kid())).Error()]++
	case 12:
		c.tally["Remove "+c.remove(c.kid()).Error()]++
	case 13, 14:
		c.named()
	case 15:
		c.tally["Write "+c.write(c.kid(), one(c, "", "z")).Error()]++
	case 16, 17:
		c.give()
	case 18:
		_, err := c.clone(one(c, c.number(), c.sought(isHost)), c.pick(3) > 0)
		c.tally["Clone "+err.Error()]++
	case 19:
		if len(c.signals()) > 1 {
			c.tally["many signals"]++
		}
	}
}

func (c *calls) texts(name string, call func(int, string) ([]api.Fault, api.Errno)) {
	i := c.holder()
	ahead, _ := c.d.Node(i)
	l, err := call(i, c.text())
	c.tally[name+" "+err.Error()]++
	switch {
	case err != api.OK:
		return
	case len(l) > 0:
		c.tally["faults"]++
	}
	for sort, is := range map[string]bool{"a template": isTemplate(ahead), "a shadow root": isRoot(ahead), "a host": isHost(ahead), "one with many": len(ahead.Kids) > 2} {
		if is {
			c.tally[name+" of "+sort]++
		}
	}
}

// named sets or drops that by which a slot is named, or asked for.
func (c *calls) named() {
	i, name := c.sought(isSlot), "name"
	if c.pick(2) == 0 {
		i, name = c.kid(), "slot"
	}
	if c.pick(3) == 0 {
		c.tally["Drop "+c.drop(i, name).Error()]++
		return
	}
	c.tally["Set "+c.set(i, one(c, name, name, name, ""), one(c, "", "a", "b")).Error()]++
}

func (c *calls) give() {
	var l []int
	for range c.pick(4) {
		l = append(l, c.kid())
	}
	c.tally["Assign "+c.assign(one(c, c.sought(isSlot), c.sought(isSlot), c.number()), l...).Error()]++
}

func run(t *testing.T, b []byte, tally map[string]int) {
	c := &calls{b: b, tally: tally}
	c.pair = newPair(t, 1+one(c, 3, 20, 80, 150, 250))
	// Without it many would have no slot at all.
	c.unsafe(0, c.text()+"<div>"+one(c, open, byHand)+"<slot></slot><slot name=a>"+end+"x<b></b>")
	for len(c.b) > 0 {
		c.play()
	}
	c.signals()
	c.tally["became pending"] += c.count
	c.tally["changed again"] += c.again
}

func TestRandomCalls(t *testing.T) {
	r := rand.New(rand.NewSource(19))
	tally := map[string]int{}
	for range 1200 {
		b := make([]byte, 20+r.Intn(900))
		r.Read(b)
		run(t, b, tally)
	}
	const ok, arg, limit, node, tree, name, host, twice, slot = "portiere 0", "portiere 1", "portiere 3", "portiere 80", "portiere 81", "portiere 82", "portiere 100", "portiere 101", "portiere 110"
	rows := map[string][]string{
		"HTML": {ok, limit, node, tree}, "Unsafe": {ok, limit, node, tree}, "Get": {ok, node},
		"Make": {ok, arg, limit}, "Attach": {ok, limit, node, host, twice}, "Clone": {ok, limit, node, tree},
		"Insert": {ok, node, tree}, "Remove": {ok, node, tree}, "Set": {ok, tree, name, node}, "Drop": {ok, tree, name, node},
		"Write": {ok, node, tree}, "Assign": {ok, node, slot, tree},
		"HTML of": {"a template", "a shadow root", "a host", "one with many"}, "Unsafe of": {"a template", "a shadow root", "a host", "one with many"},
	}
	for what, l := range rows {
		for _, how := range l {
			if tally[what+" "+how] < 10 {
				t.Errorf("too few of one sort: %s %s %d", what, how, tally[what+" "+how])
			}
		}
	}
	for _, what := range []string{"faults", "many signals", "became pending", "changed again"} {
		if tally[what] < 300 {
			t.Errorf("too few of one sort: %s %d", what, tally[what])
		}
	}
}

func FuzzCalls(f *testing.F) {
	r := rand.New(rand.NewSource(1019))
	for n := range 20 {
		b := make([]byte, 60*n)
		r.Read(b)
		f.Add(b)
	}
	f.Fuzz(func(t *testing.T, b []byte) {
		if len(b) < 2000 {
			run(t, b, map[string]int{})
		}
	})
}

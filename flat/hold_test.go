package flat_test

import (
	"cmp"
	"reflect"
	"slices"
	"testing"

	"portiere/api"
	"portiere/dom"
	"portiere/flat"
)

// The chapter's sentences in another way than the program's, and without the layers below it: of any two nodes whether one is shown in the other; what is shown at last comes of a list in which nodes are written out one by one.

// words is all that a document says of itself, and what follows of that.
type words struct {
	nodes []api.Node
	given [][]int
	of    []int  // in which shadow root each is (-1: in none)
	place []int  // which of its tree it is, in order
	first []bool // of a slot: none of its name is ahead of it
	full  []bool // of a slot: nodes of its host are shown in it
}

func tell(d *dom.Doc) words {
	var w words
	for i := range d.Len() {
		n, _ := d.Node(i)
		w.nodes = append(w.nodes, n)
		w.given = append(w.given, d.Given(i))
	}
	w.of, w.place = slices.Repeat([]int{-1}, len(w.nodes)), make([]int, len(w.nodes))
	for i, n := range w.nodes {
		if n.Up == -1 {
			w.number(i)
		}
	}
	for s := range w.nodes {
		ahead := func(k int) bool {
			return w.isSlot(k) && w.of[k] == w.of[s] && w.value(k, "name") == w.value(s, "name") && w.place[k] < w.place[s]
		}
		w.first = append(w.first, w.isSlot(s) && !slices.ContainsFunc(w.all(), ahead))
	}
	for s := range w.nodes {
		shown := func(i int) bool { return w.isAssigned(i, s) }
		w.full = append(w.full, slices.ContainsFunc(w.all(), shown))
	}
	return w
}

// number goes through a tree, the nodes that are still to be seen in hand.
func (w words) number(root int) {
	todo := []int{root}
	for count := 0; len(todo) > 0; count++ {
		i := todo[0]
		todo = append(slices.Clone(w.nodes[i].Kids), todo[1:]...)
		w.place[i] = count
		if w.nodes[root].Kind == 5 {
			w.of[i] = root
		}
	}
}

func (w words) all() []int {
	var out []int
	for i := range w.nodes {
		out = append(out, i)
	}
	return out
}

func (w words) value(i int, name string) string {
	for _, a := range w.nodes[i].Attrs {
		if a.Name == name {
			return a.Value
		}
	}
	return ""
}

func (w words) isSlot(i int) bool {
	return w.nodes[i].Kind == 1 && w.nodes[i].Name == "slot" && w.of[i] != -1
}

func (w words) isHost(i int) bool { return w.nodes[i].Shadow != -1 }

// isAssigned says whether a node of a host is shown in a slot.
func (w words) isAssigned(i, s int) bool {
	if w.nodes[i].Kind > 2 || !w.isSlot(s) || w.nodes[i].Up != w.nodes[w.of[s]].Host {
		return false
	}
	if w.nodes[w.of[s]].Flags.Manual {
		return slices.Contains(w.given[s], i)
	}
	return w.first[s] && w.value(i, "slot") == w.value(s, "name")
}

// isKid says whether i is shown in k.
func (w words) isKid(i, k int) bool {
	switch {
	case w.isHost(k):
		return w.nodes[i].Up == w.nodes[k].Shadow
	case w.full[k]:
		return w.isAssigned(i, k)
	}
	return w.nodes[i].Up == k
}

func (w words) kids(k int) []int {
	var out []int
	for i := range w.nodes {
		if w.isKid(i, k) {
			out = append(out, i)
		}
	}
	at := func(i int) int { return w.place[i] }
	if !w.isHost(k) && w.full[k] && w.nodes[w.of[k]].Flags.Manual {
		at = func(i int) int { return slices.Index(w.given[k], i) }
	}
	slices.SortFunc(out, func(a, b int) int { return cmp.Compare(at(a), at(b)) })
	return out
}

// isUp says whether k is above i: that is so of each in which i is shown, but of shadow roots; and of a slot that is a host, to which i is assigned, though it is not seen there.
func (w words) isUp(k, i int) bool {
	return w.nodes[k].Kind != 5 && w.isKid(i, k) || w.isAssigned(i, k)
}

func (w words) up(t *testing.T, i int) int {
	t.Helper()
	out := -1
	for k := range w.nodes {
		if !w.isUp(k, i) {
			continue
		}
		if out != -1 {
			t.Fatalf("%d is above %d, and so is %d", out, i, k)
		}
		out = k
	}
	return out
}

// walk takes one by one from those that are still to be told; kids are all nodes' kids.
func walk(t *testing.T, kids [][]int, i int) []int {
	t.Helper()
	var out []int
	for todo := []int{i}; len(todo) > 0; {
		out = append(out, todo[0])
		todo = append(slices.Clone(kids[todo[0]]), todo[1:]...)
		if len(out) > len(kids) {
			t.Fatalf("Walk of %d has no end", i)
		}
	}
	return out
}

// hold holds all answers of all nodes to the words, and the document to what it was.
func hold(t *testing.T, d *dom.Doc) words {
	t.Helper()
	w := tell(d)
	var kids [][]int
	for i := range w.nodes {
		kids = append(kids, w.kids(i))
	}
	for i := range w.nodes {
		if got := flat.Kids(d, i); !slices.Equal(got, kids[i]) {
			t.Fatalf("Kids(%d) = %v, not %v", i, got, kids[i])
		}
		if got, want := flat.Up(d, i), w.up(t, i); got != want {
			t.Fatalf("Up(%d) = %d, not %d", i, got, want)
		}
		if got, want := flat.Walk(d, i), walk(t, kids, i); !slices.Equal(got, want) {
			t.Fatalf("Walk(%d) = %v, not %v", i, got, want)
		}
	}
	holdForest(t, d)
	if !reflect.DeepEqual(tell(d), w) {
		t.Fatal("what was asked has changed it")
	}
	return w
}

// holdForest holds the answers to one another: what is shown in a node has that node above it, so that it is shown in that one alone; no node is above itself; nothing is walked to twice.
func holdForest(t *testing.T, d *dom.Doc) {
	t.Helper()
	for i := range d.Len() {
		n, _ := d.Node(i)
		for _, kid := range flat.Kids(d, i) {
			if up := flat.Up(d, kid); n.Kind != api.Shadow && up != i {
				t.Fatalf("%d is shown in %d, and %d is above it", kid, i, up)
			}
		}
		up := i
		for range d.Len() {
			up = flat.Up(d, up)
		}
		if up != -1 {
			t.Fatalf("there is no end above %d", i)
		}
		l := flat.Walk(d, i)
		slices.Sort(l)
		if len(slices.Compact(slices.Clone(l))) != len(l) {
			t.Fatalf("Walk(%d) has a node twice: %v", i, l)
		}
	}
}

// scene is a document that a test writes.
type scene struct {
	*dom.Doc
	t *testing.T
}

func newScene(t *testing.T, limit int) scene {
	t.Helper()
	return scene{dom.New(limit), t}
}

func (s scene) node(n api.Node) int {
	s.t.Helper()
	i, err := s.Make(n)
	if err != api.OK {
		s.t.Fatalf("Make(%+v): %d", n, err)
	}
	return i
}

func (s scene) element(name string, attrs ...api.Attr) int {
	s.t.Helper()
	return s.node(api.Node{Kind: api.Element, Name: name, Attrs: attrs})
}

func (s scene) text() int {
	s.t.Helper()
	return s.node(api.Node{Kind: api.Text, Data: "x"})
}

func (s scene) comment() int {
	s.t.Helper()
	return s.node(api.Node{Kind: api.Comment})
}

func (s scene) fragment() int {
	s.t.Helper()
	return s.node(api.Node{Kind: api.Fragment})
}

// slotNamed and asking are elements with that one attribute.
func (s scene) slotNamed(name string) int {
	s.t.Helper()
	return s.element("slot", api.Attr{Name: "name", Value: name})
}

func (s scene) asking(name string) int {
	s.t.Helper()
	return s.element("b", api.Attr{Name: "slot", Value: name})
}

func (s scene) shadow(host int, f api.Flags) int {
	s.t.Helper()
	i, err := s.Root(host, f)
	if err != api.OK {
		s.t.Fatalf("Root(%d): %d", host, err)
	}
	return i
}

// put puts nodes at the end of up, one by one.
func (s scene) put(up int, l ...int) {
	s.t.Helper()
	for _, i := range l {
		s.wants(s.Insert(up, i, -1))
	}
}

func (s scene) give(slot int, l ...int) {
	s.t.Helper()
	s.wants(s.Give(slot, l))
}

// wants is behind a call that is not refused.
func (s scene) wants(err api.Errno) {
	s.t.Helper()
	if err != api.OK {
		s.t.Fatalf("refused: %d", err)
	}
}

// kids, up and walk say what is to be answered.
func (s scene) kids(i int, want ...int) {
	s.t.Helper()
	if got := flat.Kids(s.Doc, i); !slices.Equal(got, want) {
		s.t.Errorf("Kids(%d) = %v, not %v", i, got, want)
	}
}

// up says what is above all of l.
func (s scene) up(want int, l ...int) {
	s.t.Helper()
	for _, i := range l {
		if got := flat.Up(s.Doc, i); got != want {
			s.t.Errorf("Up(%d) = %d, not %d", i, got, want)
		}
	}
}

func (s scene) walk(i int, want ...int) {
	s.t.Helper()
	if got := flat.Walk(s.Doc, i); !slices.Equal(got, want) {
		s.t.Errorf("Walk(%d) = %v, not %v", i, got, want)
	}
}

func (s scene) hold() {
	s.t.Helper()
	hold(s.t, s.Doc)
}

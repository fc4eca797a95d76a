package slots_test

import (
	"cmp"
	"reflect"
	"slices"
	"testing"

	"portiere/api"
	"portiere/dom"
	"portiere/slots"
)

// The chapter's sentences in another way than the program's: of any two nodes whether one is shown in the other; what is shown at last comes of a list in which slots are written out, till there is none.

// words is all that a document says of itself, and what follows of that.
type words struct {
	nodes []api.Node
	given [][]int
	slot  []int
	of    []int  // in which shadow root each is
	place []int  // which of its tree it is, in order
	first []bool // of an element `slot` in a shadow root: none of its name is ahead of it
}

func tell(d *dom.Doc) words {
	var w words
	for i := range d.Len() {
		n, _ := d.Node(i)
		w.nodes = append(w.nodes, n)
		w.given = append(w.given, d.Given(i))
		w.slot = append(w.slot, d.Slot(i))
	}
	w.of, w.place = slices.Repeat([]int{-1}, len(w.nodes)), make([]int, len(w.nodes))
	for i, n := range w.nodes {
		if n.Up == -1 {
			w.number(i)
		}
	}
	for i := range w.nodes {
		ahead := func(k int) bool {
			return w.isSlot(k) && w.of[k] == w.of[i] && w.value(k, "name") == w.value(i, "name") && w.place[k] < w.place[i]
		}
		w.first = append(w.first, w.isSlot(i) && !slices.ContainsFunc(w.all(), ahead))
	}
	return w
}

// number goes through a tree, the nodes that are still to be seen in hand.
func (w words) number(root int) {
	todo := []int{root}
	for count := 0; len(todo) > 0; count++ {
		i := todo[0]
		todo = append(slices.Clone(w.nodes[i].Kids), todo[1:]...)
		w.place[i] = count
		if w.nodes[root].Kind == 5 {
			w.of[i] = root
		}
	}
}

func (w words) all() []int {
	var out []int
	for i := range w.nodes {
		out = append(out, i)
	}
	return out
}

func (w words) value(i int, name string) string {
	for _, a := range w.nodes[i].Attrs {
		if a.Name == name {
			return a.Value
		}
	}
	return ""
}

func (w words) isSlotElement(i int) bool { return w.nodes[i].Kind == 1 && w.nodes[i].Name == "slot" }

// isSlot is of SLOTs.
func (w words) isSlot(i int) bool { return w.isSlotElement(i) && w.of[i] != -1 }

func (w words) mayShow(i int) bool { return w.nodes[i].Kind == 1 || w.nodes[i].Kind == 2 }

// isShown says whether i is shown in s.
func (w words) isShown(i, s int) bool {
	if !w.mayShow(i) || !w.isSlot(s) || w.nodes[i].Up != w.nodes[w.of[s]].Host {
		return false
	}
	if w.nodes[w.of[s]].Flags.Manual {
		return slices.Contains(w.given[s], i)
	}
	return w.first[s] && w.value(i, "slot") == w.value(s, "name")
}

// find is the one slot in which i is shown.
func (w words) find(t *testing.T, i int) int {
	t.Helper()
	out := -1
	for s := range w.nodes {
		if !w.isShown(i, s) {
			continue
		}
		if out != -1 {
			t.Fatalf("%d is shown in %d, and in %d", i, out, s)
		}
		out = s
	}
	return out
}

func (w words) assigned(s int) []int {
	var out []int
	for i := range w.nodes {
		if w.isShown(i, s) {
			out = append(out, i)
		}
	}
	at := func(i int) int { return w.place[i] }
	if w.isSlot(s) && w.nodes[w.of[s]].Flags.Manual {
		at = func(i int) int { return slices.Index(w.given[s], i) }
	}
	slices.SortFunc(out, func(a, b int) int { return cmp.Compare(at(a), at(b)) })
	return out
}

// flat writes out the first slot of the list, again and again.
func (w words) flat(t *testing.T, s int) []int {
	t.Helper()
	if !w.isSlot(s) {
		return nil
	}
	l := []int{s}
	for range len(w.nodes) + 1 {
		k := slices.IndexFunc(l, w.isSlot)
		if k < 0 {
			return l
		}
		in := w.assigned(l[k])
		if len(in) == 0 {
			in = slices.DeleteFunc(slices.Clone(w.nodes[l[k]].Kids), func(i int) bool { return !w.mayShow(i) })
		}
		l = slices.Replace(l, k, k+1, in...)
	}
	t.Fatalf("Flat of %d has no end", s)
	return nil
}

func (w words) slots(root int) []int {
	var out []int
	for i := range w.nodes {
		up := i
		for up != root && up != -1 {
			up = w.nodes[up].Up
		}
		if up == root && w.isSlotElement(i) {
			out = append(out, i)
		}
	}
	slices.SortFunc(out, func(a, b int) int { return cmp.Compare(w.place[a], w.place[b]) })
	return out
}

// hold holds all answers of all nodes to the words, and the document to what it was.
func hold(t *testing.T, d *dom.Doc) {
	t.Helper()
	w := tell(d)
	for i := range w.nodes {
		if got, want := slots.Find(d, i), w.find(t, i); got != want {
			t.Fatalf("Find(%d) = %d, not %d", i, got, want)
		}
		if got, want := slots.Assigned(d, i), w.assigned(i); !slices.Equal(got, want) {
			t.Fatalf("Assigned(%d) = %v, not %v", i, got, want)
		}
		if got, want := slots.Flat(d, i), w.flat(t, i); !slices.Equal(got, want) {
			t.Fatalf("Flat(%d) = %v, not %v", i, got, want)
		}
		if got, want := slots.Slots(d, i), w.slots(i); !slices.Equal(got, want) {
			t.Fatalf("Slots(%d) = %v, not %v", i, got, want)
		}
	}
	holdShown(t, d)
	if !reflect.DeepEqual(tell(d), w) {
		t.Fatal("what was asked has changed it")
	}
}

// holdShown holds the answers to one another: a node is in one slot at most, and is found there; nothing stands twice in a list.
func holdShown(t *testing.T, d *dom.Doc) {
	t.Helper()
	in := slices.Repeat([]int{-1}, d.Len())
	for s := range d.Len() {
		for _, i := range slots.Assigned(d, s) {
			if in[i] != -1 {
				t.Fatalf("%d is shown in %d, and in %d", i, in[i], s)
			}
			in[i] = s
		}
		flat := slots.Flat(d, s)
		slices.Sort(flat)
		if len(slices.Compact(slices.Clone(flat))) != len(flat) {
			t.Fatalf("Flat(%d) has a node twice: %v", s, flat)
		}
	}
	for i, s := range in {
		if got := slots.Find(d, i); got != s {
			t.Fatalf("%d is shown in %d, and found in %d", i, s, got)
		}
	}
}

// scene is a document that a test writes.
type scene struct {
	*dom.Doc
	t *testing.T
}

func newScene(t *testing.T, limit int) scene {
	t.Helper()
	return scene{dom.New(limit), t}
}

func (s scene) node(n api.Node) int {
	s.t.Helper()
	i, err := s.Make(n)
	if err != api.OK {
		s.t.Fatalf("Make(%+v): %d", n, err)
	}
	return i
}

func (s scene) element(name string, attrs ...api.Attr) int {
	s.t.Helper()
	return s.node(api.Node{Kind: api.Element, Name: name, Attrs: attrs})
}

func (s scene) text() int {
	s.t.Helper()
	return s.node(api.Node{Kind: api.Text, Data: "x"})
}

func (s scene) comment() int {
	s.t.Helper()
	return s.node(api.Node{Kind: api.Comment})
}

// slotNamed and asking are elements with that one attribute.
func (s scene) slotNamed(name string) int {
	s.t.Helper()
	return s.element("slot", api.Attr{Name: "name", Value: name})
}

func (s scene) asking(name string) int {
	s.t.Helper()
	return s.element("b", api.Attr{Name: "slot", Value: name})
}

func (s scene) shadow(host int, f api.Flags) int {
	s.t.Helper()
	i, err := s.Root(host, f)
	if err != api.OK {
		s.t.Fatalf("Root(%d): %d", host, err)
	}
	return i
}

// put puts nodes at the end of up, one by one.
func (s scene) put(up int, l ...int) {
	s.t.Helper()
	for _, i := range l {
		s.wants(s.Insert(up, i, -1))
	}
}

func (s scene) give(slot int, l ...int) {
	s.t.Helper()
	s.wants(s.Give(slot, l))
}

// wants is behind a call that is not refused.
func (s scene) wants(err api.Errno) {
	s.t.Helper()
	if err != api.OK {
		s.t.Fatalf("refused: %d", err)
	}
}

// assigned, flat, found and slotsIn say what is to be answered.
func (s scene) assigned(slot int, want ...int) {
	s.t.Helper()
	if got := slots.Assigned(s.Doc, slot); !slices.Equal(got, want) {
		s.t.Errorf("Assigned(%d) = %v, not %v", slot, got, want)
	}
}

func (s scene) flat(slot int, want ...int) {
	s.t.Helper()
	if got := slots.Flat(s.Doc, slot); !slices.Equal(got, want) {
		s.t.Errorf("Flat(%d) = %v, not %v", slot, got, want)
	}
}

func (s scene) found(i, want int) {
	s.t.Helper()
	if got := slots.Find(s.Doc, i); got != want {
		s.t.Errorf("Find(%d) = %d, not %d", i, got, want)
	}
}

func (s scene) slotsIn(root int, want ...int) {
	s.t.Helper()
	if got := slots.Slots(s.Doc, root); !slices.Equal(got, want) {
		s.t.Errorf("Slots(%d) = %v, not %v", root, got, want)
	}
}

func (s scene) hold() {
	s.t.Helper()
	hold(s.t, s.Doc)
}

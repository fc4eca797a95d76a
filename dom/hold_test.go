package dom_test

import (
	"reflect"
	"slices"
	"testing"

	"portiere/api"
	"portiere/dom"
)

// pair is a document, and what the chapter's words make of the same calls.
type pair struct {
	t *testing.T
	d *dom.Doc
	w *words
}

func newPair(t *testing.T, limit int) *pair {
	t.Helper()
	p := &pair{t, dom.New(limit), newByWords(limit)}
	if p.d == nil || p.w == nil {
		t.Fatalf("New(%d): there is none", limit)
	}
	p.hold("New", limit)
	return p
}

func (p *pair) copied() *pair { return &pair{p.t, p.d.Copy(), p.w.copied()} }

// plain makes lists that are empty nil, so that nodes may be compared.
func plain(n api.Node) api.Node {
	if len(n.Attrs) == 0 {
		n.Attrs = nil
	}
	if len(n.Kids) == 0 {
		n.Kids = nil
	}
	return n
}

// hold holds all that is told of the document to the words.
func (p *pair) hold(call ...any) {
	p.t.Helper()
	if p.d.Len() != len(p.w.nodes) || p.d.Limit() != p.w.limit {
		p.t.Fatalf("%v: Len %d, Limit %d, not %d, %d", call, p.d.Len(), p.d.Limit(), len(p.w.nodes), p.w.limit)
	}
	for i, want := range p.w.nodes {
		got, err := p.d.Node(i)
		if err != api.OK || !reflect.DeepEqual(plain(got), plain(want)) {
			p.t.Fatalf("%v: node %d is %+v (%d), not %+v", call, i, got, err, want)
		}
		if given := p.d.Given(i); !slices.Equal(given, p.w.lists[i]) {
			p.t.Fatalf("%v: given to %d are %v, not %v", call, i, given, p.w.lists[i])
		}
		if slot := p.d.Slot(i); slot != p.w.Slot(i) {
			p.t.Fatalf("%v: slot of %d is %d, not %d", call, i, slot, p.w.Slot(i))
		}
	}
	p.holdBeyond(-2, -1, len(p.w.nodes), len(p.w.nodes)+1)
}

func (p *pair) holdBeyond(numbers ...int) {
	p.t.Helper()
	for _, i := range numbers {
		if n, err := p.d.Node(i); err != api.ErrNode || !reflect.DeepEqual(n, api.Node{}) {
			p.t.Fatalf("Node(%d) = %+v, %d", i, n, err)
		}
		if l, slot := p.d.Given(i), p.d.Slot(i); len(l) != 0 || slot != -1 {
			p.t.Fatalf("Given(%d) = %v, Slot = %d", i, l, slot)
		}
	}
}

func (p *pair) answers(got, want api.Errno, call ...any) api.Errno {
	p.t.Helper()
	if got != want {
		p.t.Fatalf("%v: %d, not %d", call, got, want)
	}
	p.hold(call...)
	return got
}

func (p *pair) made(i, j int, got, want api.Errno, call ...any) (int, api.Errno) {
	p.t.Helper()
	if i != j {
		p.t.Fatalf("%v: node %d, not %d", call, i, j)
	}
	return i, p.answers(got, want, call...)
}

func (p *pair) make(n api.Node) (int, api.Errno) {
	p.t.Helper()
	i, got := p.d.Make(n)
	j, want := p.w.Make(n)
	return p.made(i, j, got, want, "Make", n)
}

func (p *pair) root(host int, f api.Flags) (int, api.Errno) {
	p.t.Helper()
	i, got := p.d.Root(host, f)
	j, want := p.w.Root(host, f)
	return p.made(i, j, got, want, "Root", host, f)
}

func (p *pair) insert(up, i, before int) api.Errno {
	p.t.Helper()
	return p.answers(p.d.Insert(up, i, before), p.w.Insert(up, i, before), "Insert", up, i, before)
}

func (p *pair) remove(i int) api.Errno {
	p.t.Helper()
	return p.answers(p.d.Remove(i), p.w.Remove(i), "Remove", i)
}

func (p *pair) set(i int, name, value string) api.Errno {
	p.t.Helper()
	return p.answers(p.d.Set(i, name, value), p.w.Set(i, name, value), "Set", i, name, value)
}

func (p *pair) drop(i int, name string) api.Errno {
	p.t.Helper()
	return p.answers(p.d.Drop(i, name), p.w.Drop(i, name), "Drop", i, name)
}

func (p *pair) write(i int, data string) api.Errno {
	p.t.Helper()
	return p.answers(p.d.Write(i, data), p.w.Write(i, data), "Write", i, data)
}

func (p *pair) give(slot int, l ...int) api.Errno {
	p.t.Helper()
	return p.answers(p.d.Give(slot, l), p.w.Give(slot, l), "Give", slot, l)
}

// element makes an Element and tells its number.
func (p *pair) element(name string) int {
	p.t.Helper()
	i, _ := p.make(api.Node{Kind: api.Element, Name: name})
	return i
}

func (p *pair) text(data string) int {
	p.t.Helper()
	i, _ := p.make(api.Node{Kind: api.Text, Data: data})
	return i
}

func (p *pair) fragment() int {
	p.t.Helper()
	i, _ := p.make(api.Node{Kind: api.Fragment})
	return i
}

func (p *pair) shadow(host int) int {
	p.t.Helper()
	i, _ := p.root(host, api.Flags{})
	return i
}

// wants holds an answer to what the test says beside the words.
func (p *pair) wants(got, want api.Errno) {
	p.t.Helper()
	if got != want {
		p.t.Fatalf("%d, not %d", got, want)
	}
}

// kids holds what is in a node to what the test says.
func (p *pair) kids(i int, want ...int) {
	p.t.Helper()
	n, _ := p.d.Node(i)
	if !slices.Equal(n.Kids, want) {
		p.t.Fatalf("Kids of %d are %v, not %v", i, n.Kids, want)
	}
	for _, kid := range want {
		if k, _ := p.d.Node(kid); k.Up != i {
			p.t.Fatalf("Up of %d is %d, not %d", kid, k.Up, i)
		}
	}
}

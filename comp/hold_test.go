package comp_test

import (
	"cmp"
	"slices"
	"strings"
	"testing"

	"portiere/api"
	"portiere/build"
	"portiere/clone"
	"portiere/comp"
	"portiere/dom"
	"portiere/serial"
	"portiere/shadow"
	"portiere/slots"
)

// The chapter's sentences in another way than the program's: each call is done to a twin of the document, too, by the layers below; what is new in a node is put ahead of what is old there, which is taken out last; each number has a line of its own, with the count at which it became pending.

// told is all that a document says of itself.
type told struct {
	limit int
	nodes []api.Node
	given [][]int
	slot  []int
}

func tell(d *dom.Doc) told {
	w := told{limit: d.Limit()}
	for i := range d.Len() {
		n, _ := d.Node(i)
		w.nodes = append(w.nodes, n)
		w.given = append(w.given, d.Given(i))
		w.slot = append(w.slot, d.Slot(i))
	}
	return w
}

// same says whether documents are the same; nil and empty lists are.
func same(a, b told) bool {
	return a.limit == b.limit && slices.EqualFunc(a.nodes, b.nodes, sameNode) &&
		slices.EqualFunc(a.given, b.given, slices.Equal) && slices.Equal(a.slot, b.slot)
}

func sameNode(a, b api.Node) bool {
	return a.Kind == b.Kind && a.Name == b.Name && a.Data == b.Data && slices.Equal(a.Attrs, b.Attrs) && a.Flags == b.Flags &&
		a.Up == b.Up && slices.Equal(a.Kids, b.Kids) && a.Shadow == b.Shadow && a.Host == b.Host && a.Content == b.Content
}

const voids = "area base br col embed hr img input link meta source track wbr"

// line is what is known of a number's node.
type line struct {
	known []int
	since int // 0: it is not pending
}

// pair is a component, and what the words make of the same calls.
type pair struct {
	t     *testing.T
	c     *comp.Comp
	d     *dom.Doc
	lines []line
	count int
	again int // how often one that was pending has changed
}

func newPair(t *testing.T, limit int) *pair {
	t.Helper()
	c := comp.New(limit)
	if c == nil {
		t.Fatalf("New(%d): there is none", limit)
	}
	p := &pair{t: t, c: c, d: dom.New(limit)}
	p.hold("New")
	return p
}

// hold is behind each call: the document is the twin.
func (p *pair) hold(call string) {
	p.t.Helper()
	if got, want := tell(p.c.Doc()), tell(p.d); !same(got, want) {
		p.t.Fatalf("behind %s the document is\n%+v, not\n%+v", call, got, want)
	}
}

// seen is behind each call behind which the board sees the document.
func (p *pair) seen(call string) {
	p.t.Helper()
	p.hold(call)
	for i := range p.d.Len() {
		if i == len(p.lines) {
			p.lines = append(p.lines, line{})
		}
		l, now := &p.lines[i], slots.Assigned(p.d, i)
		if slices.Equal(now, l.known) {
			continue
		}
		l.known = now
		if l.since != 0 {
			p.again++
			continue
		}
		p.count++
		l.since = p.count
	}
}

// signals holds what is taken to the words, and tells it.
func (p *pair) signals() []int {
	p.t.Helper()
	var want []int
	for i, l := range p.lines {
		if l.since != 0 {
			want = append(want, i)
		}
	}
	slices.SortFunc(want, func(a, b int) int { return cmp.Compare(p.lines[a].since, p.lines[b].since) })
	got := p.c.Signals()
	if !slices.Equal(got, want) {
		p.t.Fatalf("Signals() = %v, not %v", got, want)
	}
	if l := p.c.Signals(); len(l) != 0 {
		p.t.Fatalf("Signals() again = %v", l)
	}
	for i := range p.lines {
		p.lines[i].since = 0
	}
	p.hold("Signals")
	return got
}

// fill is the words of HTML and Unsafe, done to the twin.
func (p *pair) fill(i int, text string, shadows bool) ([]api.Fault, api.Errno) {
	n, err := p.d.Node(i)
	switch {
	case err != api.OK:
		return nil, 80
	case n.Kind == 2, n.Kind == 3, n.Kind == 6, n.Kind == 1 && slices.Contains(strings.Fields(voids), n.Name):
		return nil, 81
	}
	fragment, faults, err := build.Parse(p.d, text, shadows)
	if err != api.OK {
		return nil, err
	}
	if n.Kind == 1 && n.Name == "template" {
		i = n.Content
	}
	place, _ := p.d.Node(i)
	first := -1
	if len(place.Kids) > 0 {
		first = place.Kids[0]
	}
	made, _ := p.d.Node(fragment)
	for _, k := range made.Kids {
		p.ok(p.d.Insert(i, k, first))
	}
	for k := len(place.Kids) - 1; k >= 0; k-- {
		p.ok(p.d.Remove(place.Kids[k]))
	}
	return faults, api.OK
}

func (p *pair) html(i int, text string) ([]api.Fault, api.Errno) {
	p.t.Helper()
	got, err := p.c.HTML(i, text)
	want, wantErr := p.fill(i, text, false)
	if !slices.Equal(got, want) || err != wantErr {
		p.t.Fatalf("HTML(%d, %.200q) = %v, %d, not %v, %d", i, text, got, err, want, wantErr)
	}
	p.seen("HTML")
	return got, err
}

func (p *pair) unsafe(i int, text string) ([]api.Fault, api.Errno) {
	p.t.Helper()
	got, err := p.c.Unsafe(i, text)
	want, wantErr := p.fill(i, text, true)
	if !slices.Equal(got, want) || err != wantErr {
		p.t.Fatalf("Unsafe(%d, %.200q) = %v, %d, not %v, %d", i, text, got, err, want, wantErr)
	}
	p.seen("Unsafe")
	return got, err
}

func (p *pair) get(i int, o api.Options) (string, api.Errno) {
	p.t.Helper()
	want, wantErr := serial.Inner(p.d, i, o), api.OK
	if i < 0 || i >= p.d.Len() {
		want, wantErr = "", 80
	}
	roots := slices.Clone(o.Roots)
	got, err := p.c.Get(i, o)
	if got != want || err != wantErr {
		p.t.Fatalf("Get(%d, %v) = %.500q, %d, not %.500q, %d", i, o, got, err, want, wantErr)
	}
	if !slices.Equal(o.Roots, roots) {
		p.t.Fatalf("the roots %v are %v", roots, o.Roots)
	}
	p.hold("Get")
	return got, err
}

// number is behind calls that answer a node's.
func (p *pair) number(call string, got int, err api.Errno, want int, wantErr api.Errno) (int, api.Errno) {
	p.t.Helper()
	if got != want || err != wantErr {
		p.t.Fatalf("%s = %d, %d, not %d, %d", call, got, err, want, wantErr)
	}
	p.seen(call)
	return got, err
}

func (p *pair) make(n api.Node) (int, api.Errno) {
	p.t.Helper()
	got, err := p.c.Make(n)
	want, wantErr := p.d.Make(n)
	return p.number("Make", got, err, want, wantErr)
}

func (p *pair) attach(host int, f api.Flags) (int, api.Errno) {
	p.t.Helper()
	got, err := p.c.Attach(host, f)
	want, wantErr := shadow.Attach(p.d, host, f)
	return p.number("Attach", got, err, want, wantErr)
}

func (p *pair) clone(i int, deep bool) (int, api.Errno) {
	p.t.Helper()
	got, err := p.c.Clone(i, deep)
	want, wantErr := clone.Clone(p.d, i, deep)
	return p.number("Clone", got, err, want, wantErr)
}

// answer is behind calls that answer an error alone.
func (p *pair) answer(call string, got, want api.Errno) api.Errno {
	p.t.Helper()
	if got != want {
		p.t.Fatalf("%s = %d, not %d", call, got, want)
	}
	p.seen(call)
	return got
}

func (p *pair) insert(up, i, before int) api.Errno {
	p.t.Helper()
	return p.answer("Insert", p.c.Insert(up, i, before), p.d.Insert(up, i, before))
}

func (p *pair) remove(i int) api.Errno {
	p.t.Helper()
	return p.answer("Remove", p.c.Remove(i), p.d.Remove(i))
}

func (p *pair) set(i int, name, value string) api.Errno {
	p.t.Helper()
	return p.answer("Set", p.c.Set(i, name, value), p.d.Set(i, name, value))
}

func (p *pair) drop(i int, name string) api.Errno {
	p.t.Helper()
	return p.answer("Drop", p.c.Drop(i, name), p.d.Drop(i, name))
}

func (p *pair) write(i int, data string) api.Errno {
	p.t.Helper()
	return p.answer("Write", p.c.Write(i, data), p.d.Write(i, data))
}

func (p *pair) assign(slot int, l ...int) api.Errno {
	p.t.Helper()
	return p.answer("Assign", p.c.Assign(slot, l), p.d.Give(slot, l))
}

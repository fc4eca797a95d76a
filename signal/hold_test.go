package signal_test

import (
	"cmp"
	"slices"
	"testing"

	"portiere/api"
	"portiere/dom"
	"portiere/signal"
	"portiere/slots"
)

// words is the chapter's sentences in another way than the program's: each number has a line of its own, for good, with the count at which it became pending.
type words struct {
	lines []line
	count int
	again int // how often one that was pending has changed
}

type line struct {
	known []int
	since int // 0: it is not pending
}

func (w *words) see(d *dom.Doc) {
	for len(w.lines) < d.Len() {
		w.lines = append(w.lines, line{})
	}
	for i := range d.Len() {
		now := slots.Assigned(d, i)
		if slices.Compare(now, w.lines[i].known) == 0 {
			continue
		}
		w.lines[i].known = now
		if w.lines[i].since != 0 {
			w.again++
			continue
		}
		w.count++
		w.lines[i].since = w.count
	}
}

func (w *words) pending() []int {
	var out []int
	for i, l := range w.lines {
		if l.since != 0 {
			out = append(out, i)
		}
	}
	slices.SortFunc(out, func(a, b int) int { return cmp.Compare(w.lines[a].since, w.lines[b].since) })
	return out
}

func (w *words) take() {
	for i := range w.lines {
		w.lines[i].since = 0
	}
}

// watch is a board, and what the words make of the same calls.
type watch struct {
	t *testing.T
	b *signal.Board
	w *words
}

func newWatch(t *testing.T) watch {
	t.Helper()
	b := signal.New()
	if b == nil {
		t.Fatal("New: there is none")
	}
	w := watch{t, b, &words{}}
	w.wants()
	return w
}

func (w watch) see(d *dom.Doc) {
	w.t.Helper()
	w.b.See(d)
	w.w.see(d)
	w.wants(w.w.pending()...)
}

// wants says what is pending; it is so however often it is asked.
func (w watch) wants(want ...int) {
	w.t.Helper()
	for range 2 {
		if got := w.b.Pending(); !slices.Equal(got, want) {
			w.t.Fatalf("Pending() = %v, not %v", got, want)
		}
	}
}

// takes says what is taken; nothing is left then.
func (w watch) takes(want ...int) {
	w.t.Helper()
	if got := w.b.Take(); !slices.Equal(got, want) {
		w.t.Fatalf("Take() = %v, not %v", got, want)
	}
	w.w.take()
	w.wants()
	if got := w.b.Take(); len(got) != 0 {
		w.t.Fatalf("Take() again = %v", got)
	}
}

// scene is a document that a test writes, and a board that looks at it.
type scene struct {
	*dom.Doc
	watch
}

func newScene(t *testing.T, limit int) scene {
	t.Helper()
	return scene{dom.New(limit), newWatch(t)}
}

// changed says which slots have changed since that was asked.
func (s scene) changed(want ...int) {
	s.t.Helper()
	s.see(s.Doc)
	s.takes(want...)
	s.see(s.Doc)
	s.wants()
}

func (s scene) node(n api.Node) int {
	s.t.Helper()
	i, err := s.Make(n)
	if err != api.OK {
		s.t.Fatalf("Make(%+v): %d", n, err)
	}
	return i
}

func (s scene) element(name string, attrs ...api.Attr) int {
	s.t.Helper()
	return s.node(api.Node{Kind: api.Element, Name: name, Attrs: attrs})
}

func (s scene) text() int {
	s.t.Helper()
	return s.node(api.Node{Kind: api.Text, Data: "x"})
}

// slotNamed and asking are elements with that one attribute.
func (s scene) slotNamed(name string) int {
	s.t.Helper()
	return s.element("slot", api.Attr{Name: "name", Value: name})
}

func (s scene) asking(name string) int {
	s.t.Helper()
	return s.element("b", api.Attr{Name: "slot", Value: name})
}

func (s scene) shadow(host int, f api.Flags) int {
	s.t.Helper()
	i, err := s.Root(host, f)
	if err != api.OK {
		s.t.Fatalf("Root(%d): %d", host, err)
	}
	return i
}

// put puts nodes at the end of up, one by one.
func (s scene) put(up int, l ...int) {
	s.t.Helper()
	for _, i := range l {
		s.ok(s.Insert(up, i, -1))
	}
}

func (s scene) give(slot int, l ...int) {
	s.t.Helper()
	s.ok(s.Give(slot, l))
}

// ok is behind a call that is not refused.
func (s scene) ok(err api.Errno) {
	s.t.Helper()
	if err != api.OK {
		s.t.Fatalf("refused: %d", err)
	}
}

// host is an element with a shadow root, in which slots of those names stand.
func (s scene) host(f api.Flags, names ...string) (host, root int, all []int) {
	s.t.Helper()
	host = s.element("div")
	root = s.shadow(host, f)
	for _, name := range names {
		all = append(all, s.slotNamed(name))
	}
	s.put(0, host)
	s.put(root, all...)
	return host, root, all
}

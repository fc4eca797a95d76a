package stable_test

import (
	"reflect"
	"slices"
	"strconv"
	"strings"
	"testing"

	"portiere/api"
	"portiere/dom"
	"portiere/stable"
)

// The chapter's sentences in another way than the program's: which nodes are within one is told from each node upward, and what is in a node is listed, without calls that call themselves.

// told is all that a document says of itself.
type told struct {
	limit int
	nodes []api.Node
	given [][]int
	slot  []int
}

func tell(d *dom.Doc) told {
	w := told{limit: d.Limit()}
	for i := range d.Len() {
		n, _ := d.Node(i)
		w.nodes = append(w.nodes, n)
		w.given = append(w.given, d.Given(i))
		w.slot = append(w.slot, d.Slot(i))
	}
	return w
}

func (w told) has(i int) bool { return 0 <= i && i < len(w.nodes) }

// steps is how many one goes from k, by Up or (from a Shadow) by Host, to i; -1, if one does not come there.
func (w told) steps(k, i int) int {
	for n := 0; k >= 0; n++ {
		if k == i {
			return n
		}
		next := w.nodes[k].Up
		if w.nodes[k].Kind == 5 {
			next = w.nodes[k].Host
		}
		k = next
	}
	return -1
}

// flaws are what the chapter's sentences find in the i-th node, each once, sorted; it is stable, if there is none.
func (w told) flaws(i int) []string {
	if !w.has(i) {
		return []string{"no node"}
	}
	var out []string
	say := func(flaw string, is bool) {
		if is {
			out = append(out, flaw)
		}
	}
	top := w.nodes[i]
	say("no div", top.Kind != 1 || top.Name != "div")
	say("a host", top.Shadow != -1)
	for k, n := range w.nodes {
		steps := w.steps(k, i)
		if steps < 1 {
			continue
		}
		say("too deep", steps > 40)
		say("another kind", !slices.Contains([]uint8{1, 2, 3, 5}, n.Kind))
		switch n.Kind {
		case 1:
			say("another name", !isGoodName(n.Name))
			for _, a := range n.Attrs {
				say("null in a value", strings.Contains(a.Value, "\x00"))
			}
		case 2:
			say("empty text", len(n.Data) == 0)
			say("null in a text", strings.Contains(n.Data, "\x00"))
			kids := w.nodes[n.Up].Kids
			at := slices.Index(kids, k)
			say("text behind text", at > 0 && w.nodes[kids[at-1]].Kind == 2)
		case 3:
			say("comment with -", strings.Contains(n.Data, "-"))
			say("comment with >", strings.Contains(n.Data, ">"))
			say("null in a comment", strings.Contains(n.Data, "\x00"))
		case 5:
			say("manual", n.Flags.Manual)
		}
	}
	slices.Sort(out)
	return slices.Compact(out)
}

// isGoodName keeps the list, and what is Custom, as chapters 17 and 3 write them.
func isGoodName(name string) bool {
	if slices.Contains(strings.Fields("div span section article b i slot"), name) {
		return true
	}
	if len(name) > 60 || !strings.Contains(name, "-") || name[0] < 'a' || name[0] > 'z' {
		return false
	}
	if strings.Trim(name, "abcdefghijklmnopqrstuvwxyz0123456789-._") != "" {
		return false
	}
	return !slices.Contains(strings.Fields("annotation-xml color-profile font-face font-face-src font-face-uri font-face-format font-face-name missing-glyph"), name)
}

// part is something that is still to be listed: a line as it is (node is -1), or the Kids of a node.
type part struct {
	line string
	node int
}

// list is what is in the i-th node, a line for each thing that is asked of it.
func (w told) list(i int) []string {
	var out []string
	for todo := []part{{node: i}}; len(todo) > 0; {
		p := todo[len(todo)-1]
		todo = todo[:len(todo)-1]
		if p.node < 0 {
			out = append(out, p.line)
			continue
		}
		var next []part
		for _, k := range w.nodes[p.node].Kids {
			next = append(next, w.partsOf(w.nodes[k], k)...)
		}
		slices.Reverse(next)
		todo = append(todo, next...)
	}
	return out
}

func (w told) partsOf(n api.Node, i int) []part {
	line := strconv.Itoa(int(n.Kind)) + strconv.Quote(n.Name) + strconv.Quote(n.Data)
	for _, a := range n.Attrs {
		line += " " + strconv.Quote(a.Name) + "=" + strconv.Quote(a.Value)
	}
	out := []part{{line, -1}}
	if n.Shadow >= 0 {
		f := w.nodes[n.Shadow].Flags
		mark := "shadow root"
		for _, is := range []bool{f.Closed, f.Manual, f.Delegates, f.Serializable, f.Clonable} {
			mark += " " + strconv.FormatBool(is)
		}
		out = append(out, part{mark, -1}, part{"", n.Shadow}, part{"its end", -1})
	}
	if n.Content >= 0 {
		out = append(out, part{"content", -1}, part{"", n.Content}, part{"its end", -1})
	}
	return append(out, part{"kids", -1}, part{"", i}, part{"their end", -1})
}

func same(v told, i int, w told, j int) bool {
	return v.has(i) && w.has(j) && slices.Equal(v.list(i), w.list(j))
}

// holdStable holds Stable, for each node and for some that are none, to the words, and the document to what it was. It tells the flaws of each node.
func holdStable(t *testing.T, d *dom.Doc) [][]string {
	t.Helper()
	w := tell(d)
	var all [][]string
	for i := -2; i < d.Len()+2; i++ {
		flaws := w.flaws(i)
		if got := stable.Stable(d, i); got != (len(flaws) == 0) {
			t.Fatalf("Stable(%d) = %v, though %q", i, got, flaws)
		}
		if w.has(i) {
			all = append(all, flaws)
		}
	}
	if !reflect.DeepEqual(tell(d), w) {
		t.Fatal("the document is changed")
	}
	return all
}

// holdSame holds Same of two nodes to the words, both ways, and each of them to itself.
func holdSame(t *testing.T, d *dom.Doc, i int, e *dom.Doc, j int) bool {
	t.Helper()
	v, w := tell(d), tell(e)
	want := same(v, i, w, j)
	if got := stable.Same(d, i, e, j); got != want {
		t.Fatalf("Same(%d, %d) = %v", i, j, got)
	}
	if got := stable.Same(e, j, d, i); got != want {
		t.Fatalf("Same(%d, %d) = %v the other way", j, i, got)
	}
	if stable.Same(d, i, d, i) != v.has(i) || stable.Same(e, j, e, j) != w.has(j) {
		t.Fatalf("Same of %d or %d with itself is wrong", i, j)
	}
	if !reflect.DeepEqual(tell(d), v) || !reflect.DeepEqual(tell(e), w) {
		t.Fatal("a document is changed")
	}
	return want
}

package dom_test

import (
	"slices"
	"strings"

	"portiere/api"
)

// The chapter's sentences in another way than the program's: whole nodes as they are told, with plain lists of Kids, and each slot's list beside them.

const (
	voidNames = " area base br col embed hr img input link meta source track wbr "
	small     = "abcdefghijklmnopqrstuvwxyz"
)

type words struct {
	limit int
	nodes []api.Node
	lists [][]int // of each node those that are given to it
}

func newByWords(limit int) *words {
	if limit < 1 || limit > 5000 {
		return nil
	}
	w := &words{limit: limit}
	w.add(api.Node{Kind: 4})
	return w
}

func (w *words) add(n api.Node) int {
	n.Up, n.Kids, n.Shadow, n.Host, n.Content = -1, nil, -1, -1, -1
	n.Attrs = slices.Clone(n.Attrs)
	w.nodes = append(w.nodes, n)
	w.lists = append(w.lists, nil)
	return len(w.nodes) - 1
}

func (w *words) is(i int) bool { return i >= 0 && i < len(w.nodes) }

func (w *words) copied() *words {
	c := &words{limit: w.limit}
	for i, n := range w.nodes {
		n.Attrs, n.Kids = slices.Clone(n.Attrs), slices.Clone(n.Kids)
		c.nodes = append(c.nodes, n)
		c.lists = append(c.lists, slices.Clone(w.lists[i]))
	}
	return c
}

func writableByWords(name, value string) bool {
	return len(name) >= 1 && len(name) <= 60 && len(value) <= 2000 && !strings.ContainsAny(name, "ABCDEFGHIJKLMNOPQRSTUVWXYZ\x00\x09\x0a\x0c\x20/>=")
}

func attrsByWords(l []api.Attr) bool {
	for i, a := range l {
		if !writableByWords(a.Name, a.Value) {
			return false
		}
		for _, b := range l[:i] {
			if a.Name == b.Name {
				return false
			}
		}
	}
	return len(l) <= 50
}

func validByWords(name string) bool {
	return name != "" && len(name) <= 60 && strings.IndexByte(small, name[0]) >= 0 && strings.Trim(name, small+"0123456789-._") == ""
}

func nodeByWords(n api.Node) bool {
	switch n.Kind {
	case 1:
		return validByWords(n.Name) && n.Data == "" && attrsByWords(n.Attrs)
	case 2, 3:
		return n.Name == "" && len(n.Attrs) == 0
	case 4:
		return n.Name == "" && n.Data == "" && len(n.Attrs) == 0
	case 6:
		return n.Data == "" && len(n.Attrs) == 0
	}
	return false
}

func (w *words) Make(n api.Node) (int, api.Errno) {
	if !nodeByWords(n) {
		return 0, 1
	}
	isTemplate := n.Kind == 1 && n.Name == "template"
	if len(w.nodes) >= w.limit || isTemplate && len(w.nodes) >= w.limit-1 {
		return 0, 3
	}
	i := w.add(api.Node{Kind: n.Kind, Name: n.Name, Data: n.Data, Attrs: n.Attrs})
	if isTemplate {
		w.nodes[i].Content = w.add(api.Node{Kind: 4})
		w.nodes[i+1].Host = i
	}
	return i, 0
}

func (w *words) Root(host int, f api.Flags) (int, api.Errno) {
	switch {
	case !w.is(host):
		return 0, 80
	case w.nodes[host].Kind != 1:
		return 0, 100
	case w.nodes[host].Shadow != -1:
		return 0, 101
	case len(w.nodes) >= w.limit:
		return 0, 3
	}
	i := w.add(api.Node{Kind: 5, Flags: f})
	w.nodes[i].Host = host
	w.nodes[host].Shadow = i
	return i, 0
}

// above is whether one goes from i to j; a node that is somebody's shadow root or content has no Up.
func (w *words) above(i, j int) bool {
	if i == -1 || i == j {
		return i == j
	}
	if w.nodes[i].Up != -1 {
		return w.above(w.nodes[i].Up, j)
	}
	return w.above(w.nodes[i].Host, j)
}

func (w *words) isContent(i int) bool {
	for _, n := range w.nodes {
		if n.Content == i {
			return true
		}
	}
	return false
}

func (w *words) Insert(up, i, before int) api.Errno {
	if !w.is(up) || !w.is(i) || before != -1 && !w.is(before) {
		return 80
	}
	u, n := w.nodes[up], w.nodes[i]
	if u.Kind != 1 && u.Kind != 4 && u.Kind != 5 || u.Kind == 1 && strings.Contains(voidNames, " "+u.Name+" ") {
		return 81
	}
	if i == 0 || n.Kind == 5 || w.isContent(i) || w.above(up, i) {
		return 81
	}
	if before != -1 && w.nodes[before].Up != up {
		return 81
	}
	if n.Kind == 4 {
		for _, kid := range n.Kids {
			w.move(up, kid, before)
		}
		return 0
	}
	if before == i {
		k := slices.Index(u.Kids, i) + 1
		before = -1
		if k < len(u.Kids) {
			before = u.Kids[k]
		}
	}
	w.move(up, i, before)
	return 0
}

func (w *words) without(i int) {
	if up := w.nodes[i].Up; up != -1 {
		w.nodes[up].Kids = lack(w.nodes[up].Kids, i)
		w.nodes[i].Up = -1
	}
}

func (w *words) move(up, i, before int) {
	w.without(i)
	var kids []int
	for _, kid := range w.nodes[up].Kids {
		if kid == before {
			kids = append(kids, i)
		}
		kids = append(kids, kid)
	}
	if before == -1 {
		kids = append(kids, i)
	}
	w.nodes[up].Kids = kids
	w.nodes[i].Up = up
}

func lack(l []int, i int) []int {
	var out []int
	for _, x := range l {
		if x != i {
			out = append(out, x)
		}
	}
	return out
}

func (w *words) Remove(i int) api.Errno {
	if !w.is(i) {
		return 80
	}
	if w.nodes[i].Up == -1 {
		return 81
	}
	w.without(i)
	return 0
}

func (w *words) Set(i int, name, value string) api.Errno {
	if !w.is(i) {
		return 80
	}
	if w.nodes[i].Kind != 1 {
		return 81
	}
	others, at := 0, -1
	for k, a := range w.nodes[i].Attrs {
		if a.Name == name {
			at = k
		} else {
			others++
		}
	}
	if !writableByWords(name, value) || others == 50 {
		return 82
	}
	if at >= 0 {
		w.nodes[i].Attrs[at].Value = value
	} else {
		w.nodes[i].Attrs = append(w.nodes[i].Attrs, api.Attr{Name: name, Value: value})
	}
	return 0
}

func (w *words) Drop(i int, name string) api.Errno {
	if !w.is(i) {
		return 80
	}
	if w.nodes[i].Kind != 1 {
		return 81
	}
	var out []api.Attr
	for _, a := range w.nodes[i].Attrs {
		if a.Name != name {
			out = append(out, a)
		}
	}
	if len(out) == len(w.nodes[i].Attrs) {
		return 82
	}
	w.nodes[i].Attrs = out
	return 0
}

func (w *words) Write(i int, data string) api.Errno {
	if !w.is(i) {
		return 80
	}
	if k := w.nodes[i].Kind; k != 2 && k != 3 {
		return 81
	}
	w.nodes[i].Data = data
	return 0
}

func (w *words) Give(slot int, l []int) api.Errno {
	for _, i := range append([]int{slot}, l...) {
		if !w.is(i) {
			return 80
		}
	}
	if w.nodes[slot].Kind != 1 || w.nodes[slot].Name != "slot" {
		return 110
	}
	for _, i := range l {
		if k := w.nodes[i].Kind; k != 1 && k != 2 {
			return 81
		}
	}
	if len(l) > 200 {
		return 1
	}
	w.lists[slot] = nil
	for _, i := range l {
		if slices.Contains(w.lists[slot], i) {
			continue
		}
		for k := range w.lists {
			w.lists[k] = lack(w.lists[k], i)
		}
		w.lists[slot] = append(w.lists[slot], i)
	}
	return 0
}

func (w *words) Slot(i int) int {
	for slot, l := range w.lists {
		if slices.Contains(l, i) {
			return slot
		}
	}
	return -1
}

package tree_test

import (
	"strings"

	"portiere/api"
)

// The chapter's sentences in another way than the program's: elements that know the one above them, and lists of names as they are written there.

const (
	voidNames  = " area base br col embed hr img input link meta source track wbr "
	blockNames = " address article aside blockquote details dialog div dl fieldset figcaption figure footer form h1 h2 h3 h4 h5 h6 header hgroup hr main menu nav ol p pre search section summary table ul "
	boundNames = " template button object "
	headings   = " h1 h2 h3 h4 h5 h6 "
	looseNames = " li dd dt option optgroup p "
	small      = "abcdefghijklmnopqrstuvwxyz"
)

func in(list, name string) bool {
	return name != "" && !strings.Contains(name, " ") && strings.Contains(list, " "+name+" ")
}

func validByWords(name string) bool {
	return name != "" && len(name) <= 60 && strings.IndexByte(small, name[0]) >= 0 && strings.Trim(name, small+"0123456789-._") == ""
}

// opened is an element that is open, and the one that was open when it was opened.
type opened struct {
	name string
	up   *opened
}

func (o *opened) count() int {
	if o == nil {
		return 0
	}
	return 1 + o.up.count()
}

// nearest is the nearest one of these names, from o on; nil, if one of bars is nearer.
func (o *opened) nearest(list, bars string) *opened {
	if o == nil || in(list, o.name) {
		return o
	}
	if in(bars, o.name) {
		return nil
	}
	return o.up.nearest(list, bars)
}

// words is what the chapter's words make of tokens.
type words struct {
	top    *opened
	items  []api.Item
	faults []api.Fault
}

func buildByWords(l []api.Token) ([]api.Item, []api.Fault, api.Errno) {
	w := &words{}
	for _, t := range l {
		w.token(t)
	}
	if len(w.items) > 5000 {
		return nil, nil, 3
	}
	for _, item := range w.items {
		if len(item.Attrs) > 50 {
			return nil, nil, 3
		}
	}
	return w.items, w.faults, 0
}

func (w *words) fault(kind uint8, at int) {
	w.faults = append(w.faults, api.Fault{Kind: kind, At: at})
}

func (w *words) item(kind uint8, name, data string, attrs []api.Attr) {
	w.items = append(w.items, api.Item{Deep: w.top.count(), Kind: kind, Name: name, Data: data, Attrs: attrs})
}

// ended: it, and all opened behind it, are open no more.
func (w *words) ended(o *opened) bool {
	if o != nil {
		w.top = o.up
	}
	return o != nil
}

func (w *words) topIs(list string) *opened {
	if w.top != nil && in(list, w.top.name) {
		return w.top
	}
	return nil
}

func (w *words) token(t api.Token) {
	switch t.Kind {
	case 1:
		w.start(t)
	case 2:
		w.end(t)
	case 3:
		if len(t.Data) > 0 {
			w.item(2, "", t.Data, nil)
		}
	case 4:
		w.item(3, "", t.Data, nil)
	case 5:
		if w.items == nil {
			w.item(6, t.Name, "", nil)
		} else {
			w.fault(8, t.At)
		}
	}
}

func (w *words) start(t api.Token) {
	if !validByWords(t.Name) {
		w.fault(4, t.At)
		return
	}
	if t.Name == "li" {
		w.ended(w.top.nearest(" li ", " ul ol"+boundNames))
	}
	if t.Name == "dd" || t.Name == "dt" {
		w.ended(w.top.nearest(" dd dt ", " dl"+boundNames))
	}
	if t.Name == "option" || t.Name == "optgroup" {
		w.ended(w.topIs(" option "))
	}
	if t.Name == "optgroup" {
		w.ended(w.topIs(" optgroup "))
	}
	if in(headings, t.Name) && w.ended(w.topIs(headings)) {
		w.fault(9, t.At)
	}
	if (t.Name == "a" || t.Name == "button") && w.ended(w.top.nearest(" "+t.Name+" ", " template ")) {
		w.fault(9, t.At)
	}
	if in(blockNames+" li dd dt ", t.Name) {
		w.ended(w.top.nearest(" p ", boundNames))
	}
	var attrs []api.Attr
	for i := range t.Attrs {
		if writableByWords(t.Attrs, i) {
			attrs = append(attrs, t.Attrs[i])
		} else {
			w.fault(5, t.At)
		}
	}
	w.item(1, t.Name, "", attrs)
	if !in(voidNames, t.Name) && w.top.count() < 100 {
		w.top = &opened{name: t.Name, up: w.top}
	}
}

func (w *words) end(t api.Token) {
	if t.Name == "br" || t.Name == "p" && w.top.nearest(" p ", boundNames) == nil {
		w.item(1, t.Name, "", nil)
		w.fault(8, t.At)
		return
	}
	if in(voidNames, t.Name) || !validByWords(t.Name) {
		w.fault(8, t.At)
		return
	}
	list := " " + t.Name + " "
	if in(headings, t.Name) {
		list = headings
	}
	o := w.top.nearest(list, " template ")
	if o == nil {
		w.fault(8, t.At)
		return
	}
	closed := o.name != t.Name
	for p := w.top; p != o; p = p.up {
		closed = closed || !in(looseNames, p.name)
	}
	w.ended(o)
	if closed {
		w.fault(9, t.At)
	}
}

func writableByWords(l []api.Attr, i int) bool {
	a := l[i]
	for _, b := range l[:i] {
		if b.Name == a.Name {
			return false
		}
	}
	for _, c := range []byte(a.Name) {
		switch {
		case c == 0, c == 9, c == 0x0a, c == 0x0c, c == 0x20, c == '/', c == '>', c == '=', c > '@' && c < '[':
			return false
		}
	}
	return len(a.Name) > 0 && len(a.Name) < 61 && len(a.Value) < 2001
}

// soundByWords looks at each sentence for all items.
func soundByWords(l []api.Item) bool {
	if len(l) > 5000 || len(l) > 0 && l[0].Deep != 0 {
		return false
	}
	for i, item := range l {
		if item.Deep < 0 || !fitsByWords(item) || item.Kind == 6 && i > 0 {
			return false
		}
		if i == 0 {
			continue
		}
		ahead := l[i-1]
		if item.Deep > ahead.Deep && (ahead.Kind != 1 || in(voidNames, ahead.Name) || item.Deep-ahead.Deep > 1) {
			return false
		}
	}
	return true
}

func fitsByWords(item api.Item) bool {
	if item.Kind == 1 {
		for i := range item.Attrs {
			if i == 50 || !writableByWords(item.Attrs, i) {
				return false
			}
		}
		return validByWords(item.Name) && item.Data == ""
	}
	if len(item.Attrs) > 0 || item.Name != "" && item.Kind != 6 {
		return false
	}
	return item.Kind == 2 && item.Data != "" || item.Kind == 3 || item.Kind == 6 && item.Data == ""
}

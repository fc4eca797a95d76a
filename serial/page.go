package serial

import (
	"strings"

	"portiere/api"
	"portiere/dom"
	"portiere/escape"
	"portiere/names"
)

// none stands where there is no node.
const none = -1

// page gathers what is written of its document.
type page struct {
	strings.Builder
	doc          *dom.Doc
	serializable bool
	asked        []bool // by number: a long list of roots is gone through but once
}

func newPage(d *dom.Doc, o api.Options) *page {
	p := &page{doc: d, serializable: o.Serializable, asked: make([]bool, d.Len())}
	for _, i := range o.Roots {
		if 0 <= i && i < len(p.asked) {
			p.asked[i] = true
		}
	}
	return p
}

func (p *page) put(parts ...string) {
	for _, s := range parts {
		p.WriteString(s)
	}
}

// start writes the beginning of an element.
func (p *page) start(name string, attrs ...api.Attr) {
	p.put("<", name)
	for _, a := range attrs {
		p.put(" ", a.Name, `="`, escape.Value(a.Value), `"`)
	}
	p.put(">")
}

func (p *page) end(name string) { p.put("</", name, ">") }

// outer writes a node; raw says whether it is in an element of which texts are written as they are.
func (p *page) outer(n api.Node, raw bool) {
	switch n.Kind {
	case api.Element:
		p.element(n)
	case api.Text:
		p.text(n.Data, raw)
	case api.Comment:
		p.put("<!--", n.Data, "-->")
	case api.Doctype:
		p.put("<!DOCTYPE ", n.Name, ">")
	case api.Fragment, api.Shadow:
		p.inner(n)
	}
}

func (p *page) element(n api.Node) {
	p.start(n.Name, n.Attrs...)
	if isVoid(n) {
		return
	}
	p.inner(n)
	p.end(n.Name)
}

func (p *page) text(data string, raw bool) {
	if !raw {
		data = escape.Text(data)
	}
	p.put(data)
}

// inner writes what is in a node. One that is void is asked for ahead of its shadow root: it may have one, but nothing could be read as being in it.
func (p *page) inner(n api.Node) {
	if isVoid(n) {
		return
	}
	if n.Shadow != none {
		p.root(n.Shadow)
	}
	if n.Content != none {
		// A template's own Kids are not written.
		n, _ = p.doc.Node(n.Content)
	}
	raw := isRaw(n)
	for _, i := range n.Kids {
		kid, _ := p.doc.Node(i)
		p.outer(kid, raw)
	}
}

// root writes a shadow root as a template, if it is chosen.
func (p *page) root(i int) {
	n, _ := p.doc.Node(i)
	if !p.asked[i] && !(p.serializable && n.Flags.Serializable) {
		return
	}
	p.start("template", written(n.Flags)...)
	p.inner(n)
	p.end("template")
}

// written is a shadow root's flags as the attributes of its template.
func written(f api.Flags) []api.Attr {
	mode := "open"
	if f.Closed {
		mode = "closed"
	}
	out := []api.Attr{{Name: "shadowrootmode", Value: mode}}
	if f.Delegates {
		out = append(out, api.Attr{Name: "shadowrootdelegatesfocus"})
	}
	if f.Serializable {
		out = append(out, api.Attr{Name: "shadowrootserializable"})
	}
	if f.Manual {
		out = append(out, api.Attr{Name: "shadowrootslotassignment", Value: "manual"})
	}
	if f.Clonable {
		out = append(out, api.Attr{Name: "shadowrootclonable"})
	}
	return out
}

func isVoid(n api.Node) bool { return n.Kind == api.Element && names.Void(n.Name) }

// isRaw is false of no node at all, too.
func isRaw(n api.Node) bool { return n.Kind == api.Element && names.Raw(n.Name) }

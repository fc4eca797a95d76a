package clone_test

import (
	"strconv"
	"strings"

	"portiere/api"
)

// shape is a document as a text: each node's number, what it is, and what is in it.
func shape(w told) string {
	var out []string
	for i, n := range w.nodes {
		out = append(out, strconv.Itoa(i)+what(n)+kids(n.Kids))
	}
	return strings.Join(out, " ")
}

func kids(l []int) string {
	if len(l) == 0 {
		return ""
	}
	var out []string
	for _, i := range l {
		out = append(out, strconv.Itoa(i))
	}
	return "(" + strings.Join(out, " ") + ")"
}

func what(n api.Node) string {
	switch n.Kind {
	case api.Element:
		return elementShape(n)
	case api.Text:
		return `"` + n.Data + `"`
	case api.Comment:
		return "!" + n.Data
	case api.Doctype:
		return "?" + n.Name
	case api.Shadow:
		return "^" + strconv.Itoa(n.Host) + flagsShape(n.Flags)
	case api.Fragment:
		if n.Host >= 0 {
			return "<" + strconv.Itoa(n.Host)
		}
		return "#"
	}
	return "-"
}

func elementShape(n api.Node) string {
	s := n.Name
	for _, a := range n.Attrs {
		s += "," + a.Name + "=" + a.Value
	}
	if n.Shadow >= 0 {
		s += "^" + strconv.Itoa(n.Shadow)
	}
	if n.Content >= 0 {
		s += ">" + strconv.Itoa(n.Content)
	}
	return s
}

func flagsShape(f api.Flags) string {
	s := ""
	for _, r := range []struct {
		is   bool
		name string
	}{{f.Closed, "C"}, {f.Manual, "M"}, {f.Delegates, "D"}, {f.Serializable, "S"}, {f.Clonable, "L"}} {
		if r.is {
			s += r.name
		}
	}
	return s
}

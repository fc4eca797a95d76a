package build

import (
	"slices"

	"portiere/api"
	"portiere/names"
)

// step is a node that is to be made.
type step struct {
	api.Item
	up          int  // the step of its parent
	declarative bool // a shadow root of its parent is made, no template
	flags       api.Flags
	hosts       bool // a declarative one of it stands ahead
}

// plan is what is to be made, ahead of making it: all of it, or nothing.
type plan struct {
	above
	steps []step
	nodes int
}

func planOf(l []api.Item, shadows bool) *plan {
	// The Fragment is one, too.
	p := &plan{nodes: 1}
	for _, item := range l {
		p.add(item, shadows)
	}
	return p
}

func (p *plan) add(item api.Item, shadows bool) {
	s := step{Item: item, up: p.parent(item.Deep)}
	if shadows && p.isDeclarative(s) {
		s.declarative = true
		s.flags = flagsOf(s.Attrs)
		p.steps[s.up].hosts = true
	}
	p.nodes++
	if s.isTemplate() && !s.declarative {
		// Its content.
		p.nodes++
	}
	p.enter(item.Deep, len(p.steps))
	p.steps = append(p.steps, s)
}

// isDeclarative says whether a step is written as a shadow root, and its parent may have one, and has none yet.
func (p *plan) isDeclarative(s step) bool {
	if !s.isTemplate() || s.up == none || !asking(s.Attrs)("shadowrootmode", "open", "closed") {
		return false
	}
	parent := p.steps[s.up]
	return names.Host(parent.Name) && !parent.hosts
}

// isTemplate looks at the kind, too: a Doctype may have any name.
func (s step) isTemplate() bool { return s.Kind == api.Element && s.Name == "template" }

func flagsOf(l []api.Attr) api.Flags {
	asks := asking(l)
	return api.Flags{
		Closed:       asks("shadowrootmode", "closed"),
		Manual:       asks("shadowrootslotassignment", "manual"),
		Delegates:    asks("shadowrootdelegatesfocus"),
		Serializable: asks("shadowrootserializable"),
		Clonable:     asks("shadowrootclonable"),
	}
}

// asking tells of attributes whether one has that name, and one of these values; any value will do where none is named.
func asking(l []api.Attr) func(name string, values ...string) bool {
	return func(name string, values ...string) bool {
		return slices.ContainsFunc(l, func(a api.Attr) bool {
			return a.Name == name && (len(values) == 0 || slices.Contains(values, names.Lower(a.Value)))
		})
	}
}

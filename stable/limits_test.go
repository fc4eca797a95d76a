package stable_test

import (
	"strings"
	"testing"

	"portiere/api"
	"portiere/dom"
	"portiere/stable"
)

// As deep as may be: elements, contents, shadow roots.
func TestAsDeepAsMayBe(t *testing.T) {
	rows := []struct {
		name    string
		shadows bool
	}{{"div", false}, {"template", false}, {"div", true}, {"template", true}}
	for _, r := range rows {
		s := newScene(t, api.MaxItems)
		up := s.element("div")
		for s.Limit()-s.Len() >= 4 {
			i := s.element(r.name)
			s.put(up, i)
			up = i
			if n, _ := s.Node(i); n.Content != -1 && !r.shadows {
				up = n.Content
			}
			if r.shadows {
				up = s.shadow(i, api.Flags{})
			}
		}
		last := s.text("a")
		s.put(up, last)
		if stable.Stable(s.Doc, 1) {
			t.Errorf("%v: it is too deep", r)
		}
		d := s.Copy()
		if !stable.Same(s.Doc, 1, d, 1) {
			t.Errorf("%v: a copy is not the same", r)
		}
		s.wants(s.Write(last, "b"))
		if stable.Same(s.Doc, 1, d, 1) || stable.Same(d, 1, s.Doc, 1) {
			t.Errorf("%v: the last node is not compared", r)
		}
	}
}

// As wide as may be: what is wrong is with the last of them alone.
func TestAsWideAsMayBe(t *testing.T) {
	s := newScene(t, api.MaxItems)
	div, last := s.element("div"), 0
	for s.Len() < s.Limit()-1 {
		last = s.text("a")
		s.put(div, last, s.comment("b"))
	}
	d := s.Copy()
	for range 100 {
		if !stable.Stable(s.Doc, div) || !stable.Same(s.Doc, div, d, div) {
			t.Fatal("it is stable, and the same")
		}
	}
	s.wants(s.Write(last, "a\x00"))
	if stable.Stable(s.Doc, div) || stable.Same(s.Doc, div, d, div) {
		t.Error("the last text has a byte 0")
	}
	s.wants(s.Write(last, "a"))
	s.wants(s.Remove(last + 1))
	s.wants(s.Insert(div, last+1, div+1))
	s.wants(s.Insert(div, div+1, -1))
	if stable.Stable(s.Doc, div) {
		t.Error("the last text is behind a text")
	}
}

func TestAsManyAttributesAsMayBe(t *testing.T) {
	s := newScene(t, 10)
	div, b := s.element("div"), s.element("b")
	s.put(div, b)
	name := ""
	for k := range api.MaxAttrs {
		name = strings.Repeat("a", k+1)
		s.wants(s.Set(b, name, strings.Repeat("b", api.MaxValue)))
	}
	s.stable(div, true)
	d := s.Copy()
	s.wants(s.Set(b, name, strings.Repeat("b", api.MaxValue-1)+"\x00"))
	s.stable(div, false)
	if stable.Same(s.Doc, div, d, div) {
		t.Error("the last attribute differs")
	}
}

// A document that has nothing but its first node.
func TestTheLeastDocument(t *testing.T) {
	d := dom.New(1)
	if stable.Stable(d, 0) || !stable.Same(d, 0, d, 0) || stable.Same(d, 0, d, 1) {
		t.Error("a Fragment is not stable, and the same as itself")
	}
}

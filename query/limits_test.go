package query_test

import (
	"slices"
	"strings"
	"testing"

	"portiere/api"
	"portiere/query"
)

// As deep as may be: each element in the one ahead of it.
func TestAsDeepAsMayBe(t *testing.T) {
	s := newScene(t, api.MaxItems)
	top, up := s.element("div", attr("id", "top")), 0
	s.put(0, top)
	up = top
	for s.Len() < s.Limit()-1 {
		i := s.element("b", attr("x", ""))
		s.put(up, i)
		up = i
	}
	last := s.element("i", attr("id", "last"))
	s.put(up, last)
	s.id(0, "last", last)
	s.id(0, "top", top)
	s.id(top, "top", -1)
	s.name(0, "i", last)
	s.closest(last, "div", top)
	s.closest(last, "b", up)
	s.closest(last, "u", -1)
	s.closest(top, "b", -1)
	if l := query.ByName(s.Doc, 0, "*"); len(l) != api.MaxItems-1 || l[0] != top || l[len(l)-1] != last {
		t.Errorf("%d elements", len(l))
	}
	if l := query.ByAttr(s.Doc, top, "x", ""); len(l) != api.MaxItems-3 || !slices.IsSorted(l) {
		t.Errorf("%d elements with the attribute", len(l))
	}
}

// As wide as may be, the last made ahead of all others.
func TestAsWideAsMayBe(t *testing.T) {
	s := newScene(t, api.MaxItems)
	first := -1
	for s.Len() < s.Limit() {
		i := s.element("b", attr("id", "a"))
		s.wants(s.Insert(0, i, first))
		first = i
	}
	for range 20 {
		s.id(0, "a", first)
		s.id(0, "b", -1)
	}
	l := query.ByAttr(s.Doc, 0, "id", "a")
	if len(l) != api.MaxItems-1 {
		t.Fatalf("%d elements", len(l))
	}
	for k, i := range l {
		if i != first-k {
			t.Fatalf("%d is %d-th", i, k)
		}
	}
	s.name(0, "b", l...)
	s.name(0, "*", l...)
}

func TestAsManyAttributesAsMayBe(t *testing.T) {
	s := newScene(t, 4)
	b := s.element(strings.Repeat("b", api.MaxName))
	s.put(0, b)
	value := strings.Repeat("v", api.MaxValue)
	name := strings.Repeat("n", api.MaxName)
	for k := range api.MaxAttrs - 1 {
		s.wants(s.Set(b, strings.Repeat("a", k+1), "x"))
	}
	s.wants(s.Set(b, name, value))
	s.attr(0, name, value, b)
	s.attr(0, name, value[1:])
	s.attr(0, name, value+"v")
	s.attr(0, name[1:], value)
	s.attr(0, name+"n", value)
	s.attr(0, "a", "x", b)
	s.name(0, strings.Repeat("b", api.MaxName), b)
	s.name(0, strings.Repeat("b", api.MaxName-1))
	s.name(0, strings.Repeat("b", api.MaxName+1))
	s.closest(b, strings.Repeat("b", api.MaxName), b)
	s.id(0, strings.Repeat("v", api.MaxBytes), -1)
}

// A document that has nothing but its first node.
func TestTheLeastDocument(t *testing.T) {
	s := newScene(t, 1)
	s.name(0, "*")
	s.name(0, "")
	s.attr(0, "id", "")
	s.id(0, "", -1)
	s.closest(0, "*", -1)
	s.closest(0, "", -1)
	hold(t, s.Doc)
}

package clone_test

import (
	"strconv"
	"strings"
	"testing"

	"portiere/api"
	"portiere/clone"
)

// chain makes n elements of a name, each in the one ahead; in its content, if it has one, or, with roots, in its shadow root. The first one is told.
func (s scene) chain(n int, roots bool, name string) int {
	s.t.Helper()
	first, up := s.Len(), 0
	for range n {
		i := s.element(name)
		if i != first {
			s.put(up, i)
		}
		up = i
		if m, _ := s.Node(i); m.Content != -1 {
			up = m.Content
		}
		if roots {
			up = s.shadow(i, api.Flags{Clonable: true})
		}
	}
	return first
}

// As deep as there is room for, with nothing left, and with one node too few.
func TestAsDeepAsMayBe(t *testing.T) {
	rows := []struct {
		name  string
		n     int
		roots bool
		nodes int
	}{
		{"b", 2499, false, 2499},
		{"template", 1249, false, 2498},
		{"div", 1249, true, 2498},
		{"template", 833, true, 2499},
	}
	for _, r := range rows {
		for _, room := range []int{r.nodes - 1, r.nodes} {
			s := newScene(t, 1+r.nodes+room)
			first := s.chain(r.n, r.roots, r.name)
			if s.Limit()-s.Len() != room {
				t.Fatalf("room is %d", s.Limit()-s.Len())
			}
			i, err := copied(t, s.Doc, first, true)
			if fits := room == r.nodes; fits && (i != 1+r.nodes || err != api.OK || s.Len() != s.Limit()) || !fits && (i != 0 || err != api.ErrLimit || s.Len() != 1+r.nodes) {
				t.Errorf("%d of %s, room %d: %d, %d, %d nodes", r.n, r.name, room, i, err, s.Len())
			}
		}
	}
}

// Deeper than that it can't be copied, but the last part of it can.
func TestDeeperThanHalf(t *testing.T) {
	for _, roots := range []bool{false, true} {
		s := newScene(t, api.MaxItems)
		n := 4980
		if roots {
			n /= 2
		}
		first := s.chain(n, roots, "div")
		s.refuses(first, true, api.ErrLimit)
		s.refuses(4961, true, api.ErrLimit)
		if i, err := copied(t, s.Doc, 4963, true); i != 4981 || err != api.OK || s.Len() != 4999 {
			t.Errorf("%d, %d, %d nodes", i, err, s.Len())
		}
	}
}

func TestAsWideAsMayBe(t *testing.T) {
	for _, n := range []int{2498, 2499} {
		s := newScene(t, api.MaxItems)
		div := s.element("div")
		for k := range n {
			s.put(div, s.text(strconv.Itoa(k)))
		}
		i, err := copied(t, s.Doc, div, true)
		if fits := n == 2498; fits != (err == api.OK) || fits != (i == n+2) || !fits && (err != api.ErrLimit || s.Len() != n+2) {
			t.Errorf("%d texts: %d, %d, %d nodes", n, i, err, s.Len())
		}
	}
}

// One copy behind another, till there is no room.
func TestCopiesTillThereIsNoRoom(t *testing.T) {
	s := newScene(t, api.MaxItems)
	template := s.element("template")
	for s.Len() < 4999 {
		if i, err := clone.Clone(s.Doc, template, false); i != s.Len()-2 || err != api.OK {
			t.Fatalf("%d, %d", i, err)
		}
	}
	s.refuses(template, false, api.ErrLimit)
	if i, err := copied(t, s.Doc, template+1, true); i != 4999 || err != api.OK {
		t.Errorf("the last one: %d, %d", i, err)
	}
	s.refuses(template+1, false, api.ErrLimit)
}

func TestAsManyAttributesAsMayBe(t *testing.T) {
	var attrs []api.Attr
	for k := range api.MaxAttrs {
		attrs = append(attrs, api.Attr{Name: strings.Repeat("a", k+1), Value: strings.Repeat("x", api.MaxValue)})
	}
	s := newScene(t, 3)
	i := s.element(strings.Repeat("a", api.MaxName), attrs...)
	if k, err := copied(t, s.Doc, i, false); k != 2 || err != api.OK {
		t.Errorf("%d, %d", k, err)
	}
	s = newScene(t, 3)
	i = s.text("")
	s.wants(s.Write(i, strings.Repeat("x", 100000)))
	if k, err := copied(t, s.Doc, i, true); k != 2 || err != api.OK {
		t.Errorf("%d, %d", k, err)
	}
}

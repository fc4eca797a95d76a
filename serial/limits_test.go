package serial_test

import (
	"strconv"
	"strings"
	"testing"

	"portiere/api"
	"portiere/serial"
)

// As deep as may be: elements, templates, shadow roots.
func TestAsDeepAsMayBe(t *testing.T) {
	rows := []struct {
		name       string
		shadows    bool
		start, end string
	}{
		{"b", false, "<b>", "</b>"},
		{"template", false, "<template>", "</template>"},
		{"div", true, "<div>" + kept, end + "</div>"},
		{"template", true, "<template>" + kept, end + "</template>"},
	}
	for _, r := range rows {
		s := newScene(t, api.MaxItems)
		up, n := 0, 0
		for s.Limit()-s.Len() >= 3 {
			i := s.element(r.name)
			s.put(up, i)
			up = i
			if m, _ := s.Node(i); m.Content != -1 {
				up = m.Content
			}
			if r.shadows {
				up = s.shadow(i, api.Flags{Serializable: true})
			}
			n++
		}
		s.inner(0, serializable(), strings.Repeat(r.start, n)+strings.Repeat(r.end, n))
		if r.shadows {
			s.inner(0, none(), "<"+r.name+"></"+r.name+">")
		}
	}
}

func TestAsWideAsMayBe(t *testing.T) {
	for _, name := range []string{"div", "script"} {
		s := newScene(t, api.MaxItems)
		holder := s.element(name)
		want := ""
		for s.Len() < s.Limit() {
			data := strconv.Itoa(s.Len()) + "&"
			s.put(holder, s.text(data))
			want += data
		}
		if name == "div" {
			want = strings.ReplaceAll(want, "&", "&amp;")
		}
		s.inner(holder, none(), want)
		s.outer(holder, none(), "<"+name+">"+want+"</"+name+">")
	}
}

// As many hosts as may be, and very many roots that are asked for: each number a thousand times, and such as are none.
func TestAsManyRootsAsMayBe(t *testing.T) {
	s := newScene(t, api.MaxItems)
	n := 0
	for s.Limit()-s.Len() >= 2 {
		host := s.element("div")
		s.shadow(host, api.Flags{})
		s.put(0, host)
		n++
	}
	var l []int
	for k := range 2 * 1000 * api.MaxItems {
		l = append(l, k%(2*api.MaxItems)-api.MaxItems)
	}
	if got := serial.Inner(s.Doc, 0, roots(l...)); got != strings.Repeat("<div>"+open+end+"</div>", n) {
		t.Errorf("%d bytes", len(got))
	}
	// All but those of the second half.
	want := strings.Repeat("<div>"+open+end+"</div>", n/2) + strings.Repeat("<div></div>", n-n/2)
	if got := serial.Inner(s.Doc, 0, roots(l[:api.MaxItems+1+n/2*2]...)); got != want {
		t.Errorf("%d bytes, not %d", len(got), len(want))
	}
}

func TestAsManyAttributesAsMayBe(t *testing.T) {
	var attrs []api.Attr
	name, want := strings.Repeat("a", api.MaxName), ""
	for k := range api.MaxAttrs {
		attrs = append(attrs, attr(strings.Repeat("a", k+11), strings.Repeat(`"`, api.MaxValue)))
		want += " " + strings.Repeat("a", k+11) + `="` + strings.Repeat("&quot;", api.MaxValue) + `"`
	}
	s := newScene(t, 3)
	s.outer(s.element(name, attrs...), none(), "<"+name+want+"></"+name+">")
}

// Data has no limit.
func TestLongTexts(t *testing.T) {
	s := newScene(t, 5)
	text, note, script := s.text(""), s.node(api.Node{Kind: api.Comment}), s.element("script")
	s.wants(s.Write(text, strings.Repeat("<\u00a0", 100000)))
	s.wants(s.Write(note, strings.Repeat("<\u00a0", 100000)))
	s.outer(text, none(), strings.Repeat("&lt;&nbsp;", 100000))
	s.outer(note, none(), "<!--"+strings.Repeat("<\u00a0", 100000)+"-->")
	s.put(script, text, note)
	s.inner(script, none(), strings.Repeat("<\u00a0", 100000)+"<!--"+strings.Repeat("<\u00a0", 100000)+"-->")
}

package dom_test

import (
	"slices"
	"strconv"
	"strings"
	"testing"

	"portiere/api"
)

// notElements are one of each kind that has no attributes.
func notElements(p *pair) []int {
	out := []int{0, p.text("x"), p.fragment(), p.shadow(p.element("div")), p.element("template") + 1}
	for _, kind := range []uint8{api.Comment, api.Doctype} {
		i, _ := p.make(api.Node{Kind: kind})
		out = append(out, i)
	}
	return out
}

func (p *pair) attrs(i int, want ...api.Attr) {
	p.t.Helper()
	n, _ := p.d.Node(i)
	if !slices.Equal(n.Attrs, want) {
		p.t.Fatalf("attributes of %d are %v, not %v", i, n.Attrs, want)
	}
}

func TestSetAndDrop(t *testing.T) {
	p := newPair(t, 30)
	a, b := p.element("a"), p.element("b")
	p.wants(p.set(a, "x", "1"), api.OK)
	p.wants(p.set(a, "y", "2"), api.OK)
	p.wants(p.set(a, "z", ""), api.OK)
	p.wants(p.set(b, "x", "9"), api.OK)
	p.attrs(a, api.Attr{Name: "x", Value: "1"}, api.Attr{Name: "y", Value: "2"}, api.Attr{Name: "z"})
	// A new value stands where the old one did.
	p.wants(p.set(a, "y", "3"), api.OK)
	p.attrs(a, api.Attr{Name: "x", Value: "1"}, api.Attr{Name: "y", Value: "3"}, api.Attr{Name: "z"})
	p.wants(p.drop(a, "x"), api.OK)
	p.attrs(a, api.Attr{Name: "y", Value: "3"}, api.Attr{Name: "z"})
	// One that was dropped is a new one again.
	p.wants(p.set(a, "x", "4"), api.OK)
	p.attrs(a, api.Attr{Name: "y", Value: "3"}, api.Attr{Name: "z"}, api.Attr{Name: "x", Value: "4"})
	for _, name := range []string{"z", "x", "y"} {
		p.wants(p.drop(a, name), api.OK)
		p.wants(p.drop(a, name), api.ErrName)
	}
	p.attrs(a)
	p.attrs(b, api.Attr{Name: "x", Value: "9"})
}

func TestSetAndDropOfNoElement(t *testing.T) {
	p := newPair(t, 30)
	for _, i := range notElements(p) {
		p.wants(p.set(i, "a", "b"), api.ErrTree)
		p.wants(p.set(i, "A", "b"), api.ErrTree)
		p.wants(p.drop(i, "a"), api.ErrTree)
	}
}

func TestDropOfNone(t *testing.T) {
	p := newPair(t, 30)
	i, _ := p.make(api.Node{Kind: api.Element, Name: "b", Attrs: []api.Attr{{Name: "a"}, {Name: "ab"}}})
	for _, name := range []string{"", "A", "b", "a ", "abc", "a\x00"} {
		p.wants(p.drop(i, name), api.ErrName)
	}
	p.wants(p.drop(i, "ab"), api.OK)
	p.attrs(i, api.Attr{Name: "a"})
}

func TestSetNames(t *testing.T) {
	p := newPair(t, 30)
	i := p.element("b")
	for c := range 256 {
		for _, name := range []string{string([]byte{byte(c)}), "a" + string([]byte{byte(c)}), "a" + string([]byte{byte(c)}) + "a"} {
			want := api.OK
			if c >= 'A' && c <= 'Z' || strings.IndexByte("\x00\x09\x0a\x0c\x20/>=", byte(c)) >= 0 {
				want = api.ErrName
			}
			p.wants(p.set(i, name, "v"), want)
			if want == api.OK {
				p.wants(p.drop(i, name), api.OK)
			}
		}
	}
	for n := range 130 {
		want := api.ErrName
		if n >= 1 && n <= 60 {
			want = api.OK
		}
		q := p.copied()
		q.wants(q.set(i, strings.Repeat("n", n), "v"), want)
	}
	p.wants(p.set(i, "ä", "v"), api.OK)
	p.wants(p.set(i, strings.Repeat("ä", 31), "v"), api.ErrName)
	p.wants(p.set(i, "<\"'`&", "v"), api.OK)
}

func TestSetValues(t *testing.T) {
	p := newPair(t, 30)
	i := p.element("b")
	for _, value := range []string{"", "\x00\xff", "A b=/>", strings.Repeat("v", 2000)} {
		p.wants(p.set(i, "a", value), api.OK)
		p.attrs(i, api.Attr{Name: "a", Value: value})
	}
	old := strings.Repeat("v", 2000)
	p.wants(p.set(i, "a", old+"v"), api.ErrName)
	p.wants(p.set(i, "b", old+"v"), api.ErrName)
	p.attrs(i, api.Attr{Name: "a", Value: old})
	p.wants(p.set(i, "a", strings.Repeat("ä", 1001)), api.ErrName)
}

func TestFiftyAttributes(t *testing.T) {
	p := newPair(t, 30)
	i := p.element("b")
	for k := range 50 {
		p.wants(p.set(i, "a"+strconv.Itoa(k), "v"), api.OK)
	}
	p.wants(p.set(i, "more", "v"), api.ErrName)
	for k := range 50 {
		p.wants(p.set(i, "a"+strconv.Itoa(k), "w"), api.OK) // there are 49 others
	}
	p.wants(p.drop(i, "a7"), api.OK)
	p.wants(p.set(i, "more", "v"), api.OK)
	p.wants(p.set(i, "a7", "v"), api.ErrName)
	n, _ := p.d.Node(i)
	if len(n.Attrs) != 50 || n.Attrs[49].Name != "more" {
		t.Errorf("%v", n.Attrs)
	}
}

func TestWrite(t *testing.T) {
	p := newPair(t, 30)
	text := p.text("x")
	note, _ := p.make(api.Node{Kind: api.Comment, Data: "x"})
	for _, data := range []string{"y", "", "\x00\xff", "-->", strings.Repeat("long", 50000)} {
		for _, i := range []int{text, note} {
			p.wants(p.write(i, data), api.OK)
			if n, _ := p.d.Node(i); n.Data != data {
				t.Errorf("%q, not %q", n.Data, data)
			}
		}
	}
	q := newPair(t, 30)
	others := append(notElements(q), q.element("b"), q.element("br"))
	for _, i := range others {
		if n, _ := q.d.Node(i); n.Kind != api.Text && n.Kind != api.Comment {
			q.wants(q.write(i, "y"), api.ErrTree)
			q.wants(q.write(i, ""), api.ErrTree)
		}
	}
}

package tree_test

import (
	"math"
	"math/rand"
	"slices"
	"strconv"
	"strings"
	"testing"

	"portiere/api"
	"portiere/tree"
)

func holdSound(t *testing.T, l []api.Item, want bool) {
	t.Helper()
	if got := tree.Sound(l); got != want || soundByWords(l) != want {
		t.Errorf("Sound(%.500v) = %v, not %v (by words %v)", l, got, want, soundByWords(l))
	}
}

func element(deep int, name string, attrs ...api.Attr) api.Item {
	return api.Item{Deep: deep, Kind: api.Element, Name: name, Attrs: attrs}
}

func textItem(deep int) api.Item { return api.Item{Deep: deep, Kind: api.Text, Data: "x"} }

func commentItem(deep int) api.Item { return api.Item{Deep: deep, Kind: api.Comment} }

func TestSoundKinds(t *testing.T) {
	attrs := []api.Attr{{Name: "a"}}
	rows := []struct {
		item api.Item
		want bool
	}{
		{api.Item{}, false},
		{api.Item{Kind: api.Element, Name: "b"}, true},
		{api.Item{Kind: api.Element, Name: "b", Attrs: attrs}, true},
		{api.Item{Kind: api.Element, Name: "br", Attrs: attrs}, true},
		{api.Item{Kind: api.Element, Name: "b", Attrs: []api.Attr{}}, true},
		{api.Item{Kind: api.Element, Name: "b", Data: "x"}, false},
		{api.Item{Kind: api.Element}, false},
		{api.Item{Kind: api.Element, Name: "B"}, false},
		{api.Item{Kind: api.Element, Name: "b c"}, false},
		{api.Item{Kind: api.Element, Name: strings.Repeat("b", 60)}, true},
		{api.Item{Kind: api.Element, Name: strings.Repeat("b", 61)}, false},
		{api.Item{Kind: api.Text, Data: "x"}, true},
		{api.Item{Kind: api.Text, Data: "\x00\xff"}, true},
		{api.Item{Kind: api.Text}, false},
		{api.Item{Kind: api.Text, Data: "x", Name: "b"}, false},
		{api.Item{Kind: api.Text, Data: "x", Attrs: attrs}, false},
		{api.Item{Kind: api.Text, Data: "x", Attrs: []api.Attr{}}, true},
		{api.Item{Kind: api.Comment}, true},
		{api.Item{Kind: api.Comment, Data: "-->\x00"}, true},
		{api.Item{Kind: api.Comment, Name: "b"}, false},
		{api.Item{Kind: api.Comment, Attrs: attrs}, false},
		{api.Item{Kind: api.Doctype}, true},
		{api.Item{Kind: api.Doctype, Name: "html"}, true},
		{api.Item{Kind: api.Doctype, Name: strings.Repeat("A >", 99)}, true},
		{api.Item{Kind: api.Doctype, Name: "html", Data: "x"}, false},
		{api.Item{Kind: api.Doctype, Name: "html", Attrs: attrs}, false},
	}
	for _, r := range rows {
		holdSound(t, []api.Item{r.item}, r.want)
		holdSound(t, []api.Item{commentItem(0), r.item}, r.want && r.item.Kind != api.Doctype)
		holdSound(t, []api.Item{r.item, commentItem(0)}, r.want)
	}
	holdSound(t, nil, true)
	holdSound(t, []api.Item{}, true)
	for kind := range 256 {
		item := api.Item{Kind: uint8(kind)}
		holdSound(t, []api.Item{item}, kind == 3 || kind == 6)
		item.Data = "x"
		holdSound(t, []api.Item{item}, kind == 2 || kind == 3)
		item.Data, item.Name = "", "b"
		holdSound(t, []api.Item{item}, kind == 1 || kind == 6)
	}
}

func TestSoundDepths(t *testing.T) {
	doctype := api.Item{Kind: api.Doctype, Name: "html"}
	holdSound(t, []api.Item{doctype, element(0, "b"), textItem(1)}, true)
	holdSound(t, []api.Item{doctype, textItem(1)}, false)
	holdSound(t, []api.Item{doctype, doctype}, false)
	for _, deep := range []int{-1, 1, 2, 100, math.MaxInt, math.MinInt} {
		holdSound(t, []api.Item{element(deep, "b")}, false)
		holdSound(t, []api.Item{textItem(deep), textItem(deep)}, false)
	}
	fronts := []struct {
		item api.Item
		room int
	}{{element(1, "b"), 1}, {element(1, "br"), 0}, {element(1, "template"), 1}, {textItem(1), 0}, {commentItem(1), 0}}
	for _, f := range fronts {
		for _, deep := range []int{math.MinInt, -2, -1, 0, 1, 2, 3, 4, math.MaxInt} {
			want := deep >= 0 && deep <= 1+f.room
			for _, back := range []api.Item{element(deep, "b"), element(deep, "br"), textItem(deep), commentItem(deep)} {
				holdSound(t, []api.Item{element(0, "b"), f.item, back}, want)
			}
		}
	}
	// How many may be within one another is Build's bound, not that of what is sound.
	var chain []api.Item
	for i := range 5000 {
		chain = append(chain, element(i, "b"))
		if i == 99 || i == 100 || i == 101 {
			holdSound(t, chain, true)
		}
	}
	if !tree.Sound(chain) {
		t.Error("5000 within one another")
	}
	if tree.Sound(append(chain, textItem(0))) {
		t.Error("5001")
	}
}

func TestSoundNumberOfItems(t *testing.T) {
	for _, n := range []int{4999, 5000, 5001, 9999} {
		l := slices.Repeat([]api.Item{commentItem(0)}, n)
		if tree.Sound(l) != (n <= 5000) {
			t.Errorf("%d items", n)
		}
	}
}

// holdAttributes holds Build and Sound to what is writable.
func holdAttributes(t *testing.T, attrs []api.Attr) {
	t.Helper()
	hold(t, []api.Token{{Kind: api.TokStart, Name: "b", Attrs: attrs, At: 3}})
	all := len(attrs) <= 50
	for i := range attrs {
		all = all && writableByWords(attrs, i)
	}
	holdSound(t, []api.Item{element(0, "b", attrs...)}, all)
}

func TestWritableNames(t *testing.T) {
	for c := range 256 {
		one := string([]byte{byte(c)})
		wrong := c == 0 || c == 9 || c == 10 || c == 12 || c == 32 || c == '/' || c == '>' || c == '=' || c >= 'A' && c <= 'Z'
		for _, name := range []string{one, "a" + one, one + "a", strings.Repeat("a", 59) + one} {
			holdSound(t, []api.Item{element(0, "b", api.Attr{Name: name})}, !wrong)
			holdAttributes(t, []api.Attr{{Name: "x"}, {Name: name, Value: one}, {Name: "y"}})
		}
	}
	for n := range 130 {
		for _, part := range []string{"a", "\xff", "\u00e4"} {
			holdAttributes(t, []api.Attr{{Name: strings.Repeat(part, n)}})
		}
	}
	holdSound(t, []api.Item{element(0, "b", api.Attr{})}, false)
	holdSound(t, []api.Item{element(0, "b", api.Attr{Name: strings.Repeat("a", 60)})}, true)
	holdSound(t, []api.Item{element(0, "b", api.Attr{Name: strings.Repeat("a", 61)})}, false)
}

func TestWritableValues(t *testing.T) {
	for _, n := range []int{0, 1, 1999, 2000, 2001, 5000} {
		for _, part := range []string{"a", "\x00", "A", "\""} {
			attrs := []api.Attr{{Name: "a", Value: strings.Repeat(part, n)}}
			holdSound(t, []api.Item{element(0, "b", attrs...)}, n <= 2000)
			holdAttributes(t, attrs)
		}
	}
}

func TestAttributesThatComeAgain(t *testing.T) {
	long := strings.Repeat("x", 2001)
	rows := []struct {
		attrs         []api.Attr
		items, faults string
	}{
		{[]api.Attr{{Name: "a", Value: "1"}, {Name: "a", Value: "2"}}, "0b,a=1", "attr@7"},
		{[]api.Attr{{Name: "a", Value: "1"}, {Name: "c"}, {Name: "a", Value: "1"}, {Name: "a"}}, "0b,a=1,c=", "attr@7 attr@7"},
		{[]api.Attr{{Name: "A"}, {Name: "a"}, {Name: "A"}}, "0b,a=", "attr@7 attr@7"},
		{[]api.Attr{{Name: ""}, {Name: ""}, {Name: "a"}}, "0b,a=", "attr@7 attr@7"},
		// One that is not writable stands ahead, too.
		{[]api.Attr{{Name: "a", Value: long}, {Name: "a", Value: "2"}, {Name: "c", Value: "3"}}, "0b,c=3", "attr@7 attr@7"},
	}
	for _, r := range rows {
		l, f, e := tree.Build([]api.Token{{Kind: api.TokStart, Name: "b", Attrs: r.attrs, At: 7}})
		if items, faults := told(l, f); items != r.items || faults != r.faults || e != api.OK {
			t.Errorf("%.200v: %q, %q, %d", r.attrs, items, faults, e)
		}
		holdAttributes(t, r.attrs)
	}
	// A fault for what is ended stands ahead of those of attributes.
	l, f, _ := tree.Build([]api.Token{{Kind: api.TokStart, Name: "a"}, {Kind: api.TokStart, Name: "a", Attrs: []api.Attr{{Name: "A"}}, At: 3}})
	if items, faults := told(l, f); items != "0a 0a" || faults != "closed@3 attr@3" {
		t.Errorf("%q, %q", items, faults)
	}
}

func TestNumberOfAttributes(t *testing.T) {
	for _, n := range []int{49, 50, 51, 60, 1000} {
		var attrs, mixed []api.Attr
		for i := range n {
			a := api.Attr{Name: "n" + strconv.Itoa(i), Value: strconv.Itoa(i)}
			attrs = append(attrs, a)
			mixed = append(mixed, a, api.Attr{Name: "N"}, a)
		}
		holdAttributes(t, attrs)
		holdAttributes(t, mixed)
		for _, l := range [][]api.Attr{attrs, mixed} {
			// The bound is on what an element has, not on what stands in its tag.
			tokens := []api.Token{{Kind: api.TokText, Data: "x"}, {Kind: api.TokStart, Name: "b", Attrs: l}, {Kind: api.TokText, Data: "y"}}
			items, faults, e := tree.Build(tokens)
			if n <= 50 && (e != api.OK || len(items) != 3 || len(items[1].Attrs) != n || len(faults) != len(l)-n) || n > 50 && (e != api.ErrLimit || len(items)+len(faults) > 0) {
				t.Errorf("%d attributes: %d items, %d", n, len(items), e)
			}
			hold(t, tokens)
		}
	}
	// Many that are not writable, and come again: each is looked at once.
	var many []api.Attr
	long := strings.Repeat("x", 2001)
	for i := range 1 << 17 {
		many = append(many, api.Attr{Name: strconv.Itoa(i), Value: long})
	}
	for i := range 1 << 17 {
		many = append(many, api.Attr{Name: strconv.Itoa(1<<17 - i)})
	}
	l, f, e := tree.Build([]api.Token{{Kind: api.TokStart, Name: "b", Attrs: many}})
	if len(l) != 1 || len(l[0].Attrs) != 1 || len(f) != 1<<18-1 || e != api.OK {
		t.Errorf("%d faults, %d", len(f), e)
	}
}

// TestSoundOfRandomItems changes one thing of a tree that was built: it is held to the chapter's words.
func TestSoundOfRandomItems(t *testing.T) {
	r := rand.New(rand.NewSource(3))
	sound := 0
	for range 20000 {
		l, _, _ := tree.Build(random(r, 1+r.Intn(30)))
		if len(l) == 0 {
			continue
		}
		item := &l[r.Intn(len(l))]
		switch r.Intn(6) {
		case 0:
			item.Deep += r.Intn(5) - 2
		case 1:
			item.Kind = uint8(r.Intn(8))
		case 2:
			item.Name = []string{"", "b", "br", "B", "p"}[r.Intn(5)]
		case 3:
			item.Data = []string{"", "x"}[r.Intn(2)]
		case 4:
			item.Attrs = append(item.Attrs, api.Attr{Name: string([]byte{byte(r.Intn(256))})})
		case 5:
			i, j := r.Intn(len(l)), r.Intn(len(l))
			l[i], l[j] = l[j], l[i]
		}
		want := soundByWords(l)
		if tree.Sound(l) != want {
			t.Fatalf("Sound(%v) = %v", l, !want)
		}
		if want {
			sound++
		}
	}
	if sound < 1000 || sound > 19000 {
		t.Errorf("%d of them are sound: too few of one sort", sound)
	}
}

func TestSoundChangesNothing(t *testing.T) {
	l := []api.Item{element(0, "b", api.Attr{Name: "a", Value: "1"}, api.Attr{Name: "c"}), textItem(1), commentItem(0), {Kind: 9}}
	m := slices.Clone(l)
	m[0].Attrs = slices.Clone(l[0].Attrs)
	// What lies behind the length is not looked at.
	if !tree.Sound(l[:3]) || tree.Sound(l) {
		t.Error("Sound")
	}
	behind := element(0, "b", api.Attr{Name: "a"}, api.Attr{Name: "A"})
	behind.Attrs = behind.Attrs[:1]
	holdSound(t, []api.Item{behind}, true)
	if !slices.EqualFunc(l, m, func(a, b api.Item) bool {
		return a.Deep == b.Deep && a.Kind == b.Kind && a.Name == b.Name && a.Data == b.Data && slices.Equal(a.Attrs, b.Attrs)
	}) {
		t.Error("what was handed in is changed")
	}
}

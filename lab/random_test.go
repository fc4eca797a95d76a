package lab_test

import (
	"fmt"
	"math/rand"
	"strings"
	"testing"

	"portiere/lab"
)

// writer writes a script by bytes, so that random ones and those of the fuzzer are the same.
type writer struct {
	b     []byte
	nodes int // about as many as there are
	out   strings.Builder
}

func (w *writer) pick(n int) int {
	if len(w.b) == 0 {
		return 0
	}
	x := int(w.b[0])
	w.b = w.b[1:]
	return x % n
}

func one[T any](w *writer, l ...T) T { return l[w.pick(len(l))] }

func (w *writer) number() string {
	switch w.pick(40) {
	case 0:
		return one(w, "-1", "999999", "01", "-2", "1000000", "x", "")
	case 1:
		return "-1"
	case 2, 3, 4:
		return "0"
	}
	// Early ones, late ones, or any.
	return fmt.Sprint(one(w, w.pick(min(w.nodes+1, 9)), max(0, w.nodes-w.pick(8)), w.pick(w.nodes+1)))
}

func (w *writer) numbers() string {
	s := ""
	for range w.pick(5) {
		s += " " + w.number()
	}
	return s
}

func (w *writer) markup() string {
	s := ""
	for range w.pick(10) {
		s += one(w, "<div>", "<x-a>", "<b>", "<b slot=a>", "</div>", "</b>", "</template>", "<template>", "<slot>", "<slot name=a></slot>", "</slot>", "a&lt;", "&#10;", "<!--x-->", "</", "&copy", "<br>", " ",
			"<div><template shadowrootmode=open>", "<p><template shadowrootmode=closed shadowrootserializable shadowrootclonable>", "<x-a><template shadowrootmode=open shadowrootslotassignment=manual>",
			"<div><template shadowrootmode=open><slot></slot></template>", "<div><template shadowrootmode=open><slot></slot><slot name=a></slot></template>x<b slot=a></b>")
	}
	return s
}

func (w *writer) flags() string {
	return one(w, "-", "c", "m", "s", "k", "d", "sk", "cmdsk", "mk", "x", "", "-c")
}

// line is mostly right.
func (w *writer) line() string {
	switch w.pick(24) {
	case 0:
		w.nodes++
		return "element " + one(w, "div", "x-a", "b", "slot", "slot", "template", "br", "B", "")
	case 1:
		w.nodes++
		return one(w, "text ", "comment ") + one(w, "", "a", " a ", "<")
	case 2:
		w.nodes++
		return "fragment"
	case 3, 4:
		w.nodes++
		return "attach " + w.number() + " " + w.flags()
	case 5:
		w.nodes += 3
		return "clone " + w.number() + " " + one(w, "0", "1", "1", "2")
	case 6, 7, 8:
		return "insert " + w.number() + " " + w.number() + " " + one(w, "-1", "-1", w.number())
	case 9:
		return "remove " + w.number()
	case 10, 11:
		return "set " + w.number() + " " + one(w, "slot", "name", "id", "A", "") + " " + one(w, "a", "", "a b")
	case 12:
		return "drop " + w.number() + " " + one(w, "slot", "name", "id", "")
	case 13:
		return "write " + w.number() + " " + one(w, "z", "", " ")
	case 14:
		return "assign " + w.number() + w.numbers()
	case 15:
		w.nodes += 4
		return "html " + w.number() + " " + w.markup()
	case 16, 17:
		w.nodes += 6
		return "unsafe " + w.number() + " " + w.markup()
	case 18:
		return "get " + w.number() + " " + one(w, "0", "1", "-1") + w.numbers()
	case 19, 20:
		return one(w, "flat ", "kids ", "assigned ", "shown ") + w.number()
	case 21:
		return "signals"
	case 22:
		return one(w, "get 0 1", "flat 0", "len")
	}
	return w.other()
}

func (w *writer) other() string {
	if w.pick(6) > 0 {
		return one(w, "", " ", "x", "text", "len ", "doc", "doc x", "\xff", "html 0", "\r")
	}
	w.nodes = 1
	return "doc " + one(w, "100", "5000", "9", "0")
}

// script has lines that are hurt here and there, by a byte that is put in, or is lost.
func (w *writer) script() string {
	w.out.WriteString("doc " + one(w, "100", "200", "30", "5000") + "\n")
	// Without it many would have no slot at all.
	w.out.WriteString("unsafe 0 " + one(w, "<div><template shadowrootmode=open><slot></slot><slot name=a></slot></template>x<b slot=a></b>", w.markup()) + "\n")
	w.nodes += 7
	for len(w.b) > 0 {
		line := w.line()
		if w.pick(30) == 0 && line != "" {
			at := w.pick(len(line))
			line = line[:at] + one(w, "", " ", "\n", "0", "\x00", "\xe2", "-") + line[at+w.pick(2):]
		}
		w.out.WriteString(line)
		if len(w.b) > 0 || w.pick(2) == 0 {
			w.out.WriteByte('\n')
		}
	}
	return w.out.String()
}

func hold(t *testing.T, script string, tally map[string]int) {
	t.Helper()
	want := told(script, tally)
	if got := lab.Play(script); got != want {
		t.Fatalf("%q\nwrites %q,\nnot    %q", script, got, want)
	}
}

func TestRandomScripts(t *testing.T) {
	r := rand.New(rand.NewSource(20))
	tally := map[string]int{}
	for range 4000 {
		b := make([]byte, 20+r.Intn(700))
		r.Read(b)
		hold(t, (&writer{b: b, nodes: 1}).script(), tally)
	}
	for name, outs := range map[string]string{
		"doc": "something,error 1", "element": "something,error 1,error 3", "text": "something,error 3", "comment": "something,error 3", "fragment": "something,error 3",
		"attach": "something,error 3,error 80,error 100,error 101", "clone": "something,error 3,error 80,error 81", "insert": "something,error 80,error 81", "remove": "something,error 80,error 81",
		"set": "something,error 80,error 81,error 82", "drop": "something,error 80,error 81,error 82", "write": "something,error 80,error 81", "assign": "something,error 80,error 81,error 110",
		"html": "something,error 3,error 80,error 81", "unsafe": "something,error 3,error 80,error 81", "get": "something,nothing,error 80",
		"flat": "something,nothing", "kids": "something,nothing", "assigned": "something,nothing", "shown": "something,nothing", "signals": "something,nothing", "len": "something",
	} {
		for _, out := range strings.Split(outs, ",") {
			if tally[name+": "+out] < 10 {
				t.Errorf("too few of one sort: %s: %s %d", name, out, tally[name+": "+out])
			}
		}
	}
	if tally["bad"] < 5000 {
		t.Errorf("too few lines are bad: %d", tally["bad"])
	}
}

// Any bytes are a script.
func TestAnyBytes(t *testing.T) {
	r := rand.New(rand.NewSource(2020))
	for range 2000 {
		b := make([]byte, r.Intn(300))
		r.Read(b)
		hold(t, string(b), map[string]int{})
		for i := range b {
			b[i] = "doc 19\n-elmntxih"[b[i]%16]
		}
		hold(t, "doc 9\n"+string(b), map[string]int{})
	}
}

func FuzzScripts(f *testing.F) {
	r := rand.New(rand.NewSource(120))
	for n := range 20 {
		b := make([]byte, 40*n)
		r.Read(b)
		f.Add(b, "")
	}
	f.Add([]byte{}, "doc 100\nunsafe 0 <div><template shadowrootmode=open><slot></slot></template>a</div>\nflat 0\nget 0 0")
	f.Fuzz(func(t *testing.T, b []byte, more string) {
		if len(b) < 2000 && len(more) < 2000 {
			hold(t, (&writer{b: b, nodes: 1}).script()+more, map[string]int{})
			hold(t, more, map[string]int{})
		}
	})
}

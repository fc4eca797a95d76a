package lab_test

import (
	"fmt"
	"regexp"
	"strconv"
	"strings"

	"portiere/api"
	"portiere/comp"
	"portiere/flat"
	"portiere/slots"
)

// words is the chapter's sentences in another way than the program's: each line is held as a whole to the forms that a line may have.
type words struct {
	*comp.Comp
	m     []string       // what stands in the line for each part of its form
	tally map[string]int // which forms have come up, and with what
}

type form struct {
	re   *regexp.Regexp
	play func(w *words) string
}

// formOf is of a line in which N is a number, B 0 or 1, F flags, W a word, R a rest, and * any number of numbers.
func formOf(line string, play func(w *words) string) form {
	const number = `(?:-1|0|[1-9][0-9]{0,5})`
	part := strings.NewReplacer("N", "("+number+")", "B", "([01])", "F", "(-|[cmdsk]+)", "W", "([^ ]+)", "R", "((?s:.*))", "*", "((?: "+number+")*)")
	return form{regexp.MustCompile("^" + part.Replace(line) + "$"), play}
}

func (w *words) n(k int) int {
	n, err := strconv.Atoi(w.m[k])
	if err != nil {
		panic(err)
	}
	return n
}

func (w *words) list(k int) []int {
	var out []int
	for _, s := range strings.Fields(w.m[k]) {
		n, _ := strconv.Atoi(s)
		out = append(out, n)
	}
	return out
}

func (w *words) flags(k int) api.Flags {
	has := func(c string) bool { return strings.Contains(w.m[k], c) }
	return api.Flags{Closed: has("c"), Manual: has("m"), Delegates: has("d"), Serializable: has("s"), Clonable: has("k")}
}

func ended(err api.Errno) string {
	if err != api.OK {
		return fmt.Sprintf("error %d", uint16(err))
	}
	return "ok"
}

func (w *words) made(n api.Node) string { return withNumber(w.Make(n)) }

func withNumber(i int, err api.Errno) string {
	if err != api.OK {
		return ended(err)
	}
	return fmt.Sprint("ok ", i)
}

func withFaults(l []api.Fault, err api.Errno) string { return withNumber(len(l), err) }

func nodes(l []int) string {
	return strings.TrimSuffix("nodes "+strings.Trim(fmt.Sprint(l), "[]"), " ")
}

var docForm = formOf("doc N", func(w *words) string {
	if w.Comp = comp.New(w.n(1)); w.Comp == nil {
		return "error 1"
	}
	return "ok"
})

var forms = []form{
	formOf("element R", func(w *words) string { return w.made(api.Node{Kind: 1, Name: w.m[1]}) }),
	formOf("text R", func(w *words) string { return w.made(api.Node{Kind: 2, Data: w.m[1]}) }),
	formOf("comment R", func(w *words) string { return w.made(api.Node{Kind: 3, Data: w.m[1]}) }),
	formOf("fragment", func(w *words) string { return w.made(api.Node{Kind: 4}) }),
	formOf("attach N F", func(w *words) string { return withNumber(w.Attach(w.n(1), w.flags(2))) }),
	formOf("clone N B", func(w *words) string { return withNumber(w.Clone(w.n(1), w.m[2] == "1")) }),
	formOf("insert N N N", func(w *words) string { return ended(w.Insert(w.n(1), w.n(2), w.n(3))) }),
	formOf("remove N", func(w *words) string { return ended(w.Remove(w.n(1))) }),
	formOf("set N W R", func(w *words) string { return ended(w.Set(w.n(1), w.m[2], w.m[3])) }),
	formOf("drop N R", func(w *words) string { return ended(w.Drop(w.n(1), w.m[2])) }),
	formOf("write N R", func(w *words) string { return ended(w.Write(w.n(1), w.m[2])) }),
	formOf("assign N*", func(w *words) string { return ended(w.Assign(w.n(1), w.list(2))) }),
	formOf("html N R", func(w *words) string { return withFaults(w.HTML(w.n(1), w.m[2])) }),
	formOf("unsafe N R", func(w *words) string { return withFaults(w.Unsafe(w.n(1), w.m[2])) }),
	formOf("get N B*", func(w *words) string {
		text, err := w.Get(w.n(1), api.Options{Serializable: w.m[2] == "1", Roots: w.list(3)})
		if err != api.OK {
			return ended(err)
		}
		return "|" + text
	}),
	formOf("flat N", func(w *words) string { return nodes(flat.Walk(w.Doc(), w.n(1))) }),
	formOf("kids N", func(w *words) string { return nodes(flat.Kids(w.Doc(), w.n(1))) }),
	formOf("assigned N", func(w *words) string { return nodes(slots.Assigned(w.Doc(), w.n(1))) }),
	formOf("shown N", func(w *words) string { return nodes(slots.Flat(w.Doc(), w.n(1))) }),
	formOf("signals", func(w *words) string { return nodes(w.Signals()) }),
	formOf("len", func(w *words) string { return fmt.Sprint(w.Doc().Len()) }),
}

func (w *words) line(line string, row int) string {
	for _, f := range append([]form{docForm}, forms...) {
		if w.m = f.re.FindStringSubmatch(line); w.m != nil && (w.Comp != nil || strings.HasPrefix(line, "doc ")) {
			out := f.play(w)
			w.count(line, out)
			return out
		}
	}
	w.tally["bad"]++
	return fmt.Sprint("bad ", row)
}

// count tells errors by their numbers; of all else whether something is told.
func (w *words) count(line, out string) {
	name, _, _ := strings.Cut(line, " ")
	if !strings.HasPrefix(out, "error") {
		switch {
		case out == "nodes" || out == "|":
			out = "nothing"
		default:
			out = "something"
		}
	}
	w.tally[name+": "+out]++
}

// told is what a script of that many bytes and lines at most writes.
func told(script string, tally map[string]int) string {
	if len(script) > 60000 {
		return ""
	}
	l := strings.Split(script, "\n")
	if l[len(l)-1] == "" {
		l = l[:len(l)-1]
	}
	w := &words{tally: tally}
	out := ""
	for i, line := range l[:min(2000, len(l))] {
		out += w.line(line, i+1) + "\n"
	}
	return out
}

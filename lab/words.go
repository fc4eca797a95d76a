package lab

import (
	"strings"

	"portiere/api"
)

// digits is how many a number has at most.
const digits = 6

// wrong is what is thrown by a word that is not right, or is not there.
type wrong struct{}

func must(right bool) {
	if !right {
		panic(wrong{})
	}
}

// words are what is still to be read of a line.
type words struct {
	left string
	more bool // a blank stands ahead of what is left, so that it is a word, be it empty
}

func wordsOf(line string) words { return words{left: line, more: true} }

// word is the next one; an empty one is none, so that two blanks side by side are not right.
func (w *words) word() string {
	must(w.more)
	var s string
	s, w.left, w.more = strings.Cut(w.left, " ")
	must(s != "")
	return s
}

// last is a word behind which nothing stands, end stands for nothing at all.
func (w *words) last() string {
	s := w.word()
	w.end()
	return s
}

func (w *words) end() { must(!w.more) }

// rest is all that is left, whatever it is.
func (w *words) rest() string {
	must(w.more)
	w.more = false
	return w.left
}

// all are the words that are left.
func (w *words) all() []string {
	var out []string
	for w.more {
		out = append(out, w.word())
	}
	return out
}

// number is what a word stands for that is one.
func number(s string) int {
	if s == "-1" {
		return -1
	}
	must(len(s) <= digits && (s == "0" || !strings.HasPrefix(s, "0")))
	n := 0
	for _, r := range s {
		must('0' <= r && r <= '9')
		n = 10*n + int(r-'0')
	}
	return n
}

func numbers(l ...string) []int {
	var out []int
	for _, s := range l {
		out = append(out, number(s))
	}
	return out
}

// yes is what 0 or 1 stands for.
func yes(s string) bool {
	must(s == "0" || s == "1")
	return s == "1"
}

// flags are what letters stand for.
func flags(s string) api.Flags {
	var f api.Flags
	if s == "-" {
		return f
	}
	for _, r := range s {
		switch r {
		case 'c':
			f.Closed = true
		case 'm':
			f.Manual = true
		case 'd':
			f.Delegates = true
		case 's':
			f.Serializable = true
		case 'k':
			f.Clonable = true
		default:
			panic(wrong{})
		}
	}
	return f
}

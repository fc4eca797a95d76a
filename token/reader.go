package token

import "strings"

// reader is what of a text is not read yet, and at which place of the text that begins.
type reader struct {
	rest string
	at   int
}

// atEnd says whether all is read.
func (r *reader) atEnd() bool { return r.rest == "" }

// cut reads so many bytes.
func (r *reader) cut(n int) string {
	front := r.rest[:n]
	r.rest = r.rest[n:]
	r.at += n
	return front
}

// cutIf reads these bytes, if they stand there.
func (r *reader) cutIf(front string) bool {
	if !strings.HasPrefix(r.rest, front) {
		return false
	}
	r.cut(len(front))
	return true
}

// cutTo reads up to the first place whose rest is one that is sought, or all.
func (r *reader) cutTo(sought func(rest string) bool) string {
	n := 0
	for n < len(r.rest) && !sought(r.rest[n:]) {
		n++
	}
	return r.cut(n)
}

// oneOf seeks one of these bytes.
func oneOf(set string) func(rest string) bool {
	return func(rest string) bool { return strings.IndexByte(set, rest[0]) >= 0 }
}

// noneOf seeks any byte but these.
func noneOf(set string) func(rest string) bool {
	return func(rest string) bool { return strings.IndexByte(set, rest[0]) < 0 }
}

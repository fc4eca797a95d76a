package input

import (
	"bytes"
	"strings"
	"sync"
	"unicode/utf8"
)

// starts tells of each beginning of an encoded character whether it is the whole one. It is made
// of all characters, not of the chapter's bounds, so that these are held against something else.
var starts = sync.OnceValue(func() map[string]bool {
	m := map[string]bool{}
	for r := rune(0); r <= utf8.MaxRune; r++ {
		if !utf8.ValidRune(r) {
			continue
		}
		s := string(r)
		for i := 1; i < len(s); i++ {
			m[s[:i]] = false
		}
		m[s] = true
	}
	return m
})

// longestStart is how many bytes at the front of b begin a character, and whether they are all of it.
func longestStart(b []byte) (int, bool) {
	n, whole := 0, false
	for i := 1; i <= len(b) && i <= utf8.UTFMax; i++ {
		w, ok := starts()[string(b[:i])]
		if !ok {
			break
		}
		n, whole = i, w
	}
	return n, whole
}

// expected is the text of b, by one look at all of it.
func expected(b []byte) string {
	b = bytes.TrimPrefix(b, []byte{0xef, 0xbb, 0xbf})
	var s strings.Builder
	for len(b) > 0 {
		n, whole := longestStart(b)
		if whole {
			s.Write(b[:n])
		} else {
			s.WriteString("\ufffd")
		}
		b = b[max(n, 1):]
	}
	return strings.ReplaceAll(strings.ReplaceAll(s.String(), "\r\n", "\n"), "\r", "\n")
}

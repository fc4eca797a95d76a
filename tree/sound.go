package tree

import (
	"strings"

	"portiere/api"
	"portiere/names"
)

// barredBytes may not stand in an attribute's name: it could not be read again as it is.
const barredBytes = "\x00\t\n\f />=ABCDEFGHIJKLMNOPQRSTUVWXYZ"

// Sound says whether items are a tree.
func Sound(l []api.Item) bool {
	if len(l) > api.MaxItems {
		return false
	}
	deepest := 0
	for i, item := range l {
		if item.Deep < 0 || item.Deep > deepest || !soundKind(item, i == 0) {
			return false
		}
		deepest = item.Deep
		if item.Kind == api.Element && !names.Void(item.Name) {
			deepest++
		}
	}
	return true
}

// soundKind says whether an item has what its kind has, and nothing else.
func soundKind(item api.Item, first bool) bool {
	switch item.Kind {
	case api.Element:
		return names.Valid(item.Name) && item.Data == "" && soundAttributes(item.Attrs)
	case api.Text:
		return item.Name == "" && item.Data != "" && len(item.Attrs) == 0
	case api.Comment:
		return item.Name == "" && len(item.Attrs) == 0
	case api.Doctype:
		return first && item.Data == "" && len(item.Attrs) == 0
	}
	return false
}

func soundAttributes(l []api.Attr) bool {
	if len(l) > api.MaxAttrs {
		return false
	}
	writable := writables()
	for _, a := range l {
		if !writable(a) {
			return false
		}
	}
	return true
}

// writables says of one attribute after the other whether it may be an element's: it remembers the names of all that it was asked about, for one that is not writable stands ahead of others, too.
func writables() func(a api.Attr) bool {
	ahead := map[string]int{}
	return func(a api.Attr) bool {
		ahead[a.Name]++
		return ahead[a.Name] == 1 && isAttributeName(a.Name) && len(a.Value) <= api.MaxValue
	}
}

func isAttributeName(name string) bool {
	if name == "" || len(name) > api.MaxName {
		return false
	}
	// By bytes, not by characters: bytes that are no character may stand there.
	for i := range len(name) {
		if strings.IndexByte(barredBytes, name[i]) >= 0 {
			return false
		}
	}
	return true
}

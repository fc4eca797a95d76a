package tree

import "slices"

// stack is the names of the elements that are open, as they were opened.
type stack struct {
	open []string
}

// deep is how many are open.
func (s *stack) deep() int { return len(s.open) }

func (s *stack) push(name string) { s.open = append(s.open, name) }

// end ends the nearest element that is sought, unless a barred one is nearer. It tells what is open no more, that one first; what it tells stands till the next push.
func (s *stack) end(sought, barred func(name string) bool) []string {
	for i := len(s.open) - 1; i >= 0; i-- {
		name := s.open[i]
		// One that is sought is never in its own way: the end of a template ends one.
		if sought(name) {
			ended := s.open[i:]
			s.open = s.open[:i]
			return ended
		}
		if barred(name) {
			return nil
		}
	}
	return nil
}

// endTop ends the last opened element, if it is sought.
func (s *stack) endTop(sought func(name string) bool) []string {
	anything := func(string) bool { return true }
	return s.end(sought, anything)
}

// oneOf seeks one of these names.
func oneOf(list ...string) func(name string) bool {
	return func(name string) bool { return slices.Contains(list, name) }
}

// bounds seeks one of these names, or of those beyond which nothing is ended by what stands within.
func bounds(more ...string) func(name string) bool {
	bound := oneOf("template", "button", "object")
	also := oneOf(more...)
	return func(name string) bool { return bound(name) || also(name) }
}

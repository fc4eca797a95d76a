package lab

import (
	"strconv"
	"strings"

	"portiere/api"
)

// tell is a line: a word, and numbers behind it.
func tell(word string, l ...int) string {
	var out strings.Builder
	out.WriteString(word)
	for _, n := range l {
		out.WriteByte(' ')
		out.WriteString(strconv.Itoa(n))
	}
	return out.String()
}

// result is how a call has ended; more is told if it was not refused.
func result(err api.Errno, more ...int) string {
	if err != api.OK {
		return tell("error", int(err))
	}
	return tell("ok", more...)
}

// made, filled and got are for calls that answer a node, faults, or a text.
func made(i int, err api.Errno) string { return result(err, i) }

func filled(l []api.Fault, err api.Errno) string { return result(err, len(l)) }

func got(text string, err api.Errno) string {
	if err != api.OK {
		return result(err)
	}
	return "|" + text
}

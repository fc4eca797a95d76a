package lab

import (
	"strconv"

	"portiere/api"
	"portiere/comp"
	"portiere/flat"
	"portiere/slots"
)

// player plays a script line by line: the calls are those of its document, the words those of the line. Where a call is made, its words are read first, from the front on: one that is not right panics, and nothing is done.
type player struct {
	*comp.Comp // nil: there is no document
	words
}

// play does one line, and is what that writes.
func (p *player) play(line string, row int) (out string) {
	defer func() {
		switch caught := recover().(type) {
		case nil:
		case wrong:
			out = tell("bad", row)
		default:
			// It is no word's: written as a bad line, a fault of the program would look like one of the script.
			panic(caught)
		}
	}()
	p.words = wordsOf(line)
	return p.command(p.word())
}

// command does what a line is named for; what may change the document is left to change.
func (p *player) command(name string) string {
	if name == "doc" {
		return p.begin(number(p.last()))
	}
	must(p.Comp != nil)
	switch name {
	case "get":
		return got(p.Get(number(p.word()), api.Options{Serializable: yes(p.word()), Roots: numbers(p.all()...)}))
	case "flat":
		return tell("nodes", flat.Walk(p.Doc(), number(p.last()))...)
	case "kids":
		return tell("nodes", flat.Kids(p.Doc(), number(p.last()))...)
	case "assigned":
		return tell("nodes", slots.Assigned(p.Doc(), number(p.last()))...)
	case "shown":
		return tell("nodes", slots.Flat(p.Doc(), number(p.last()))...)
	case "signals":
		p.end()
		return tell("nodes", p.Signals()...)
	case "len":
		p.end()
		return strconv.Itoa(p.Doc().Len())
	}
	return p.change(name)
}

// change does what may change the document.
func (p *player) change(name string) string {
	switch name {
	case "element":
		return made(p.Make(api.Node{Kind: api.Element, Name: p.rest()}))
	case "text":
		return made(p.Make(api.Node{Kind: api.Text, Data: p.rest()}))
	case "comment":
		return made(p.Make(api.Node{Kind: api.Comment, Data: p.rest()}))
	case "fragment":
		p.end()
		return made(p.Make(api.Node{Kind: api.Fragment}))
	case "attach":
		return made(p.Attach(number(p.word()), flags(p.last())))
	case "clone":
		return made(p.Clone(number(p.word()), yes(p.last())))
	case "insert":
		return result(p.Insert(number(p.word()), number(p.word()), number(p.last())))
	case "remove":
		return result(p.Remove(number(p.last())))
	case "set":
		return result(p.Set(number(p.word()), p.word(), p.rest()))
	case "drop":
		return result(p.Drop(number(p.word()), p.rest()))
	case "write":
		return result(p.Write(number(p.word()), p.rest()))
	case "assign":
		return result(p.Assign(number(p.word()), numbers(p.all()...)))
	case "html":
		return filled(p.HTML(number(p.word()), p.rest()))
	case "unsafe":
		return filled(p.Unsafe(number(p.word()), p.rest()))
	}
	panic(wrong{})
}

// begin leaves no document where there is none of that limit.
func (p *player) begin(limit int) string {
	p.Comp = comp.New(limit)
	if p.Comp == nil {
		return result(api.ErrArg)
	}
	return result(api.OK)
}

package comp

import (
	"portiere/api"
	"portiere/dom"
	"portiere/signal"
)

// work is a document, and a board that sees it behind each call.
type work struct {
	*dom.Doc
	board *signal.Board
}

// done is handed what a call has answered, lets the board see what the call has done, and hands the answer on. A call that was refused is looked behind, too: nothing has changed then.
func (w *work) done(err api.Errno) api.Errno {
	w.board.See(w.Doc)
	return err
}

// made is done for calls that answer a node's number, filled for those that answer what is wrong with a text.
func (w *work) made(i int, err api.Errno) (int, api.Errno) { return i, w.done(err) }

func (w *work) filled(l []api.Fault, err api.Errno) ([]api.Fault, api.Errno) { return l, w.done(err) }

package comp_test

import (
	"slices"

	"portiere/api"
)

// What a test says beside what the words make of its calls.

const (
	open   = `<template shadowrootmode="open">`
	kept   = `<template shadowrootmode="open" shadowrootserializable="">`
	byHand = `<template shadowrootmode="open" shadowrootslotassignment="manual">`
	end    = `</template>`
)

// ok is behind a call that is not refused.
func (p *pair) ok(err api.Errno) {
	p.t.Helper()
	if err != api.OK {
		p.t.Fatalf("refused: %d", err)
	}
}

// wants is behind any call.
func (p *pair) wants(err, want api.Errno) {
	p.t.Helper()
	if err != want {
		p.t.Errorf("answered %d, not %d", err, want)
	}
}

func (p *pair) element(name string, attrs ...api.Attr) int {
	p.t.Helper()
	i, err := p.make(api.Node{Kind: api.Element, Name: name, Attrs: attrs})
	p.ok(err)
	return i
}

func (p *pair) node(kind uint8) int {
	p.t.Helper()
	i, err := p.make(api.Node{Kind: kind})
	p.ok(err)
	return i
}

func (p *pair) put(up int, l ...int) {
	p.t.Helper()
	for _, i := range l {
		p.ok(p.insert(up, i, -1))
	}
}

// filled is behind a text without faults.
func (p *pair) filled(i int, text string) {
	p.t.Helper()
	if l, err := p.unsafe(i, text); err != api.OK || len(l) != 0 {
		p.t.Fatalf("Unsafe(%d, %q) = %v, %d", i, text, l, err)
	}
}

// text says what is in a node without any shadow root, whole with all of them.
func (p *pair) text(i int, want string) {
	p.t.Helper()
	if got, err := p.get(i, api.Options{}); got != want || err != api.OK {
		p.t.Errorf("Get(%d) = %q, %d, not %q", i, got, err, want)
	}
}

func (p *pair) whole(i int, want string) {
	p.t.Helper()
	var roots []int
	for k := range p.c.Doc().Len() {
		roots = append(roots, k)
	}
	if got, err := p.get(i, api.Options{Roots: roots}); got != want || err != api.OK {
		p.t.Errorf("Get(%d) with all shadow roots = %q, %d, not %q", i, got, err, want)
	}
}

func (p *pair) kids(i int, want ...int) {
	p.t.Helper()
	if n, err := p.c.Doc().Node(i); err != api.OK || !slices.Equal(n.Kids, want) {
		p.t.Errorf("in %d are %v, not %v", i, n.Kids, want)
	}
}

func (p *pair) length(want int) {
	p.t.Helper()
	if got := p.c.Doc().Len(); got != want {
		p.t.Errorf("%d nodes, not %d", got, want)
	}
}

// changed says which slots have changed since that was asked.
func (p *pair) changed(want ...int) {
	p.t.Helper()
	if got := p.signals(); !slices.Equal(got, want) {
		p.t.Errorf("Signals() = %v, not %v", got, want)
	}
}

package dom

// links are what a node knows of the others of one chain: in which node's row it stands, the one ahead of it and the one behind it there, and the first and the last one of its own row.
type links struct {
	up       number
	previous number
	next     number
	first    number
	last     number
}

func unlinked() links {
	return links{up: none, previous: none, next: none, first: none, last: none}
}

// chain tells a node's links. There are two of them: by one nodes are in others, by the other they are given to slots; both are worked on in the same way.
type chain func(i number) *links

func (d *Doc) kids() chain  { return d.placeOf }
func (d *Doc) gifts() chain { return d.giftOf }

func (d *Doc) placeOf(i number) *links { return &d.nodes[i].place }
func (d *Doc) giftOf(i number) *links  { return &d.nodes[i].gift }

// row is the numbers of those that stand in up's row, in order.
func (c chain) row(up number) []int {
	var out []int
	for i := c(up).first; i != none; i = c(i).next {
		out = append(out, int(i))
	}
	return out
}

// takeOut takes a node out of the row in which it stands, if it does.
func (c chain) takeOut(i number) {
	l := c(i)
	if l.up == none {
		return
	}
	if l.previous == none {
		c(l.up).first = l.next
	} else {
		c(l.previous).next = l.next
	}
	if l.next == none {
		c(l.up).last = l.previous
	} else {
		c(l.next).previous = l.previous
	}
	l.up, l.previous, l.next = none, none, none
}

// put takes a node out of where it stands and puts it in up's row, ahead of before (none: at the end), which is another one of that row.
func (c chain) put(up, i, before number) {
	c.takeOut(i)
	l := c(i)
	l.up, l.next = up, before
	if before == none {
		l.previous = c(up).last
		c(up).last = i
	} else {
		l.previous = c(before).previous
		c(before).previous = i
	}
	if l.previous == none {
		c(up).first = i
	} else {
		c(l.previous).next = i
	}
}

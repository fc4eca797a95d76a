package comp_test

import (
	"testing"

	"portiere/api"
)

// shown is a host with slots `a`, `b` and one without a name, and with nodes of which the first asks for `a`: 2 div, 3 its shadow root, 4 slot a, 5 slot b, 6 slot, 7 i (for a), 8 u, 9 a text.
func shown(t *testing.T) *pair {
	t.Helper()
	p := newPair(t, 200)
	p.filled(0, "<div>"+open+`<slot name=a></slot><slot name=b></slot><slot></slot>`+end+"<i slot=a></i><u></u>x</div>")
	p.changed(4, 6)
	return p
}

// Each call by which something else is shown.
func TestChanges(t *testing.T) {
	rows := []struct {
		name string
		call func(p *pair) api.Errno
		want []int
	}{
		{"HTML of the host", func(p *pair) api.Errno { _, err := p.html(2, "<b slot=b></b>"); return err }, []int{4, 5, 6}},
		{"HTML of the host, which shows the same number of others", func(p *pair) api.Errno { _, err := p.html(2, "<i slot=a></i>"); return err }, []int{4, 6}},
		{"HTML of the shadow root", func(p *pair) api.Errno { _, err := p.html(3, "<b></b>"); return err }, []int{4, 6}},
		{"Unsafe of the shadow root", func(p *pair) api.Errno { _, err := p.unsafe(3, "<slot name=b></slot><slot></slot>"); return err }, []int{4, 6, 12}},
		{"HTML of what is shown", func(p *pair) api.Errno { _, err := p.html(7, "<b slot=b></b>"); return err }, nil},
		{"HTML of a slot", func(p *pair) api.Errno { _, err := p.html(4, "<slot name=b></slot>"); return err }, nil},
		{"HTML of node 0", func(p *pair) api.Errno { _, err := p.html(0, "x"); return err }, nil},
		{"Insert of another node", func(p *pair) api.Errno { return p.insert(2, 8, 7) }, nil},
		{"Insert in another order", func(p *pair) api.Errno { return p.insert(2, 9, 8) }, []int{6}},
		{"Insert of a slot ahead of one of its name", func(p *pair) api.Errno { return p.insert(3, 6, 4) }, nil},
		{"Insert of a slot elsewhere", func(p *pair) api.Errno { return p.insert(0, 4, -1) }, []int{4}},
		{"Insert of the host into nothing new", func(p *pair) api.Errno { return p.insert(0, 2, -1) }, nil},
		{"Remove of a node", func(p *pair) api.Errno { return p.remove(7) }, []int{4}},
		{"Remove of a slot", func(p *pair) api.Errno { return p.remove(6) }, []int{6}},
		{"Remove of the host", func(p *pair) api.Errno { return p.remove(2) }, nil},
		{"Set of a node's slot", func(p *pair) api.Errno { return p.set(7, "slot", "b") }, []int{4, 5}},
		{"Set of a slot's name", func(p *pair) api.Errno { return p.set(4, "name", "") }, []int{4, 6}},
		{"Set of another attribute", func(p *pair) api.Errno { return p.set(7, "name", "b") }, nil},
		{"Drop of a node's slot", func(p *pair) api.Errno { return p.drop(7, "slot") }, []int{4, 6}},
		{"Drop of a slot's name", func(p *pair) api.Errno { return p.drop(5, "name") }, []int{5, 6}},
		{"Write", func(p *pair) api.Errno { return p.write(9, "") }, nil},
		{"Assign, where nothing is given by hand", func(p *pair) api.Errno { return p.assign(5, 8) }, nil},
		{"Make", func(p *pair) api.Errno { _, err := p.make(api.Node{Kind: api.Element, Name: "slot"}); return err }, nil},
		{"Attach to what is shown", func(p *pair) api.Errno { _, err := p.attach(p.element("div"), api.Flags{}); return err }, nil},
		{"Clone", func(p *pair) api.Errno { _, err := p.clone(2, true); return err }, nil},
	}
	for _, r := range rows {
		t.Run(r.name, func(t *testing.T) {
			p := shown(t)
			p.ok(r.call(p))
			p.changed(r.want...)
		})
	}
}

// A copy with a clonable shadow root has slots of its own, in which something is shown at once.
func TestSlotsOfACopy(t *testing.T) {
	p := newPair(t, 200)
	p.filled(0, "<div><template shadowrootmode=open shadowrootclonable><slot></slot></template>a</div>")
	p.changed(4)
	i, err := p.clone(2, true)
	p.ok(err)
	n, _ := p.c.Doc().Node(i)
	root, _ := p.c.Doc().Node(n.Shadow)
	p.changed(root.Kids...)
	_, err = p.clone(2, false)
	p.ok(err)
	p.changed()
}

func TestAssignByHand(t *testing.T) {
	p := newPair(t, 200)
	p.filled(0, "<div>"+byHand+"<slot></slot><slot></slot>"+end+"a<b></b></div>") // 4 and 5 the slots, 6 a, 7 b
	p.changed()
	p.ok(p.assign(5, 7, 6))
	p.changed(5)
	p.ok(p.assign(5, 7, 6))
	p.changed()
	p.ok(p.assign(5, 6, 7))
	p.changed(5)
	p.ok(p.assign(4, 6))
	p.changed(4, 5)
	p.ok(p.assign(4))
	p.changed(4)
}

// They are told in the order in which they changed first, call by call.
func TestOrderOfSignals(t *testing.T) {
	p := shown(t)
	p.ok(p.remove(8))              // 6
	p.ok(p.set(7, "slot", "b"))    // 4, 5
	p.ok(p.insert(2, 8, -1))       // 6 again
	p.ok(p.set(7, "slot", "none")) // 5 again
	p.changed(6, 4, 5)
	p.ok(p.set(7, "slot", "b"))
	p.ok(p.set(7, "slot", "a"))
	p.changed(5, 4)
}

// One that has changed, and is as it was again, has changed: the board sees the document behind each call, not when it is asked.
func TestThereAndBack(t *testing.T) {
	p := shown(t)
	p.ok(p.remove(7))
	p.ok(p.insert(2, 7, 8))
	p.changed(4)
	p.ok(p.set(7, "slot", "b"))
	p.ok(p.set(7, "slot", "a"))
	p.changed(4, 5)
	// Within one call it has not.
	p.ok(p.insert(2, 7, 7))
	p.changed()
	p.ok(p.set(7, "slot", "a"))
	p.changed()
}

// To get a text takes no signal.
func TestGetTakesNone(t *testing.T) {
	p := shown(t)
	p.ok(p.remove(7))
	p.text(2, "<u></u>x")
	p.get(-1, api.Options{})
	p.whole(3, `<slot name="a"></slot><slot name="b"></slot><slot></slot>`)
	p.changed(4)
}

func TestWhatIsRefusedIsNoChange(t *testing.T) {
	p := shown(t)
	p.wants(p.remove(3), api.ErrTree)
	p.wants(p.insert(7, 2, -1), api.ErrTree)
	p.wants(p.set(7, "Slot", "b"), api.ErrName)
	p.wants(p.drop(8, "slot"), api.ErrName)
	p.wants(p.assign(4, 0), api.ErrTree)
	_, err := p.html(9, "x")
	p.wants(err, api.ErrTree)
	p.changed()
}

// The document is to be looked at alone. It is changed beside the calls here, for behind a call by which nothing else is shown it could not be told else whether the board sees the document: so it does behind each call, be it refused, but not behind Signals and Get, nor Doc.
func TestBehindWhichCallsTheBoardSees(t *testing.T) {
	rows := []struct {
		name string
		call func(p *pair)
		want bool
	}{
		{"HTML", func(p *pair) { p.c.HTML(0, "") }, true},
		{"Unsafe", func(p *pair) { p.c.Unsafe(0, "") }, true},
		{"Make", func(p *pair) { p.c.Make(api.Node{Kind: api.Text}) }, true},
		{"Attach", func(p *pair) { p.c.Attach(8, api.Flags{}) }, true},
		{"Insert", func(p *pair) { p.c.Insert(0, 2, -1) }, true},
		{"Remove", func(p *pair) { p.c.Remove(2) }, true},
		{"Set", func(p *pair) { p.c.Set(2, "id", "a") }, true},
		{"Drop", func(p *pair) { p.c.Drop(4, "id") }, true},
		{"Write", func(p *pair) { p.c.Write(9, "a") }, true},
		{"Assign", func(p *pair) { p.c.Assign(4, nil) }, true},
		{"Clone", func(p *pair) { p.c.Clone(9, false) }, true},
		{"HTML, refused", func(p *pair) { p.c.HTML(-1, "") }, true},
		{"Unsafe, refused", func(p *pair) { p.c.Unsafe(9, "") }, true},
		{"Make, refused", func(p *pair) { p.c.Make(api.Node{}) }, true},
		{"Attach, refused", func(p *pair) { p.c.Attach(2, api.Flags{}) }, true},
		{"Insert, refused", func(p *pair) { p.c.Insert(2, 2, -1) }, true},
		{"Remove, refused", func(p *pair) { p.c.Remove(0) }, true},
		{"Set, refused", func(p *pair) { p.c.Set(2, "", "") }, true},
		{"Drop, refused", func(p *pair) { p.c.Drop(2, "") }, true},
		{"Write, refused", func(p *pair) { p.c.Write(2, "") }, true},
		{"Assign, refused", func(p *pair) { p.c.Assign(2, nil) }, true},
		{"Clone, refused", func(p *pair) { p.c.Clone(3, false) }, true},
		{"Signals", func(p *pair) { p.c.Signals() }, false},
		{"Get", func(p *pair) { p.c.Get(0, api.Options{}) }, false},
		{"Get, refused", func(p *pair) { p.c.Get(-1, api.Options{}) }, false},
		{"Doc", func(p *pair) { p.c.Doc() }, false},
	}
	for _, r := range rows {
		p := shown(t)
		p.ok(p.c.Doc().Remove(7))
		r.call(p)
		if l := p.c.Signals(); (len(l) == 1 && l[0] == 4) != r.want || len(l) > 1 {
			t.Errorf("behind %s: %v", r.name, l)
		}
	}
}

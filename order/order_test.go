package order_test

import (
	"math"
	"slices"
	"testing"

	"portiere/api"
	"portiere/dom"
	"portiere/order"
)

func TestExample(t *testing.T) {
	d := dom.New(20)
	div, text := element(t, d, "div"), node(t, d, api.Node{Kind: api.Text, Data: "x"})
	insert(t, d, 0, div)
	insert(t, d, div, text)
	if l := order.Tree(d, 0); div != 1 || text != 2 || !slices.Equal(l, []int{0, 1, 2}) {
		t.Errorf("Tree(0) = %v", l)
	}
	hold(t, d)
}

// written is a document with all kinds of nodes:
//
//	0: div 1 (shadow root 2: slot 3 (text 4), b 5 (shadow root 6: comment 7), text 8), text 9, b 10 (text 11)
//	fragment 12: text 13; template 14 (content 15: div 16 (shadow root 17: slot 18)), text 19; doctype 20
func written(t *testing.T) *dom.Doc {
	d := dom.New(21)
	text := func() int { return node(t, d, api.Node{Kind: api.Text, Data: "x"}) }
	div := element(t, d, "div")
	root := shadow(t, d, div)
	slot := element(t, d, "slot")
	insert(t, d, slot, text())
	b := element(t, d, "b")
	inner := shadow(t, d, b)
	insert(t, d, inner, node(t, d, api.Node{Kind: api.Comment}))
	insert(t, d, root, slot, b)
	insert(t, d, div, text())
	insert(t, d, 0, div, text())
	other := element(t, d, "b")
	insert(t, d, 0, other)
	insert(t, d, other, text())
	f := node(t, d, api.Node{Kind: api.Fragment})
	insert(t, d, f, text())
	template := element(t, d, "template")
	host := element(t, d, "div")
	last := shadow(t, d, host)
	insert(t, d, template+1, host)
	insert(t, d, last, element(t, d, "slot"))
	insert(t, d, template, text())
	node(t, d, api.Node{Kind: api.Doctype, Name: "html"})
	if d.Len() != 21 {
		t.Fatalf("%d nodes", d.Len())
	}
	return d
}

func TestWritten(t *testing.T) {
	d := written(t)
	hold(t, d)
	roots := []int{0, 0, 2, 2, 2, 2, 6, 6, 0, 0, 0, 0, 12, 12, 14, 15, 15, 17, 17, 14, 20}
	tops := []int{0, 0, 0, 0, 0, 0, 0, 0, 0, 0, 0, 0, 12, 12, 14, 15, 15, 15, 15, 14, 20}
	for i := range d.Len() {
		if root, top := order.Root(d, i), order.Top(d, i); root != roots[i] || top != tops[i] {
			t.Errorf("%d: Root %d, Top %d, not %d, %d", i, root, top, roots[i], tops[i])
		}
	}
	lists := []struct {
		i         int
		tree, all []int
	}{
		{0, []int{0, 1, 8, 9, 10, 11}, []int{0, 1, 2, 3, 4, 5, 6, 7, 8, 9, 10, 11}},
		{1, []int{1, 8}, []int{1, 2, 3, 4, 5, 6, 7, 8}},
		{2, []int{2, 3, 4, 5}, []int{2, 3, 4, 5, 6, 7}},
		{3, []int{3, 4}, []int{3, 4}},
		{4, []int{4}, []int{4}},
		{5, []int{5}, []int{5, 6, 7}},
		{7, []int{7}, []int{7}},
		{12, []int{12, 13}, []int{12, 13}},
		{14, []int{14, 19}, []int{14, 19}}, // a content is neither a shadow root nor among the Kids
		{15, []int{15, 16}, []int{15, 16, 17, 18}},
		{20, []int{20}, []int{20}},
	}
	for _, l := range lists {
		if tree, all := order.Tree(d, l.i), order.All(d, l.i); !slices.Equal(tree, l.tree) || !slices.Equal(all, l.all) {
			t.Errorf("%d: Tree %v, All %v, not %v, %v", l.i, tree, all, l.tree, l.all)
		}
	}
}

func TestBeforeInWritten(t *testing.T) {
	d := written(t)
	cases := []struct {
		a, b int
		want bool
	}{
		{0, 0, false}, {4, 4, false}, {20, 20, false}, // none is ahead of itself
		{0, 1, true}, {1, 0, false}, {0, 11, true}, {1, 8, true}, {8, 1, false}, // what is in a node is behind it
		{8, 9, true}, {9, 8, false}, {8, 11, true}, {11, 8, false}, {1, 10, true}, {10, 9, false},
		{3, 5, true}, {5, 3, false}, {4, 5, true}, {5, 4, false}, {2, 4, true},
		{1, 2, false}, {2, 1, false}, {1, 3, false}, {3, 8, false}, {2, 9, false}, {5, 7, false}, {6, 7, true}, // each shadow root is a tree of its own
		{14, 15, false}, {15, 14, false}, {14, 16, false}, {16, 19, false}, {14, 19, true}, {15, 16, true}, // so is each content
		{0, 12, false}, {12, 0, false}, {9, 13, false}, {12, 13, true}, {0, 20, false}, {20, 0, false},
	}
	for _, c := range cases {
		if got := order.Before(d, c.a, c.b); got != c.want {
			t.Errorf("Before(%d, %d) = %v", c.a, c.b, got)
		}
	}
}

// Order is that of Kids, not that of numbers.
func TestNumbersOutOfOrder(t *testing.T) {
	d := dom.New(20)
	for range 6 {
		element(t, d, "b")
	}
	insert(t, d, 6, 4)
	insert(t, d, 4, 2, 1)
	insert(t, d, 6, 5)
	if err := d.Insert(6, 3, 4); err != api.OK {
		t.Fatal(err)
	}
	insert(t, d, 5, element(t, d, "i"))
	if l := order.Tree(d, 6); !slices.Equal(l, []int{6, 3, 4, 2, 1, 5, 7}) {
		t.Errorf("Tree(6) = %v", l)
	}
	if !order.Before(d, 6, 1) || !order.Before(d, 3, 1) || order.Before(d, 1, 2) || !order.Before(d, 2, 1) || !order.Before(d, 1, 5) {
		t.Error("Before")
	}
	root := shadow(t, d, 4)
	insert(t, d, root, 3)
	if l := order.All(d, 6); !slices.Equal(l, []int{6, 4, 8, 3, 2, 1, 5, 7}) {
		t.Errorf("All(6) = %v", l)
	}
	hold(t, d)
}

func TestNumbersThatAreNone(t *testing.T) {
	d := written(t)
	numbers := []int{math.MinInt, math.MinInt32, -1 << 32, -2, -1, d.Len(), d.Len() + 1, 5000, math.MaxInt32, 1 << 32, 1<<32 + 1, math.MaxInt}
	for _, i := range numbers {
		if root, top := order.Root(d, i), order.Top(d, i); root != -1 || top != -1 {
			t.Errorf("%d: Root %d, Top %d", i, root, top)
		}
		if tree, all := order.Tree(d, i), order.All(d, i); len(tree) != 0 || len(all) != 0 {
			t.Errorf("%d: Tree %v, All %v", i, tree, all)
		}
		for _, k := range append(numbers, 0, 1, 2, 20) {
			if order.Before(d, i, k) || order.Before(d, k, i) {
				t.Errorf("Before(%d, %d)", i, k)
			}
		}
	}
}

func TestOneNode(t *testing.T) {
	d := dom.New(1)
	hold(t, d)
	if l := order.All(d, 0); !slices.Equal(l, []int{0}) {
		t.Errorf("All(0) = %v", l)
	}
}

// What is taken out, or put elsewhere, is in its new order at once.
func TestBehindChanges(t *testing.T) {
	d := written(t)
	if err := d.Remove(1); err != api.OK {
		t.Fatal(err)
	}
	hold(t, d)
	if order.Root(d, 8) != 1 || order.Top(d, 7) != 1 || order.Before(d, 8, 9) || order.Before(d, 9, 8) {
		t.Error("behind Remove")
	}
	insert(t, d, 10, 1)
	hold(t, d)
	if order.Root(d, 8) != 0 || order.Top(d, 7) != 0 || !order.Before(d, 9, 8) {
		t.Error("behind Insert")
	}
	insert(t, d, 18, 1)
	hold(t, d)
	if order.Root(d, 8) != 17 || order.Top(d, 7) != 15 {
		t.Error("in the shadow root of what is in a content")
	}
}

// What is given to a slot by hand stands where it stood.
func TestGivenNodesStay(t *testing.T) {
	d := written(t)
	if err := d.Give(3, []int{8, 9, 11}); err != api.OK {
		t.Fatal(err)
	}
	hold(t, d)
	if l := order.All(d, 3); !slices.Equal(l, []int{3, 4}) || order.Root(d, 8) != 0 {
		t.Errorf("All(3) = %v", l)
	}
}

func TestAnswersAreNewMemory(t *testing.T) {
	d := written(t)
	for _, ask := range []func(*dom.Doc, int) []int{order.Tree, order.All} {
		for i := range d.Len() {
			first, second := ask(d, i), ask(d, i)
			for k := range first {
				first[k] = -7
			}
			first = append(first, -8)
			if third := ask(d, i); !slices.Equal(second, third) || slices.Contains(third, -7) {
				t.Fatalf("%d: %v, %v", i, second, third)
			}
		}
	}
	hold(t, d)
}

// nest makes as many nodes as there may be, each put by put behind the last one.
func nest(t *testing.T, put func(d *dom.Doc, last, i int) int) *dom.Doc {
	d := dom.New(api.MaxItems)
	last := 0
	for {
		i, err := d.Make(api.Node{Kind: api.Element, Name: "div"})
		if err == api.ErrLimit {
			return d
		}
		last = put(d, last, i)
		if last < 0 {
			return d
		}
	}
}

func TestAsDeepAsMayBe(t *testing.T) {
	d := nest(t, func(d *dom.Doc, last, i int) int {
		insert(t, d, last, i)
		return i
	})
	n := d.Len()
	tree, all := order.Tree(d, 0), order.All(d, 0)
	if n != 5000 || len(tree) != n || len(all) != n {
		t.Fatalf("%d nodes, %d, %d", n, len(tree), len(all))
	}
	for i := range n {
		if tree[i] != i || all[i] != i {
			t.Fatalf("%d is %d-th, and %d", tree[i], i, all[i])
		}
	}
	if order.Root(d, n-1) != 0 || order.Top(d, n-1) != 0 || !order.Before(d, 0, n-1) || !order.Before(d, n-2, n-1) || order.Before(d, n-1, n-2) {
		t.Error("the deepest")
	}
}

func TestAsManyShadowRootsAsMayBe(t *testing.T) {
	d := nest(t, func(d *dom.Doc, last, i int) int {
		insert(t, d, last, i)
		root, err := d.Root(i, api.Flags{Closed: true})
		if err != api.OK {
			return -1
		}
		return root
	})
	n := d.Len()
	all := order.All(d, 0)
	if n != 5000 || len(all) != n || len(order.Tree(d, 0)) != 2 || order.Root(d, n-1) != n-2 || order.Top(d, n-1) != 0 {
		t.Fatalf("%d nodes, %d, Root %d, Top %d", n, len(all), order.Root(d, n-1), order.Top(d, n-1))
	}
	for i := range n {
		if all[i] != i {
			t.Fatalf("%d is %d-th", all[i], i)
		}
	}
}

func TestAsWideAsMayBe(t *testing.T) {
	d := nest(t, func(d *dom.Doc, _, i int) int {
		before := i - 1
		if i == 1 {
			before = -1
		}
		if err := d.Insert(0, i, before); err != api.OK {
			t.Fatal(err)
		}
		return i
	})
	n := d.Len()
	tree := order.Tree(d, 0)
	if n != 5000 || len(tree) != n || tree[0] != 0 {
		t.Fatalf("%d nodes, %d", n, len(tree))
	}
	for i := 1; i < n; i++ {
		if tree[i] != n-i {
			t.Fatalf("%d is %d-th", tree[i], i)
		}
	}
	if !order.Before(d, n-1, 1) || order.Before(d, 1, n-1) || !order.Before(d, 2, 1) {
		t.Error("Before")
	}
}

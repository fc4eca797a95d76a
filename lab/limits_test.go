package lab_test

import (
	"fmt"
	"slices"
	"strconv"
	"strings"
	"testing"

	"portiere/api"
	"portiere/lab"
)

func TestAsManyBytesAsMayBe(t *testing.T) {
	const ahead = "doc 9\ntext "
	data := strings.Repeat("a", api.MaxBytes-len(ahead))
	wrote(t, ahead+data, "ok", "ok 1")
	wrote(t, ahead+data+"a")
	wrote(t, ahead+data+"\n")
	wrote(t, ahead+data[1:]+"\n", "ok", "ok 1")
	wrote(t, strings.Repeat("x", api.MaxBytes), "bad 1")
	wrote(t, strings.Repeat("x", api.MaxBytes+1))
	wrote(t, strings.Repeat(" ", api.MaxBytes), "bad 1")
	wrote(t, "doc "+strings.Repeat("1", api.MaxBytes-4), "bad 1")
	wrote(t, "doc 9\nget 0 0"+strings.Repeat(" 0", 29993), "ok", "|")
	wrote(t, "doc 9\nassign 0"+strings.Repeat(" 0", 29992), "ok", "error 110")
	wrote(t, strings.Repeat("doc 9\n", 10001))
	wrote(t, "len\n"+strings.Repeat("\n", api.MaxBytes))
}

func TestAsManyLinesAsMayBe(t *testing.T) {
	for _, n := range []int{1999, 2000, 2001, 2002, 8000} {
		want := []string{"ok"}
		for i := 1; i < min(n, api.MaxRows); i++ {
			want = append(want, fmt.Sprint("ok ", i))
		}
		wrote(t, "doc 5000\n"+strings.Repeat("text \n", n-1), want...)
		wrote(t, strings.TrimSuffix("doc 5000\n"+strings.Repeat("text \n", n-1), "\n")+"a", want...)
	}
	var want []string
	for i := range api.MaxRows {
		want = append(want, fmt.Sprint("bad ", i+1))
	}
	wrote(t, strings.Repeat("\n", 2000), want...)
	wrote(t, strings.Repeat("\n", 1999)+"x", want...)
	wrote(t, strings.Repeat("\n", 2000)+"doc 1", want...)
	wrote(t, strings.Repeat("\n", api.MaxBytes), want...)
	wrote(t, strings.Repeat("\n", 1999)+"doc 1\nlen", append(want[:1999], "ok")...)
}

func TestAsManyNodesAsMayBe(t *testing.T) {
	script, want := lines("doc 5000", "html 0 "+strings.Repeat("a<br>", 2499), "len", "text ", "html 0 ", "get 0 0"),
		lines("ok", "ok 0", "5000", "error 3", "error 3", "|"+strings.Repeat("a<br>", 2499))
	plays(t, script, want...)
	plays(t, lines("doc 4999", "html 0 "+strings.Repeat("a<br>", 2499), "len"), "ok", "error 3", "1")
}

// slotsInSlots is a script that puts slots into one another, each by two lines, and what it writes.
func slotsInSlots(n int) (script, want []string) {
	script, want = lines("doc 5000", "element div", "attach 1 -", "insert 0 1 -1"), lines("ok", "ok 1", "ok 2", "ok")
	for i := 3; i < n; i++ {
		script = append(script, "element slot", fmt.Sprintf("insert %d %d -1", i-1, i))
		want = append(want, fmt.Sprint("ok ", i), "ok")
	}
	return script, want
}

// Scripts of which each line has many slots behind it. Slot by slot, each one sought among all, they would not be done for a long time.
func TestManySlots(t *testing.T) {
	t.Run("in one another", func(t *testing.T) {
		script, want := slotsInSlots(990)
		shown := "nodes 1"
		for i := 3; i < 990; i++ {
			shown += " " + strconv.Itoa(i)
		}
		plays(t, append(script, "flat 1", "shown 3", "signals"), append(want, shown, "nodes", "nodes")...)
	})
	t.Run("each of its own name", func(t *testing.T) {
		const n = 900
		slots, asking, shown, changed := "", "", "nodes 0 2", "nodes"
		for i := range n {
			slots += fmt.Sprintf("<slot name=%d></slot>", i)
			asking += fmt.Sprintf("<b slot=%d></b>", i)
			shown += fmt.Sprintf(" %d %d", 4+i, 4+n+i)
			changed += fmt.Sprint(" ", 4+i)
		}
		script := lines("doc 5000", "unsafe 0 <div><template shadowrootmode=open>"+slots+"</template>"+asking+"</div>", "signals")
		want := lines("ok", "ok 0", changed)
		for i := range 900 {
			script = append(script, "text ")
			want = append(want, fmt.Sprint("ok ", 4+2*n+i))
		}
		plays(t, append(script, slices.Repeat(lines("flat 0"), 900)...), append(want, slices.Repeat(lines(shown), 900)...)...)
	})
	t.Run("in one slot", func(t *testing.T) {
		const n = 1400
		script := lines("doc 5000", "unsafe 0 <div><template shadowrootmode=open><slot name=a>"+strings.Repeat("<slot></slot>", n)+"</slot></template>"+strings.Repeat("<b slot=b></b>", n)+"</div>")
		plays(t, append(script, slices.Repeat(lines("shown 4"), 1900)...), append(lines("ok", "ok 0"), slices.Repeat(lines("nodes"), 1900)...)...)
	})
}

// What a script writes may be far longer than it.
func TestLongAnswers(t *testing.T) {
	script, want := lines("doc 5000", "element b", "set 1 a "+strings.Repeat("\"", 2000), "insert 0 1 -1"), lines("ok", "ok 1", "ok", "ok")
	one := `<b a="` + strings.Repeat("&quot;", 2000) + `"></b>`
	for i := range 50 {
		script = append(script, "clone 1 1", fmt.Sprintf("insert 0 %d -1", i+2), "get 0 0")
		want = append(want, fmt.Sprint("ok ", i+2), "ok", "|"+strings.Repeat(one, i+2))
	}
	plays(t, script, want...)
}

// As deep as may be: what is in a shadow root is no deeper for that than what is in an element.
func TestAsDeepAsMayBe(t *testing.T) {
	script, want := lines("doc 5000"), lines("ok")
	up, shown, whole, behind, roots := 0, "nodes 0", "|", "", ""
	for i := 1; len(script) < 1990; i += 2 {
		script = append(script, "element div", fmt.Sprintf("insert %d %d -1", up, i), fmt.Sprintf("attach %d s", i))
		want = append(want, fmt.Sprint("ok ", i), "ok", fmt.Sprint("ok ", i+1))
		up, shown, roots = i+1, shown+" "+strconv.Itoa(i), roots+" "+strconv.Itoa(i+1)
		whole, behind = whole+`<div><template shadowrootmode="open" shadowrootserializable="">`, behind+"</template></div>"
	}
	script = append(script, "flat 0", "get 0 0", "get 0 1", "get 0 0"+roots, "clone 1 1")
	plays(t, script, append(want, shown, "|<div></div>", whole+behind, whole+behind, fmt.Sprint("ok ", up+1))...)
}

// Any byte may stand in any place of a line.
func TestEachByte(t *testing.T) {
	tally := map[string]int{}
	script := "doc 20\nset 1 a b\nelement div\nattach 1 c\ninsert 0 1 -1\nget 0 1 2\nhtml 1 a\nclone 1 1\nassign 1 1\n"
	for i := range script {
		for b := range 256 {
			hold(t, script[:i]+string([]byte{byte(b)})+script[i:], tally)
			hold(t, script[:i]+string([]byte{byte(b)})+script[i+1:], tally)
		}
		hold(t, script[:i], tally)
		hold(t, script[i:], tally)
	}
}

func TestSameAgain(t *testing.T) {
	script, _ := slotsInSlots(50)
	text := strings.Join(script, "\n")
	if lab.Play(text) != lab.Play(text) {
		t.Error("it writes something else")
	}
}

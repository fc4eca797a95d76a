package names_test

import (
	"slices"
	"strings"
	"testing"

	"portiere/api"
	"portiere/names"
)

// The chapter's lists, letter by letter.
const (
	voids  = "area base br col embed hr img input link meta source track wbr"
	raws   = "script style xmp iframe noembed noframes"
	softs  = "title textarea"
	blocks = "address article aside blockquote details dialog div dl fieldset figcaption figure footer form h1 h2 h3 h4 h5 h6 header hgroup hr main menu nav ol p pre search section summary table ul"
	taken  = "annotation-xml color-profile font-face font-face-src font-face-uri font-face-format font-face-name missing-glyph"
	hosts  = "article aside blockquote body div footer h1 h2 h3 h4 h5 h6 header main nav p section span"
	others = "a b i html head template slot li dt dd option tr td svg math plaintext noscript svg-a x-a font-face-x"
)

func words(lists ...string) []string { return strings.Fields(strings.Join(lists, " ")) }

// nearby is a name and all that is written almost as it is.
func nearby(name string) []string {
	out := []string{name, strings.ToUpper(name), name + name, name + " ", " " + name, name + "\x00", "\x00" + name, name + "-", name + "s"}
	for i := range len(name) {
		out = append(out, name[:i]+name[i+1:], name[:i], name[i:])
		out = append(out, name[:i]+strings.ToUpper(name[i:i+1])+name[i+1:])
		out = append(out, name[:i]+string(name[i]^1)+name[i+1:])
	}
	return out
}

func tried() []string {
	var out []string
	for _, name := range words(voids, raws, softs, blocks, taken, hosts, others) {
		out = append(out, nearby(name)...)
	}
	return append(out, "", "-", "\xff", "ſcript", "lınk", "lin\u212a")
}

func TestListsAreTheChaptersLists(t *testing.T) {
	kinds := []struct {
		kind string
		is   func(string) bool
		list string
	}{
		{"Void", names.Void, voids},
		{"Raw", names.Raw, raws},
		{"Soft", names.Soft, softs},
		{"Block", names.Block, blocks},
	}
	for _, k := range kinds {
		for _, name := range tried() {
			if want := slices.Contains(words(k.list), name); k.is(name) != want {
				t.Errorf("%s(%q) = %v, not %v", k.kind, name, !want, want)
			}
		}
	}
}

// validByWords is the chapter's sentence on Valid, in another way than the program's.
func validByWords(name string) bool {
	const letters = "abcdefghijklmnopqrstuvwxyz"
	if len(name) < 1 || len(name) > api.MaxName || strings.IndexByte(letters, name[0]) < 0 {
		return false
	}
	for _, c := range []byte(name) {
		if strings.IndexByte(letters+"0123456789-._", c) < 0 {
			return false
		}
	}
	return true
}

func customByWords(name string) bool {
	return validByWords(name) && strings.Count(name, "-") > 0 && !slices.Contains(words(taken), name)
}

func hostByWords(name string) bool {
	return customByWords(name) || slices.Contains(words(hosts), name)
}

func holdToWords(t *testing.T, name string) {
	t.Helper()
	if got, want := names.Valid(name), validByWords(name); got != want {
		t.Errorf("Valid(%q) = %v, not %v", name, got, want)
	}
	if got, want := names.Custom(name), customByWords(name); got != want {
		t.Errorf("Custom(%q) = %v, not %v", name, got, want)
	}
	if got, want := names.Host(name), hostByWords(name); got != want {
		t.Errorf("Host(%q) = %v, not %v", name, got, want)
	}
}

func TestValidCustomHost(t *testing.T) {
	cases := []struct {
		name                string
		valid, custom, host bool
	}{
		{"x-a", true, true, true},
		{"xa", true, false, false},
		{"font-face", true, false, false},
		{"annotation-xml", true, false, false},
		{"font-face-x", true, true, true},
		{"font-fac", true, true, true},
		{"a-", true, true, true},
		{"a--", true, true, true},
		{"-a", false, false, false},
		{"-", false, false, false},
		{"", false, false, false},
		{"a", true, false, false},
		{"z", true, false, false},
		{"a1", true, false, false},
		{"1a", false, false, false},
		{"a._-09", true, true, true},
		{"._", false, false, false},
		{"_a", false, false, false},
		{".a", false, false, false},
		{"a_b", true, false, false},
		{"a.b", true, false, false},
		{"X-a", false, false, false},
		{"x-A", false, false, false},
		{"x-ä", false, false, false},
		{"x-\xff", false, false, false},
		{"x-\x00", false, false, false},
		{"x-a ", false, false, false},
		{"x-a\n", false, false, false},
		{"x-—", false, false, false},
		{"x–a", false, false, false},
		{"div", true, false, true},
		{"span", true, false, true},
		{"body", true, false, true},
		{"h1", true, false, true},
		{"h6", true, false, true},
		{"h7", true, false, false},
		{"DIV", false, false, false},
		{"table", true, false, false},
		{"slot", true, false, false},
	}
	for _, c := range cases {
		if got := names.Valid(c.name); got != c.valid {
			t.Errorf("Valid(%q) = %v", c.name, got)
		}
		if got := names.Custom(c.name); got != c.custom {
			t.Errorf("Custom(%q) = %v", c.name, got)
		}
		if got := names.Host(c.name); got != c.host {
			t.Errorf("Host(%q) = %v", c.name, got)
		}
	}
}

func TestValidCustomHostOfAllThatIsNear(t *testing.T) {
	for _, name := range tried() {
		holdToWords(t, name)
	}
}

func TestAllShortNames(t *testing.T) {
	for i := range 256 {
		a := string([]byte{byte(i)})
		for _, name := range []string{a, a + "-", "x-" + a, "x" + a, "x" + a + "-", strings.Repeat("x", 58) + a} {
			holdToWords(t, name)
		}
		for j := range 256 {
			holdToWords(t, a+string([]byte{byte(j)}))
		}
	}
}

func TestLengthOfNames(t *testing.T) {
	for n := range 130 {
		within := 1 <= n && n <= 60
		long := strings.Repeat("a", n)
		if names.Valid(long) != within || names.Custom(long) || names.Host(long) {
			t.Errorf("%d letters", n)
		}
		holdToWords(t, long) // with api's own MaxName
		if n < 2 {
			continue
		}
		long = long[1:] + "-"
		if names.Valid(long) != within || names.Custom(long) != within || names.Host(long) != within {
			t.Errorf("%d bytes with a hyphen", n)
		}
	}
	// The bound is of bytes, and it holds however long a name is.
	if names.Valid(strings.Repeat("a", 1<<20)) || names.Custom(strings.Repeat("a-", 1<<20)) {
		t.Error("very long names")
	}
}

func TestLower(t *testing.T) {
	cases := []struct{ s, want string }{
		{"", ""},
		{"Ab", "ab"},
		{"ab", "ab"},
		{"AZaz@[`{09-", "azaz@[`{09-"},
		{"ÄÉ\u212aİſ", "ÄÉ\u212aİſ"},
		{"A\xffB\xc3C\x00", "a\xffb\xc3c\x00"},
		{"\uFFFDX", "\uFFFDx"},
	}
	for _, c := range cases {
		if got := names.Lower(c.s); got != c.want {
			t.Errorf("Lower(%q) = %q, not %q", c.s, got, c.want)
		}
	}
}

func TestLowerOfAllBytes(t *testing.T) {
	const great, small = "ABCDEFGHIJKLMNOPQRSTUVWXYZ", "abcdefghijklmnopqrstuvwxyz"
	var all, want []byte
	for i := range 256 {
		c := byte(i)
		all = append(all, c)
		if k := strings.IndexByte(great, c); k >= 0 {
			c = small[k]
		}
		want = append(want, c)
	}
	if got := names.Lower(string(all)); got != string(want) {
		t.Errorf("Lower of all bytes = %q", got)
	}
	for i := range 256 {
		if got := names.Lower(string(all[i : i+1])); got != string(want[i:i+1]) {
			t.Errorf("Lower(%q) = %q", all[i:i+1], got)
		}
	}
	long := strings.Repeat(string(all), 400)
	if got := names.Lower(long); got != strings.Repeat(string(want), 400) {
		t.Error("Lower of a long text")
	}
}

func TestSmallLettersStaySmall(t *testing.T) {
	for _, name := range tried() {
		once := names.Lower(name)
		if names.Lower(once) != once || len(once) != len(name) {
			t.Errorf("Lower(%q) = %q does not stay", name, once)
		}
		if names.Valid(name) && once != name {
			t.Errorf("Lower(%q) = %q", name, once)
		}
	}
}

func TestNoNameIsVoidAndRaw(t *testing.T) {
	for _, name := range tried() {
		if names.Void(name) && names.Raw(name) {
			t.Errorf("%q is Void and Raw", name)
		}
	}
	if !names.Void("hr") || !names.Block("hr") {
		t.Error("hr is Void and Block")
	}
}

func FuzzNames(f *testing.F) {
	for _, name := range words(taken, hosts, others) {
		f.Add(name)
	}
	f.Fuzz(func(t *testing.T, name string) {
		holdToWords(t, name)
		small := names.Lower(name)
		if names.Lower(small) != small || len(small) != len(name) {
			t.Errorf("Lower(%q) = %q", name, small)
		}
	})
}

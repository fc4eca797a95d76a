package token_test

import (
	"regexp"
	"strings"

	"portiere/api"
	"portiere/charref"
)

// The chapter's sentences as patterns, in another way than the program's. The first that fits holds.
var (
	tagPattern     = regexp.MustCompile(`(?s)^<(/?)([a-zA-Z][^\t\n\f />]*)`)
	passedPattern  = regexp.MustCompile(`^[\t\n\f /]*`)
	attrPattern    = regexp.MustCompile(`(?s)^(.[^\t\n\f />=]*)[\t\n\f ]*(?:=[\t\n\f ]*(?:"([^"]*)"|'([^']*)'|(["'])|(>)|([^\t\n\f >]*)))?`)
	nothingPattern = regexp.MustCompile(`^</>`)
	openPattern    = regexp.MustCompile(`^</$`)
	emptyPattern   = regexp.MustCompile(`^<!---?>`)
	commentPattern = regexp.MustCompile(`(?s)^<!--(.*?)(?:--(!?)>|($))`)
	doctypePattern = regexp.MustCompile(`(?s)^<!(?i:doctype)[\t\n\f ]*([^\t\n\f >]*)[^>]*(>?)`)
	notePattern    = regexp.MustCompile(`(?s)^<(?:/|!|(\?))([^>]*)>?`)
	textPatterns   = endings("script", "style", "xmp", "iframe", "noembed", "noframes", "title", "textarea")
)

// endings is what stands in elements that have text alone. No (?i): by Unicode the long s is an s of another size.
func endings(names ...string) map[string]*regexp.Regexp {
	out := map[string]*regexp.Regexp{}
	for _, name := range names {
		var each strings.Builder
		for _, c := range name {
			each.WriteString("[" + string(c) + strings.ToUpper(string(c)) + "]")
		}
		out[name] = regexp.MustCompile(`(?s)^(.*?)(?:</` + each.String() + `[\t\n\f />]|$)`)
	}
	return out
}

// words is what the chapter's words make of a text.
type words struct {
	tokens []api.Token
	faults []api.Fault
	loose  bool // the last token is a text to which more may come
}

func (w *words) fault(kind uint8, at int) {
	w.faults = append(w.faults, api.Fault{Kind: kind, At: at})
}

func (w *words) add(token api.Token) {
	w.tokens = append(w.tokens, token)
	w.loose = false
}

func (w *words) addText(data string, at int) {
	if w.loose {
		w.tokens[len(w.tokens)-1].Data += data
		return
	}
	w.add(api.Token{Kind: api.TokText, Data: data, At: at})
	w.loose = true
}

func cleanByWords(s string) string { return strings.ReplaceAll(s, "\x00", "\xef\xbf\xbd") }

func nameByWords(s string) string {
	const great, small = "ABCDEFGHIJKLMNOPQRSTUVWXYZ", "abcdefghijklmnopqrstuvwxyz"
	for i := range len(great) {
		s = strings.ReplaceAll(s, great[i:i+1], small[i:i+1])
	}
	return cleanByWords(s)
}

func tokensByWords(s string) ([]api.Token, []api.Fault) {
	w := &words{}
	for i := 0; i < len(s); {
		i += w.step(s, i)
	}
	return w.tokens, w.faults
}

// step is how many bytes are read at i.
func (w *words) step(s string, i int) int {
	rest := s[i:]
	if m := tagPattern.FindStringSubmatch(rest); m != nil {
		return w.tag(s, i, m)
	}
	if nothingPattern.MatchString(rest) {
		w.fault(api.FaultTag, i)
		return 3
	}
	if openPattern.MatchString(rest) {
		w.fault(api.FaultEnd, i)
		w.addText(rest, i)
		return 2
	}
	if m := emptyPattern.FindString(rest); m != "" {
		w.fault(api.FaultNote, i)
		w.add(api.Token{Kind: api.TokComment, At: i})
		return len(m)
	}
	if m := commentPattern.FindStringSubmatchIndex(rest); m != nil {
		if m[6] >= 0 {
			w.fault(api.FaultEnd, len(s))
		} else if m[5] > m[4] {
			w.fault(api.FaultNote, i)
		}
		w.add(api.Token{Kind: api.TokComment, Data: cleanByWords(rest[m[2]:m[3]]), At: i})
		return m[1]
	}
	if m := doctypePattern.FindStringSubmatch(rest); m != nil {
		if m[2] == "" {
			w.fault(api.FaultEnd, len(s))
		}
		w.add(api.Token{Kind: api.TokDoctype, Name: nameByWords(m[1]), At: i})
		return len(m[0])
	}
	if m := notePattern.FindStringSubmatch(rest); m != nil {
		w.fault(api.FaultNote, i)
		w.add(api.Token{Kind: api.TokComment, Data: cleanByWords(m[1] + m[2]), At: i})
		return len(m[0])
	}
	return w.byte(rest, i)
}

func (w *words) byte(rest string, i int) int {
	switch rest[0] {
	case 0:
		w.fault(api.FaultNull, i)
		return 1
	case '<':
		w.fault(api.FaultTag, i)
	case '&':
		if text, n, fault := charref.Take(rest, 0, false); n > 0 {
			if fault != 0 {
				w.fault(fault, i)
			}
			w.addText(text, i)
			return n
		}
	}
	w.addText(rest[:1], i)
	return 1
}

func (w *words) tag(s string, i int, m []string) int {
	token := api.Token{Kind: api.TokStart, Name: nameByWords(m[2]), At: i}
	at := i + len(m[0])
	for {
		before := at
		at += len(passedPattern.FindString(s[at:]))
		if at == len(s) {
			w.fault(api.FaultEnd, at)
			return at - i
		}
		if s[at] == '>' {
			token.Self = at > before && s[at-1] == '/'
			at++
			break
		}
		a := attrPattern.FindStringSubmatch(s[at:])
		if a[4] != "" {
			w.faultIf(a[1][0] == '=', at)
			w.fault(api.FaultEnd, len(s))
			return len(s) - i
		}
		w.faultIf(a[1][0] == '=', at)
		w.faultIf(a[5] != "", at+len(a[0])-1)
		value := charref.All(cleanByWords(a[2]+a[3]+a[6]), true)
		if known(token.Attrs, nameByWords(a[1])) || len(token.Attrs) == 50 {
			w.fault(api.FaultAttr, at)
		} else {
			token.Attrs = append(token.Attrs, api.Attr{Name: nameByWords(a[1]), Value: value})
		}
		at += len(a[0]) - len(a[5])
	}
	if m[1] == "/" {
		token.Kind, token.Attrs, token.Self = api.TokEnd, nil, false
	}
	w.add(token)
	if r := textPatterns[token.Name]; r != nil && m[1] == "" {
		return at - i + w.inside(token.Name, s[at:], at)
	}
	return at - i
}

func (w *words) faultIf(is bool, at int) {
	if is {
		w.fault(api.FaultAttr, at)
	}
}

func known(attrs []api.Attr, name string) bool {
	seen := map[string]int{}
	for _, a := range attrs {
		seen[a.Name]++
	}
	return seen[name] > 0
}

func (w *words) inside(name, rest string, at int) int {
	text := textPatterns[name].FindStringSubmatch(rest)[1]
	data := cleanByWords(text)
	if strings.HasPrefix(name, "t") {
		data = charref.All(data, false)
	}
	if data != "" {
		w.add(api.Token{Kind: api.TokText, Data: data, At: at})
	}
	return len(text)
}

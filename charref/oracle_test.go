package charref_test

import (
	"math/big"
	"regexp"
	"strconv"
	"strings"

	"portiere/api"
)

// The chapter's lists, letter by letter.
const (
	listNames = "`amp` 26, `lt` 3c, `gt` 3e, `quot` 22, `apos` 27, `nbsp` a0, `copy` a9, `reg` ae, `hellip` 2026, `mdash` 2014, `ndash` 2013, `lsquo` 2018, `rsquo` 2019, `ldquo` 201c, `rdquo` 201d, `euro` 20ac, `times` d7, `divide` f7, `para` b6, `sect` a7, `not` ac, `notin` 2209"
	listBare  = "`amp`, `lt`, `gt`, `quot`, `nbsp`, `copy`, `reg`, `times`, `divide`, `para`, `sect`, `not`"
	list80    = "20ac, 81, 201a, 192, 201e, 2026, 2020, 2021, 2c6, 2030, 160, 2039, 152, 8d, 17d, 8f, 90, 2018, 2019, 201c, 201d, 2022, 2013, 2014, 2dc, 2122, 161, 203a, 153, 9d, 17e, 178"
)

func plain(list string) []string {
	return strings.Split(strings.ReplaceAll(list, "`", ""), ", ")
}

func char(hex string) string {
	n, err := strconv.ParseUint(hex, 16, 21)
	if err != nil {
		panic(err)
	}
	return string(rune(n))
}

// written is all that may stand for a name, and what it stands for: with ; all of them, without it the bare ones.
var written = func() map[string]string {
	out := map[string]string{}
	for _, row := range plain(listNames) {
		name, hex, _ := strings.Cut(row, " ")
		out[name+";"] = char(hex)
	}
	for _, name := range plain(listBare) {
		out[name] = out[name+";"]
	}
	return out
}()

var (
	number = regexp.MustCompile(`^&#(?:[xX]([0-9a-fA-F]+)|([0-9]+))(;?)`)
	joined = regexp.MustCompile(`^[=a-zA-Z0-9]`)
)

func numberByWords(m []string) (string, int, uint8) {
	digits, base := m[2], 10
	if m[1] != "" {
		digits, base = m[1], 16
	}
	code, _ := new(big.Int).SetString(digits, base)
	long := len(m[0])
	if !code.IsInt64() || code.Int64() == 0 || code.Int64() > 0x10ffff {
		return "\uFFFD", long, api.FaultCode
	}
	c := code.Int64()
	switch {
	case c>>11 == 0x1b:
		return "\uFFFD", long, api.FaultCode
	case c>>5 == 4:
		return char(plain(list80)[c&31]), long, api.FaultCode
	case m[3] == "":
		return string(rune(c)), long, api.FaultRef
	}
	return string(rune(c)), long, 0
}

// takeByWords is the chapter's Take, in another way than the program's.
func takeByWords(s string, at int, attr bool) (string, int, uint8) {
	if at < 0 || at > len(s) || !strings.HasPrefix(s[at:], "&") {
		return "", 0, 0
	}
	if m := number.FindStringSubmatch(s[at:]); m != nil {
		return numberByWords(m)
	}
	best := ""
	for w := range written {
		if strings.HasPrefix(s[at+1:], w) && len(w) > len(best) {
			best = w
		}
	}
	long := 1 + len(best)
	switch {
	case best == "":
		return "", 0, 0
	case strings.HasSuffix(best, ";"):
		return written[best], long, 0
	case attr && joined.MatchString(s[at+long:]):
		return "", 0, 0
	}
	return written[best], long, api.FaultRef
}

func allByWords(s string, attr bool) string {
	if s == "" {
		return ""
	}
	text, n, _ := takeByWords(s, 0, attr)
	if n == 0 {
		return s[:1] + allByWords(s[1:], attr)
	}
	return text + allByWords(s[n:], attr)
}

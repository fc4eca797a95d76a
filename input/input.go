// Package input is layer 1: see shared/doc/01-input.md.
package input

const (
	mark        = "\ufeff" // left out, if it is the first character
	replacement = "\ufffd" // stands for bytes that are no character
)

// Decode are bytes as a text.
func Decode(b []byte) string {
	d := New()
	d.Feed(b)
	return d.Finish()
}

// Decoder reads bytes that come in parts.
type Decoder struct {
	text     []byte // at its end perhaps the bytes of a character that is not whole yet
	settled  int    // how many bytes of text no later byte can change
	next     next
	begun    bool // a mark that comes now is a character as any other
	returned bool // the last byte was 0d: it stands in text as 0a, so that 0a behind it adds nothing
}

// next is what may come behind the bytes of a character that is not whole yet.
type next struct {
	count     int // how many are asked for
	low, high byte
}

// New is one.
func New() *Decoder { return &Decoder{} }

// Feed takes a part, Finish tells the text of all.
func (d *Decoder) Feed(b []byte) {
	first, further := d.readFirst, d.readFurther
	for _, c := range b {
		read := first
		if d.next.count > 0 {
			read = further
		}
		read(c)
	}
}

// Finish leaves what is not whole as it is, for more may come.
func (d *Decoder) Finish() string {
	text := string(d.text[:d.settled])
	if d.next.count > 0 {
		return text + replacement
	}
	return text
}

// readFirst takes a byte with which a character may begin.
func (d *Decoder) readFirst(c byte) {
	joined := d.returned && c == '\n'
	d.returned = c == '\r'
	if joined {
		return
	}
	d.next = behind(c)
	switch {
	case d.next.count > 0:
		d.text = append(d.text, c)
		return
	case c == '\r':
		d.text = append(d.text, '\n')
	case c < 0x80:
		d.text = append(d.text, c)
	default:
		d.text = append(d.text, replacement...)
	}
	d.settle()
}

// readFurther takes a byte where the character asks for one more.
func (d *Decoder) readFurther(c byte) {
	if c < d.next.low || c > d.next.high {
		d.breakOff()
		d.readFirst(c)
		return
	}
	d.text = append(d.text, c)
	d.next = next{count: d.next.count - 1, low: 0x80, high: 0xbf}
	if d.next.count == 0 {
		d.dropMark()
		d.settle()
	}
}

// breakOff puts one replacement in place of all that was right so far.
func (d *Decoder) breakOff() {
	d.text = append(d.text[:d.settled], replacement...)
	d.next = next{}
	d.settle()
}

// dropMark looks at the whole text, for only there, at the beginning, a mark is left out.
func (d *Decoder) dropMark() {
	if !d.begun && string(d.text) == mark {
		d.text = d.text[:0]
	}
}

func (d *Decoder) settle() {
	d.settled = len(d.text)
	d.begun = true
}

// behind tells what a character that begins with c asks for; the narrower bounds keep out
// characters that are written too long, surrogates, and what is above 10ffff.
func behind(c byte) next {
	switch {
	case c >= 0xc2 && c <= 0xdf:
		return next{count: 1, low: 0x80, high: 0xbf}
	case c == 0xe0:
		return next{count: 2, low: 0xa0, high: 0xbf}
	case c == 0xed:
		return next{count: 2, low: 0x80, high: 0x9f}
	case c >= 0xe1 && c <= 0xef:
		return next{count: 2, low: 0x80, high: 0xbf}
	case c == 0xf0:
		return next{count: 3, low: 0x90, high: 0xbf}
	case c == 0xf4:
		return next{count: 3, low: 0x80, high: 0x8f}
	case c >= 0xf1 && c <= 0xf3:
		return next{count: 3, low: 0x80, high: 0xbf}
	}
	return next{}
}

package item

import (
	"strings"

	"hatchway/api"
)

// The marks of which lines are made.
const (
	digits    = "0123456789abcdef"
	emptyText = "-"
	opening   = "("
	blank     = " "
	closing   = ")"
)

// Show is the line of x.
func Show(x api.Item) (string, api.Errno) {
	if !May(x) {
		return "", api.ErrArg
	}
	var line strings.Builder
	show(&line, x)
	return line.String(), api.OK
}

// show writes the line of x, which may be.
func show(line *strings.Builder, x api.Item) {
	if !x.List {
		showText(line, x.Text)
		return
	}
	line.WriteString(opening)
	for i, sub := range x.Sub {
		if i > 0 {
			line.WriteString(blank)
		}
		show(line, sub)
	}
	line.WriteString(closing)
}

// showText writes each byte as two digits, the higher one first.
func showText(line *strings.Builder, s string) {
	if s == "" {
		line.WriteString(emptyText)
	}
	for i := range len(s) {
		line.WriteByte(digits[s[i]>>4])
		line.WriteByte(digits[s[i]&15])
	}
}

// Read is the item whose line s is.
func Read(s string) (api.Item, api.Errno) {
	r := reading{rest: s, left: api.MaxItems}
	x, ok := r.item(1)
	if !ok || r.rest != "" {
		return api.Item{}, api.ErrForm
	}
	return x, api.OK
}

// reading is what of a line wasn't read yet, and how many items may still come:
// no item is read that may not be, so that a long line ends early.
type reading struct {
	rest string
	left int
}

// skip passes a mark, if it is what comes next.
func (r *reading) skip(mark string) (ok bool) {
	r.rest, ok = strings.CutPrefix(r.rest, mark)
	return ok
}

// item reads what stands so deep.
func (r *reading) item(deep int) (api.Item, bool) {
	if deep > api.MaxDepth || r.left == 0 {
		return api.Item{}, false
	}
	r.left--
	if r.skip(opening) {
		return r.list(deep)
	}
	s, ok := r.text()
	return api.Item{Text: s}, ok
}

// list reads what stands behind an opening bracket, and the closing one.
func (r *reading) list(deep int) (api.Item, bool) {
	x := api.Item{List: true}
	for !r.skip(closing) {
		if len(x.Sub) > 0 && !r.skip(blank) {
			return api.Item{}, false
		}
		sub, ok := r.item(deep + 1)
		if !ok {
			return api.Item{}, false
		}
		x.Sub = append(x.Sub, sub)
	}
	return x, true
}

// text reads as many digits as there are: at least two, and no odd one.
func (r *reading) text() (string, bool) {
	if r.skip(emptyText) {
		return "", true
	}
	behind := strings.TrimLeft(r.rest, digits)
	n := len(r.rest) - len(behind)
	if n == 0 || n%2 != 0 {
		return "", false
	}
	s := make([]byte, 0, n/2)
	for i := 0; i < n; i += 2 {
		high, low := value(r.rest[i]), value(r.rest[i+1])
		s = append(s, high<<4|low)
	}
	r.rest = behind
	return string(s), true
}

// value is what a digit stands for.
func value(digit byte) byte {
	return byte(strings.IndexByte(digits, digit))
}

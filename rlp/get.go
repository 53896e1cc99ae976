package rlp

import (
	"strings"

	"hatchway/api"
	"hatchway/fixed"
)

// head is what the first bytes of an item tell.
type head struct {
	list bool
	size int // how many bytes the head itself has
	n    int // how many stand behind it
}

// headed is the head of the item that s, of at least one byte, begins with; so
// many bytes as it tells are there.
func headed(s string) (head, api.Errno) {
	first := int(s[0])
	if first < texts {
		return head{n: 1}, api.OK
	}
	h := head{list: first >= lists, size: 1}
	told := first - texts
	if h.list {
		told = first - lists
	}
	n := uint64(told)
	if told > few {
		h.size += told - few
		if len(s) < h.size {
			return head{}, api.ErrShort
		}
		var e api.Errno
		if n, e = fixed.GetLeast(s[1:h.size]); e != api.OK || n <= few {
			return head{}, api.ErrForm
		}
	}
	// A head may tell more bytes than an int can: so they are held against
	// those that are there ahead of all else.
	if n > uint64(len(s)-h.size) {
		return head{}, api.ErrShort
	}
	h.n = int(n)
	return h, api.OK
}

// open is a list whose end isn't reached.
type open struct {
	end int // where it ends
	sub []api.Item
}

// reading is how far an item's bytes were gone through.
type reading struct {
	s     string
	at    int // how many bytes were passed
	depth int // how deep an item may stand
	left  int // how many items may still come
	stack []open
}

// rest are the bytes that are left up to the end of the inmost list.
func (r *reading) rest() string {
	if len(r.stack) == 0 {
		return r.s[r.at:]
	}
	return r.s[r.at:r.stack[len(r.stack)-1].end]
}

// next is the head of the next item, with all that is asked of one.
func (r *reading) next() (head, api.Errno) {
	rest := r.rest()
	switch {
	case rest == "":
		return head{}, api.ErrShort
	case len(r.stack) >= r.depth:
		return head{}, api.ErrDeep
	case r.left <= 0:
		return head{}, api.ErrMany
	}
	r.left--
	h, e := headed(rest)
	switch {
	case e == api.ErrShort && len(r.stack) > 0:
		// No byte that may still come would make it fit into its list.
		return head{}, api.ErrForm
	case e == api.OK && !h.list && h.size > 0 && bare(rest[h.size:h.size+h.n]):
		return head{}, api.ErrForm
	}
	return h, e
}

// pass passes the item with this head: of a list that isn't empty the head
// alone. It is true, with the first item, when that has been passed whole.
func (r *reading) pass(h head) (api.Item, bool) {
	from := r.at + h.size
	to := from + h.n
	if h.list && h.n > 0 {
		r.at = from
		r.stack = append(r.stack, open{end: to})
		return api.Item{}, false
	}
	r.at = to
	if h.list {
		return r.close(api.Item{List: true})
	}
	return r.close(api.Item{Text: strings.Clone(r.s[from:to])})
}

// close lays x into the inmost list; if that list ends there, it is itself
// laid into the one around it, and so on.
func (r *reading) close(x api.Item) (api.Item, bool) {
	for len(r.stack) > 0 {
		top := &r.stack[len(r.stack)-1]
		top.sub = append(top.sub, x)
		if r.at < top.end {
			return api.Item{}, false
		}
		// Spare room is cut off, as it is for this reading alone.
		x = api.Item{List: true, Sub: top.sub[:len(top.sub):len(top.sub)]}
		r.stack = r.stack[:len(r.stack)-1]
	}
	return x, true
}

// Next is the item with whose bytes s begins, and how many they are.
func Next(s string, depth, items int) (api.Item, int, api.Errno) {
	r := reading{s: s, depth: min(depth, api.MaxDepth), left: min(items, api.MaxItems)}
	for {
		h, e := r.next()
		if e != api.OK {
			return api.Item{}, 0, e
		}
		if x, whole := r.pass(h); whole {
			return x, r.at, api.OK
		}
	}
}

// Get is the item whose bytes s is.
func Get(s string, depth, items int) (api.Item, api.Errno) {
	x, n, e := Next(s, depth, items)
	if e != api.OK {
		return api.Item{}, e
	}
	if n < len(s) {
		return api.Item{}, api.ErrForm
	}
	return x, api.OK
}

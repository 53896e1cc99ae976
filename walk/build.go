package walk

import (
	"slices"

	"hatchway/api"
	"hatchway/item"
)

// nesting passes tokens, one a call, and answers how many lists are open
// behind each.
func nesting() func(t Token) int {
	open := 0
	return func(t Token) int {
		switch t.Kind {
		case Open:
			open++
		case Shut:
			open--
		}
		return open
	}
}

// Skip is the place behind the tokens of the item that begin at a place.
func Skip(l []Token, at int) (int, api.Errno) {
	if at < 0 || at >= len(l) {
		return 0, api.ErrArg
	}
	if kind := l[at].Kind; kind != Open && kind != Word {
		return 0, api.ErrForm
	}
	pass := nesting()
	for i, t := range l[at:] {
		if pass(t) == 0 {
			return at + i + 1, api.OK
		}
	}
	return 0, api.ErrForm
}

// may tells whether l is the tokens of an item that may be.
func may(l []Token) bool {
	if end, e := Skip(l, 0); e != api.OK || end < len(l) {
		return false
	}
	pass, items := nesting(), 0
	for _, t := range l {
		deep := pass(t)
		switch {
		case t.Kind == Word:
			// It stands within the lists that are open; an Open's own list is
			// among them.
			deep++
			items++
		case t.Text != "":
			return false
		case t.Kind == Open:
			items++
		case t.Kind != Shut:
			return false
		}
		if deep > api.MaxDepth || items > api.MaxItems {
			return false
		}
	}
	return true
}

// Build is the item whose tokens l is.
func Build(l []Token) (api.Item, api.Errno) {
	if !may(l) {
		return api.Item{}, api.ErrForm
	}
	// Below the lists that are open stands a row for the item itself.
	stack := [][]api.Item{nil}
	lay := func(x api.Item) {
		top := &stack[len(stack)-1]
		*top = append(*top, x)
	}
	for _, t := range l {
		switch t.Kind {
		case Word:
			lay(item.Text(t.Text))
		case Open:
			stack = append(stack, nil)
		case Shut:
			last := len(stack) - 1
			// Spare room is cut off, as it is for this call alone.
			sub := slices.Clip(stack[last])
			stack = stack[:last]
			lay(api.Item{List: true, Sub: sub})
		}
	}
	return stack[0][0], api.OK
}

package walk

import (
	"slices"
	"strings"

	"hatchway/api"
	"hatchway/fixed"
	"hatchway/rlp"
)

const (
	lists = 192 // what a list's head is by
	few   = 55  // how many bytes a head of one byte tells at most
)

// head is the head of a list whose items have n bytes. It is written here, as
// layer 9 lays whole items alone, and no list is made one.
func head(n int) string {
	least := ""
	if n > few {
		least = fixed.Least(uint64(n))
		n = few + len(least)
	}
	return string([]byte{byte(lists + n)}) + least
}

// word is a text as an item that shares s, and so may not be handed out.
func word(s string) api.Item {
	return api.Item{Text: s}
}

// sizes are how many bytes the items of each list have, by the place of its
// Open, and how many all of l has. A list's head hangs on what is within, so
// they are found backwards, from the inmost list out.
func sizes(l []Token) (within []int, all int) {
	within = make([]int, len(l))
	var behind []int // how many bytes stand behind each list that is open
	for i, t := range slices.Backward(l) {
		switch t.Kind {
		case Word:
			all += rlp.Size(word(t.Text))
		case Shut:
			behind = append(behind, all)
		case Open:
			last := len(behind) - 1
			within[i] = all - behind[last]
			behind = behind[:last]
			all += len(head(within[i]))
		}
	}
	return within, all
}

// Put is the bytes of the item whose tokens l is.
func Put(l []Token) (string, api.Errno) {
	if !may(l) {
		return "", api.ErrForm
	}
	within, all := sizes(l)
	var s strings.Builder
	s.Grow(all)
	for i, t := range l {
		switch t.Kind {
		case Open:
			s.WriteString(head(within[i]))
		case Word:
			// A text may always be, so there is no error.
			laid, _ := rlp.Put(word(t.Text))
			s.WriteString(laid)
		}
	}
	return s.String(), api.OK
}

package walk_test

import (
	"math"
	"reflect"
	"slices"
	"strings"
	"testing"
	"unsafe"

	"hatchway/api"
	"hatchway/item"
	"hatchway/rlp"
	"hatchway/walk"
)

// text and list are items written out, so that no call under test makes them.
func text(s string) api.Item { return api.Item{Text: s} }

func list(l ...api.Item) api.Item { return api.Item{List: true, Sub: l} }

// tower is lists within lists around x, so many of them.
func tower(lists int, x api.Item) api.Item {
	for range lists {
		x = list(x)
	}
	return x
}

// wide is a list of so many empty texts.
func wide(n int) api.Item { return list(make([]api.Item, n)...) }

// ring is a list that stands within itself.
func ring() api.Item {
	l := make([]api.Item, 1)
	l[0] = list(l...)
	return l[0]
}

// long is a text of so many bytes.
func long(n int) string { return strings.Repeat("x", n) }

// The tokens of lists, by their numbers in the chapter.
var (
	open = walk.Token{Kind: 1}
	shut = walk.Token{Kind: 2}
)

// word is a text's token.
func word(s string) walk.Token { return walk.Token{Kind: 3, Text: s} }

// row is tokens, written short: brackets are lists, a dot is an empty text, a
// question mark a token of another kind, and each other rune a text of it.
func row(s string) []walk.Token {
	var l []walk.Token
	for _, r := range s {
		switch r {
		case '(':
			l = append(l, open)
		case ')':
			l = append(l, shut)
		case '.':
			l = append(l, word(""))
		case '?':
			l = append(l, walk.Token{Kind: 4, Text: "?"})
		default:
			l = append(l, word(string(r)))
		}
	}
	return l
}

// zero tells whether x is a zero item, its list nil or empty.
func zero(x api.Item) bool {
	return x.Text == "" && !x.List && len(x.Sub) == 0
}

// told is an item, its tokens, and its bytes.
type told struct {
	name string
	x    api.Item
	l    []walk.Token
	s    string
}

// edges are items with their tokens and bytes written out.
func edges() []told {
	return slices.Concat(shortEdges(), longEdges(), limitEdges())
}

func shortEdges() []told {
	return []told{
		{"text", text("a"), row("a"), "a"},
		{"empty text", text(""), row("."), "\x80"},
		{"text of a nought", text("\x00"), row("\x00"), "\x00"},
		{"text of byte 127", text("\x7f"), row("\x7f"), "\x7f"},
		{"text of byte 128", text("\x80"), []walk.Token{word("\x80")}, "\x81\x80"},
		{"text of bytes that are no rune's", text("\xff\xc0"), []walk.Token{word("\xff\xc0")}, "\x82\xff\xc0"},
		{"dog", text("dog"), []walk.Token{word("dog")}, "\x83dog"},
		{"empty list", list(), row("()"), "\xc0"},
		{"empty list, not nil", api.Item{List: true, Sub: []api.Item{}}, row("()"), "\xc0"},
		{"text with an empty Sub", api.Item{Text: "a", Sub: []api.Item{}}, row("a"), "a"},
		{"list of a", list(text("a")), row("(a)"), "\xc1a"},
		{"list of an empty text", list(text("")), row("(.)"), "\xc1\x80"},
		{"list of an empty list", list(list()), row("(())"), "\xc1\xc0"},
		{"two texts", list(text("a"), text("b")), row("(ab)"), "\xc2ab"},
		{"two empty lists", list(list(), list()), row("(()())"), "\xc2\xc0\xc0"},
		{"list first", list(list(text("a")), text("b")), row("((a)b)"), "\xc3\xc1ab"},
		{"list in between", list(text("a"), list(text("b")), text("c")), row("(a(b)c)"), "\xc4a\xc1bc"},
		{"list last", list(text("a"), list(text("b"))), row("(a(b))"), "\xc3a\xc1b"},
		{"lists first and last", list(list(text("a"), text("b")), text("c"), list(text("d"))), row("((ab)c(d))"), "\xc6\xc2abc\xc1d"},
		{"three as sets", list(list(), list(list()), list(list(), list(list()))), row("(()(())(()(())))"), "\xc7\xc0\xc1\xc0\xc3\xc0\xc1\xc0"},
		{"lists within lists", list(text("a"), list(), list(text(""), text("b"))), row("(a()(.b))"), "\xc5a\xc0\xc2\x80b"},
		{"cat and dog", list(text("cat"), text("dog")), []walk.Token{open, word("cat"), word("dog"), shut}, "\xc8\x83cat\x83dog"},
	}
}

// around is l with an Open ahead and a Shut behind.
func around(l ...walk.Token) []walk.Token {
	return slices.Concat([]walk.Token{open}, l, []walk.Token{shut})
}

// longEdges are those at which heads change.
func longEdges() []told {
	return []told{
		{"text of 55", text(long(55)), []walk.Token{word(long(55))}, "\xb7" + long(55)},
		{"text of 56", text(long(56)), []walk.Token{word(long(56))}, "\xb8\x38" + long(56)},
		{"text of 256", text(long(256)), []walk.Token{word(long(256))}, "\xb9\x01\x00" + long(256)},
		{"list of 54 in many", wide(54), row("(" + strings.Repeat(".", 54) + ")"), "\xf6" + strings.Repeat("\x80", 54)},
		{"list of 55 in many", wide(55), row("(" + strings.Repeat(".", 55) + ")"), "\xf7" + strings.Repeat("\x80", 55)},
		{"list of 56 in many", wide(56), row("(" + strings.Repeat(".", 56) + ")"), "\xf8\x38" + strings.Repeat("\x80", 56)},
		{"list of 255 in many", wide(255), row("(" + strings.Repeat(".", 255) + ")"), "\xf8\xff" + strings.Repeat("\x80", 255)},
		{"list of 256 in many", wide(256), row("(" + strings.Repeat(".", 256) + ")"), "\xf9\x01\x00" + strings.Repeat("\x80", 256)},
		{"list of 55 in one", list(text(long(54))), around(word(long(54))), "\xf7\xb6" + long(54)},
		{"list of 56 in one", list(text(long(55))), around(word(long(55))), "\xf8\x38\xb7" + long(55)},
		{"list of 255 in one", list(text(long(253))), around(word(long(253))), "\xf8\xff\xb8\xfd" + long(253)},
		{"list of 256 in one", list(text(long(254))), around(word(long(254))), "\xf9\x01\x00\xb8\xfe" + long(254)},
		{"list of 65535 in one", list(text(long(65532))), around(word(long(65532))), "\xf9\xff\xff\xb9\xff\xfc" + long(65532)},
		{"list of 65536 in one", list(text(long(65533))), around(word(long(65533))), "\xfa\x01\x00\x00\xb9\xff\xfd" + long(65533)},
		{"list of 2^24 in one", list(text(long(1<<24 - 4))), around(word(long(1<<24 - 4))), "\xfb\x01\x00\x00\x00\xba\xff\xff\xfc" + long(1<<24-4)},
		{"list of 65536 in three", list(list(), text(long(65531)), text("a")), around(open, shut, word(long(65531)), word("a")), "\xfa\x01\x00\x00\xc0\xb9\xff\xfb" + long(65531) + "a"},
		{"long lists side by side", list(wide(56), list(wide(56))), row("((" + strings.Repeat(".", 56) + ")((" + strings.Repeat(".", 56) + ")))"), "\xf8\x76\xf8\x38" + strings.Repeat("\x80", 56) + "\xf8\x3a\xf8\x38" + strings.Repeat("\x80", 56)},
		{"a long list within a long one", list(text("a"), list(text(long(54))), text("b")), around(word("a"), open, word(long(54)), shut, word("b")), "\xf8\x3aa\xf7\xb6" + long(54) + "b"},
	}
}

// nest is s in so many brackets.
func nest(lists int, s string) []walk.Token {
	return row(strings.Repeat("(", lists) + s + strings.Repeat(")", lists))
}

// limitEdges are the deepest items, and those with the most items, that may be.
func limitEdges() []told {
	deep := "\xcf\xce\xcd\xcc\xcb\xca\xc9\xc8\xc7\xc6\xc5\xc4\xc3\xc2\xc1"
	return []told{
		{"15 deep", tower(14, text("a")), nest(14, "a"), deep[1:] + "a"},
		{"16 deep", tower(15, text("a")), nest(15, "a"), deep + "a"},
		{"16 deep, all lists", tower(15, list()), nest(16, ""), deep + "\xc0"},
		{"16 deep, twice", list(tower(14, text("a")), tower(14, list())), row("(" + strings.Repeat("(", 14) + "a" + strings.Repeat(")", 14) + strings.Repeat("(", 15) + strings.Repeat(")", 15) + ")"), "\xde" + deep[1:] + "a" + deep[1:] + "\xc0"},
		{"1023 items", wide(1022), nest(1, strings.Repeat(".", 1022)), "\xf9\x03\xfe" + strings.Repeat("\x80", 1022)},
		{"1024 items", wide(1023), nest(1, strings.Repeat(".", 1023)), "\xf9\x03\xff" + strings.Repeat("\x80", 1023)},
		{"1024 items, all lists", list(slices.Repeat([]api.Item{list()}, 1023)...), nest(1, strings.Repeat("()", 1023)), "\xf9\x03\xff" + strings.Repeat("\xc0", 1023)},
		{"1024 items in two", list(list(), wide(1021)), row("(()(" + strings.Repeat(".", 1021) + "))"), "\xf9\x04\x01\xc0\xf9\x03\xfd" + strings.Repeat("\x80", 1021)},
		{"1024 items, 16 deep", tower(14, wide(1009)), nest(15, strings.Repeat(".", 1009)), deepAndWide()},
	}
}

// deepAndWide are the bytes of 14 lists around one of 1009 texts.
func deepAndWide() string {
	s := strings.Repeat("\x80", 1009)
	for range 15 {
		n := len(s)
		s = "\xf9" + string([]byte{byte(n >> 8), byte(n)}) + s
	}
	return s
}

// P10.1: Of and Tokens of every edge.
func TestTold(t *testing.T) {
	for _, c := range edges() {
		if l, e := walk.Of(c.x); e != api.OK || !slices.Equal(l, c.l) {
			t.Errorf("Of %s: %d", c.name, e)
		}
		if l, e := walk.Tokens(c.s, 16, 1024); e != api.OK || !slices.Equal(l, c.l) {
			t.Errorf("Tokens of %s: %d", c.name, e)
		}
	}
}

// P10.2, P10.4: Build and Put of every edge, and of what Of and Tokens tell.
func TestBuilt(t *testing.T) {
	for _, c := range edges() {
		of, _ := walk.Of(c.x)
		tokens, _ := walk.Tokens(c.s, 16, 1024)
		for _, l := range [][]walk.Token{c.l, of, tokens} {
			if x, e := walk.Build(l); e != api.OK || !item.Same(x, c.x) {
				t.Errorf("Build of %s: %d", c.name, e)
			}
			if s, e := walk.Put(l); e != api.OK || s != c.s {
				t.Errorf("Put of %s: %.40q %d", c.name, s, e)
			}
		}
	}
}

// P10.3: Skip passes all tokens of every edge, whatever stands ahead and behind.
func TestSkipEdges(t *testing.T) {
	for _, c := range edges() {
		for _, ahead := range []string{"", "(", "a", ")", "?", "(()"} {
			for _, behind := range []string{"", "(", "a", ")", "?", "))"} {
				l := slices.Concat(row(ahead), c.l, row(behind))
				at := len(row(ahead))
				if n, e := walk.Skip(l, at); e != api.OK || n != at+len(c.l) {
					t.Errorf("Skip of %s behind %q, ahead of %q: %d %d", c.name, ahead, behind, n, e)
				}
			}
		}
	}
}

// P10.1: Of of items that may not be is ErrArg, whether they end or not.
func TestOfMayNotBe(t *testing.T) {
	within := api.Item{Text: "a", Sub: []api.Item{{}}}
	for name, x := range map[string]api.Item{
		"text with a Sub":             within,
		"empty text with a Sub":       {Sub: []api.Item{{}}},
		"empty text with a list":      {Sub: []api.Item{{List: true}}},
		"list with a Text":            {Text: "a", List: true},
		"full list with a Text":       {Text: "a", List: true, Sub: []api.Item{{}}},
		"text with a Sub within":      list(text("b"), within),
		"list with a Text within":     list(api.Item{Text: "a", List: true}, text("b")),
		"text with a Sub deep within": tower(14, within),
		"17 deep":                     tower(16, text("a")),
		"17 deep, all lists":          tower(16, list()),
		"10000 deep":                  tower(9_999, text("a")),
		"1025 items":                  wide(1024),
		"1025 items in two":           list(wide(1022), list()),
		"1025 items, 16 deep":         tower(14, wide(1010)),
		"within itself":               ring(),
		"within itself, deep within":  tower(9, ring()),
	} {
		if l, e := walk.Of(x); e != api.ErrArg || len(l) != 0 {
			t.Errorf("Of %s: %.20v %d", name, l, e)
		}
	}
}

// P10.1: bytes that are no item's have layer 9's error of Get, and no token.
func TestTokensErrors(t *testing.T) {
	deep := "\xcf\xce\xcd\xcc\xcb\xca\xc9\xc8\xc7\xc6\xc5\xc4\xc3\xc2\xc1\xc0"
	for _, c := range []struct {
		s            string
		depth, items int
		want         api.Errno
	}{
		// Bytes that end too soon.
		{"", 16, 1024, api.ErrShort}, {"\x81", 16, 1024, api.ErrShort}, {"\x83do", 16, 1024, api.ErrShort},
		{"\xb8", 16, 1024, api.ErrShort}, {"\xb9\x01", 16, 1024, api.ErrShort}, {"\xc1", 16, 1024, api.ErrShort},
		{"\xc5a\xc0\xc2\x80", 16, 1024, api.ErrShort}, {"\xbf\xff\xff\xff\xff\xff\xff\xff\xff", 16, 1024, api.ErrShort},
		// Bytes that aren't of the form.
		{"\x81\x05", 16, 1024, api.ErrForm}, {"\xb8\x37" + long(55), 16, 1024, api.ErrForm}, {"\xb9\x00\x38" + long(56), 16, 1024, api.ErrForm},
		{"\xc1\x81", 16, 1024, api.ErrForm}, {"\xc2a\xc1", 16, 1024, api.ErrForm}, {"\xf8\x01a", 16, 1024, api.ErrForm},
		// More bytes stand behind.
		{"ab", 16, 1024, api.ErrForm}, {"\xc0\xc0", 16, 1024, api.ErrForm}, {"\xc1ab", 16, 1024, api.ErrForm}, {"\x80\x00", 16, 1024, api.ErrForm},
		// Depth just enough, and one too little.
		{"a", 1, 1, api.OK}, {"a", 0, 1, api.ErrDeep}, {"a", -1, 1, api.ErrDeep}, {"a", math.MinInt, 1, api.ErrDeep},
		{"\xc0", 1, 1, api.OK}, {"\xc0", 0, 1, api.ErrDeep},
		{"\xc1\xc0", 2, 2, api.OK}, {"\xc1\xc0", 1, 2, api.ErrDeep}, {"\xc1a", 2, 2, api.OK}, {"\xc1a", 1, 2, api.ErrDeep},
		{"\xc5a\xc0\xc2\x80b", 3, 6, api.OK}, {"\xc5a\xc0\xc2\x80b", 2, 6, api.ErrDeep},
		{deep, 16, 16, api.OK}, {deep, 15, 16, api.ErrDeep}, {deep, math.MaxInt, 16, api.OK}, {"\xd0" + deep, 17, 17, api.ErrDeep}, {"\xd0" + deep, math.MaxInt, 17, api.ErrDeep},
		// Items just enough, and one too few.
		{"a", 1, 0, api.ErrMany}, {"a", 1, -1, api.ErrMany}, {"a", 1, math.MinInt, api.ErrMany}, {"\xc0", 1, 0, api.ErrMany},
		{"\xc1\xc0", 2, 1, api.ErrMany}, {"\xc1a", 2, 1, api.ErrMany}, {"\xc5a\xc0\xc2\x80b", 3, 5, api.ErrMany},
		{"\xf9\x03\xff" + strings.Repeat("\x80", 1023), 2, 1024, api.OK}, {"\xf9\x03\xff" + strings.Repeat("\x80", 1023), 2, 1023, api.ErrMany},
		{"\xf9\x03\xff" + strings.Repeat("\x80", 1023), 2, math.MaxInt, api.OK},
		{"\xf9\x04\x00" + strings.Repeat("\x80", 1024), 2, 1025, api.ErrMany}, {"\xf9\x04\x00" + strings.Repeat("\x80", 1024), 2, math.MaxInt, api.ErrMany},
		// Of several, the first of layer 9.
		{"", 0, 0, api.ErrShort}, {"a", 0, 0, api.ErrDeep}, {"\x81\x05", 1, 0, api.ErrMany}, {"\xc2\x81\x05", 1, 9, api.ErrDeep}, {"abc", 1, 0, api.ErrMany},
	} {
		l, e := walk.Tokens(c.s, c.depth, c.items)
		if e != c.want || (len(l) > 0) != (e == api.OK) {
			t.Errorf("Tokens(%.40q, %d, %d): %d, want %d", c.s, c.depth, c.items, e, c.want)
		}
	}
}

// noItem are rows that are no item's tokens.
func noItem() map[string][]walk.Token {
	return map[string][]walk.Token{
		"no token":                      nil,
		"no token, not nil":             {},
		"an Open":                       row("("),
		"a Shut":                        row(")"),
		"two Opens":                     row("(("),
		"two Shuts":                     row("))"),
		"a Shut ahead of its Open":      row(")("),
		"a Shut ahead of a list":        row(")()"),
		"a Shut ahead of a text":        row(")a"),
		"a Shut, and its Open behind":   row(")a("),
		"a Shut between":                row("a)("),
		"an Open without its Shut":      row("(a"),
		"one of two without its Shut":   row("((a)"),
		"a Shut without its Open":       row("a)"),
		"one more Shut":                 row("(a))"),
		"one more Shut behind an empty": row("())"),
		"one more Open":                 row("()("),
		"two texts":                     row("ab"),
		"two empty texts":               row(".."),
		"a text behind a list":          row("(a)b"),
		"a text ahead of a list":        row("a(b)"),
		"two lists":                     row("(a)(b)"),
		"two empty lists":               row("()()"),
		"an Open with a Text":           {{Kind: 1, Text: "x"}, shut},
		"an Open with a Text, and text": {{Kind: 1, Text: "x"}, word("a"), shut},
		"an Open with a Text within":    around(walk.Token{Kind: 1, Text: "x"}, shut),
		"a Shut with a Text":            {open, {Kind: 2, Text: "x"}},
		"a Shut with a Text within":     around(open, walk.Token{Kind: 2, Text: "x"}),
		"a Shut with a nought":          {open, {Kind: 2, Text: "\x00"}},
		"kind 0":                        {{}},
		"kind 0 with a Text":            {{Text: "a"}},
		"kind 4":                        {{Kind: 4}},
		"kind 4 with a Text":            {{Kind: 4, Text: "a"}},
		"kind -1":                       {{Kind: -1}},
		"the least kind":                {{Kind: math.MinInt}},
		"the greatest kind":             {{Kind: math.MaxInt}},
		"kind 2^32 and a Word's":        {{Kind: 1<<32 + 3}},
		"kind 0 within":                 around(walk.Token{}),
		"kind 0 with a Text within":     around(walk.Token{Text: "a"}),
		"kind 4 within":                 around(walk.Token{Kind: 4}),
		"kind 4 with a Text within":     around(walk.Token{Kind: 4, Text: "a"}),
		"kind 5 in between":             around(word("a"), walk.Token{Kind: 5}, word("b")),
		"kind -1 within":                around(walk.Token{Kind: -1}),
		"the least kind within":         around(walk.Token{Kind: math.MinInt}),
		"another kind behind":           row("()?"),
		"another kind ahead":            row("?()"),
		"another kind as an Open":       row("?a)"),
		"another kind as a Shut":        row("(a?"),
		"17 deep":                       nest(16, "a"),
		"17 deep, an empty text":        nest(16, "."),
		"17 deep, all lists":            nest(17, ""),
		"17 deep, behind others":        row("(a" + strings.Repeat("(", 15) + "b" + strings.Repeat(")", 15) + ")"),
		"17 deep, ahead of others":      row("(" + strings.Repeat("(", 15) + "b" + strings.Repeat(")", 15) + "a)"),
		"17 deep, lists behind others":  row("(a" + strings.Repeat("(", 16) + strings.Repeat(")", 16) + ")"),
		"1025 items":                    nest(1, strings.Repeat(".", 1024)),
		"1025 items, all lists":         nest(1, strings.Repeat("()", 1024)),
		"1025 items in two":             row("(()(" + strings.Repeat(".", 1022) + "))"),
		"1025 items, a list last":       row("(" + strings.Repeat(".", 1023) + "())"),
		"1025 items, 16 deep":           nest(15, strings.Repeat(".", 1010)),
		"1025 texts without a list":     row(strings.Repeat("a", 1025)),
		"a million Opens":               row(strings.Repeat("(", 1_000_000)),
		"a million Shuts":               row(strings.Repeat(")", 1_000_000)),
		"a million texts":               row(strings.Repeat("a", 1_000_000)),
		"a list of a million texts":     nest(1, strings.Repeat("a", 1_000_000)),
		"a million deep":                nest(1_000_000, "a"),
	}
}

// P10.2: Build and Put tell ErrForm of what is no item's tokens.
func TestNoItem(t *testing.T) {
	for name, l := range noItem() {
		if x, e := walk.Build(l); e != api.ErrForm || !zero(x) {
			t.Errorf("Build of %s: %d", name, e)
		}
		if s, e := walk.Put(l); e != api.ErrForm || s != "" {
			t.Errorf("Put of %s: %.20q %d", name, s, e)
		}
	}
}

// P10.3: Skip at one place after another: the place behind, 0 where it is
// ErrForm.
func TestSkip(t *testing.T) {
	for s, want := range map[string][]int{
		"":          {},
		"a":         {1},
		".":         {1},
		"()":        {2, 0},
		"(a)":       {3, 2, 0},
		"ab":        {1, 2},
		"(a()(.b))": {9, 2, 4, 0, 8, 6, 7, 0, 0},
		"(((a)))":   {7, 6, 5, 4, 0, 0, 0},
		"()()":      {2, 0, 4, 0},
		"(a)b(c)":   {3, 2, 0, 4, 7, 6, 0},
		// An Open without its Shut, and those within that have theirs.
		"(":     {0},
		"((":    {0, 0},
		"(()":   {0, 3, 0},
		"(a":    {0, 2},
		"((a)b": {0, 4, 3, 0, 5},
		"a(b":   {1, 0, 3},
		"(()(":  {0, 3, 0, 0},
		// A Shut without its Open.
		")":    {0},
		"))":   {0, 0},
		")()":  {0, 3, 0},
		"a)":   {1, 0},
		"())":  {2, 0, 0},
		"(a))": {3, 2, 0, 0},
		"a)b":  {1, 0, 3},
		// Another kind: at the place itself, and passed as a Word within.
		"?":      {0},
		"?a":     {0, 2},
		"a?":     {1, 0},
		"(?)":    {3, 0, 0},
		"(a?b)":  {5, 2, 0, 4, 0},
		"(?":     {0, 0},
		"((?))?": {5, 4, 0, 0, 0, 0},
		"?()":    {0, 3, 0},
		"(?()?)": {6, 0, 4, 0, 0, 0},
	} {
		l := row(s)
		for at, n := range want {
			e := api.OK
			if n == 0 {
				e = api.ErrForm
			}
			if got, f := walk.Skip(l, at); got != n || f != e {
				t.Errorf("Skip of %q at %d: %d %d, want %d %d", s, at, got, f, n, e)
			}
		}
	}
}

// P10.3: places that aren't there are ErrArg, whatever the tokens are.
func TestSkipNoPlace(t *testing.T) {
	for _, s := range []string{"", "a", "(", ")", "?", "()", "(a)", "(a))", strings.Repeat("a", 100)} {
		l := row(s)
		for _, at := range []int{math.MinInt, -len(l) - 1, -2, -1, len(l), len(l) + 1, len(l) + 2, math.MaxInt - 1, math.MaxInt} {
			if n, e := walk.Skip(l, at); n != 0 || e != api.ErrArg {
				t.Errorf("Skip of %q at %d: %d %d", s, at, n, e)
			}
		}
	}
	if n, e := walk.Skip([]walk.Token{}, 0); n != 0 || e != api.ErrArg {
		t.Errorf("Skip of none: %d %d", n, e)
	}
}

// P10.3: a token of any other kind is ErrForm at the place itself, and passed
// as a Word within, with a Text or without.
func TestSkipKinds(t *testing.T) {
	for _, kind := range []int{math.MinInt, -3, -2, -1, 0, 4, 5, 6, 7, 255, 1<<32 + 1, 1<<32 + 2, 1<<32 + 3, math.MaxInt} {
		for _, s := range []string{"", "a"} {
			other := walk.Token{Kind: kind, Text: s}
			if n, e := walk.Skip([]walk.Token{other}, 0); n != 0 || e != api.ErrForm {
				t.Errorf("Skip at kind %d: %d %d", kind, n, e)
			}
			if n, e := walk.Skip([]walk.Token{other, shut}, 0); n != 0 || e != api.ErrForm {
				t.Errorf("Skip at kind %d ahead of a Shut: %d %d", kind, n, e)
			}
			if n, e := walk.Skip(around(other), 0); n != 3 || e != api.OK {
				t.Errorf("Skip of kind %d within: %d %d", kind, n, e)
			}
			if n, e := walk.Skip(around(open, other, shut, other), 0); n != 6 || e != api.OK {
				t.Errorf("Skip of kind %d deep within: %d %d", kind, n, e)
			}
			if n, e := walk.Skip([]walk.Token{open, other}, 0); n != 0 || e != api.ErrForm {
				t.Errorf("Skip of kind %d without a Shut: %d %d", kind, n, e)
			}
		}
	}
}

// P10.3: a Text at an Open or a Shut, and how deep and how many there are,
// play no part in Skip.
func TestSkipPassesAll(t *testing.T) {
	opened, closed := walk.Token{Kind: 1, Text: "x"}, walk.Token{Kind: 2, Text: "x"}
	for _, l := range [][]walk.Token{{opened, shut}, {open, closed}, {opened, opened, closed, closed}, around(opened, word("a"), closed), nest(17, "a"), nest(1, strings.Repeat(".", 1024)), nest(500_000, "a"), nest(1, strings.Repeat("()", 500_000))} {
		if n, e := walk.Skip(l, 0); n != len(l) || e != api.OK {
			t.Errorf("Skip of %d tokens: %d %d", len(l), n, e)
		}
		if n, e := walk.Skip(l[:len(l)-1], 0); n != 0 || e != api.ErrForm {
			t.Errorf("Skip of %d tokens without the last: %d %d", len(l), n, e)
		}
	}
}

// P10.2, P10.3, rule 5: what stands in a row's spare room plays no part.
func TestSpareRoom(t *testing.T) {
	l := row("(a)b")
	if n, e := walk.Skip(l[:2], 0); n != 0 || e != api.ErrForm {
		t.Errorf("Skip read on: %d %d", n, e)
	}
	if n, e := walk.Skip(l[:2], 2); n != 0 || e != api.ErrArg {
		t.Errorf("Skip behind the end: %d %d", n, e)
	}
	if x, e := walk.Build(l[:2]); e != api.ErrForm || !zero(x) {
		t.Errorf("Build read on: %d", e)
	}
	if s, e := walk.Put(l[:3]); e != api.OK || s != "\xc1a" {
		t.Errorf("Put read on: %q %d", s, e)
	}
}

// modelTokens are an item's tokens, by the chapter's words.
func modelTokens(x api.Item) []walk.Token {
	if !x.List {
		return []walk.Token{word(x.Text)}
	}
	l := []walk.Token{open}
	for _, sub := range x.Sub {
		l = append(l, modelTokens(sub)...)
	}
	return append(l, shut)
}

// modelSkip is what Skip is, by the chapter's words.
func modelSkip(l []walk.Token, at int) (int, api.Errno) {
	switch {
	case at < 0 || at >= len(l):
		return 0, api.ErrArg
	case l[at].Kind == 3:
		return at + 1, api.OK
	case l[at].Kind != 1:
		return 0, api.ErrForm
	}
	at++
	for at < len(l) && l[at].Kind != 2 {
		if l[at].Kind != 1 {
			at++
			continue
		}
		behind, e := modelSkip(l, at)
		if e != api.OK {
			return 0, e
		}
		at = behind
	}
	if at == len(l) {
		return 0, api.ErrForm
	}
	return at + 1, api.OK
}

// modelItem is the item with whose tokens l begins, and those behind it.
func modelItem(l []walk.Token) (x api.Item, behind []walk.Token, ok bool) {
	if len(l) == 0 {
		return x, nil, false
	}
	first, l := l[0], l[1:]
	if first.Kind == 3 {
		return text(first.Text), l, true
	}
	if first != open {
		return x, nil, false
	}
	x = list()
	for len(l) > 0 && l[0] != shut {
		var sub api.Item
		if sub, l, ok = modelItem(l); !ok {
			return x, nil, false
		}
		x.Sub = append(x.Sub, sub)
	}
	if len(l) == 0 {
		return x, nil, false
	}
	return x, l[1:], true
}

// modelBuild is what Build is, by the chapter's words.
func modelBuild(l []walk.Token) (api.Item, bool) {
	x, behind, ok := modelItem(l)
	if !ok || len(behind) > 0 || !item.May(x) {
		return api.Item{}, false
	}
	return x, true
}

// hold holds Build, Put and Skip against the model, and what is built against
// Of and Tokens, with caps just enough and one too few.
func hold(t *testing.T, l []walk.Token) bool {
	t.Helper()
	want, ok := modelBuild(l)
	x, e := walk.Build(l)
	s, f := walk.Put(l)
	if !ok {
		if e != api.ErrForm || f != api.ErrForm || !zero(x) || s != "" {
			t.Errorf("Build and Put of %.40v: %d %d, want ErrForm", l, e, f)
			return false
		}
		return holdSkip(t, l)
	}
	bytes, _ := rlp.Put(want)
	if e != api.OK || f != api.OK || !item.Same(x, want) || s != bytes {
		t.Errorf("Build and Put of %.40v: %.40v %d, %.40q %d", l, x, e, s, f)
		return false
	}
	of, e := walk.Of(x)
	deep, items := item.Deep(x), item.Count(x)
	tokens, f := walk.Tokens(s, deep, items)
	if e != api.OK || f != api.OK || !slices.Equal(of, l) || !slices.Equal(tokens, l) {
		t.Errorf("Of and Tokens of %.40v: %.40v %d, %.40v %d", x, of, e, tokens, f)
		return false
	}
	none, e := walk.Tokens(s, deep-1, items)
	nor, f := walk.Tokens(s, deep, items-1)
	if e != api.ErrDeep || f != api.ErrMany || len(none)+len(nor) > 0 {
		t.Errorf("Tokens of %.40v one too few: %d %d", x, e, f)
		return false
	}
	return holdSkip(t, l)
}

// holdSkip holds Skip against the model, at each place, and around them.
func holdSkip(t *testing.T, l []walk.Token) bool {
	t.Helper()
	for at := -1; at <= len(l)+1; at++ {
		want, e := modelSkip(l, at)
		if n, f := walk.Skip(l, at); n != want || f != e {
			t.Errorf("Skip of %.40v at %d: %d %d, want %d %d", l, at, n, f, want, e)
			return false
		}
	}
	return true
}

// alphabet are tokens of all that may be, and of what may not.
func alphabet() []walk.Token {
	return []walk.Token{open, shut, word("a"), word(""), {Kind: 1, Text: "x"}, {Kind: 2, Text: "x"}, {}, {Kind: 4, Text: "a"}}
}

// rowsOf shows all rows of so many tokens, till one is false.
func rowsOf(tokens []walk.Token, n int, see func(l []walk.Token) bool) bool {
	l := make([]walk.Token, n)
	var fill func(at int) bool
	fill = func(at int) bool {
		if at == n {
			return see(l)
		}
		for _, t := range tokens {
			l[at] = t
			if !fill(at + 1) {
				return false
			}
		}
		return true
	}
	return fill(0)
}

// P10.2 to P10.4: all short rows.
func TestAllRows(t *testing.T) {
	see := func(l []walk.Token) bool { return hold(t, l) }
	for n := range 7 {
		if !rowsOf(alphabet(), n, see) {
			return
		}
	}
	for n := range 12 {
		if !rowsOf([]walk.Token{open, shut, word("\x80")}, n, see) {
			return
		}
	}
}

// samples are rows of items, deep and wide, long and short.
func samples() [][]walk.Token {
	return [][]walk.Token{
		row("a"),
		row("."),
		row("()"),
		row("(a)"),
		row("(a()(.b))"),
		row("(()(())(()(())))"),
		row("((ab)c(d))"),
		nest(15, "a"),
		nest(16, ""),
		row("(" + strings.Repeat("(", 14) + "a" + strings.Repeat(")", 14) + "b" + strings.Repeat("(", 15) + strings.Repeat(")", 15) + ")"),
		around(word(long(55)), open, word(long(54)), shut, word("\x80"), open, open, word(long(300)), shut, shut),
		nest(2, strings.Repeat(".", 57)),
	}
}

// with is l with its tokens from one place to another replaced.
func with(l []walk.Token, from, to int, put ...walk.Token) []walk.Token {
	return slices.Concat(l[:from], put, l[to:])
}

// P10.2 to P10.4: rows cut at each place, a token left out, put in, and turned
// there.
func TestCutAndTurned(t *testing.T) {
	for _, l := range samples() {
		if !hold(t, l) {
			return
		}
		for i := range l {
			if !hold(t, l[:i]) || !hold(t, l[i:]) || !hold(t, with(l, i, i+1)) || !hold(t, with(l, i, i+1, l[i], l[i])) {
				return
			}
			for _, put := range alphabet() {
				if !hold(t, with(l, i, i+1, put)) || !hold(t, with(l, i, i, put)) || !hold(t, with(l, i+1, i+1, put)) {
					return
				}
			}
			if i > 0 && !hold(t, with(l, i-1, i+1, l[i], l[i-1])) {
				return
			}
			if _, e := walk.Skip(l[:i], 0); i > 0 && e != api.ErrForm {
				t.Errorf("Skip of %d of %.20v: %d", i, l, e)
			}
		}
	}
}

// P10.2 to P10.4: rows with the most items that may be, cut, turned, and with
// a token put in, from end to end.
func TestCutAndTurnedFull(t *testing.T) {
	for _, l := range [][]walk.Token{nest(1, strings.Repeat(".", 1023)), nest(15, strings.Repeat(".", 1009)), row("(()(" + strings.Repeat(".", 1021) + "))")} {
		if x, e := walk.Build(l); e != api.OK || item.Count(x) != 1024 {
			t.Fatal(e)
		}
		for i := range l {
			// In the midst one text is like the other.
			if i > 40 && i < len(l)-40 && i%50 > 0 {
				continue
			}
			for _, turned := range [][]walk.Token{l[:i], with(l, i, i+1), with(l, i, i, word("a")), with(l, i, i, open, shut), with(l, i, i+1, word("b")), with(l, i, i+1, shut), with(l, i, i+1, open), with(l, i, i+1, walk.Token{})} {
				want, ok := modelBuild(turned)
				x, e := walk.Build(turned)
				s, f := walk.Put(turned)
				if ok != (e == api.OK) || e != f || ok && !item.Same(x, want) || !ok && (e != api.ErrForm || s != "") {
					t.Fatalf("at %d of %.20v: %d %d", i, l, e, f)
				}
			}
		}
	}
}

// texts shows all texts of so many bytes of an alphabet, till one is false.
func texts(bytes string, n int, see func(s string) bool) bool {
	s := make([]byte, n)
	var fill func(at int) bool
	fill = func(at int) bool {
		if at == n {
			return see(string(s))
		}
		for _, b := range []byte(bytes) {
			s[at] = b
			if !fill(at + 1) {
				return false
			}
		}
		return true
	}
	return fill(0)
}

// P10.1, P10.4: Tokens of all short texts, with caps of every small size, is
// of just the item that Get gets, or has its error.
func TestTokensOfAll(t *testing.T) {
	see := func(s string, depth, items int) bool {
		x, want := rlp.Get(s, depth, items)
		l, e := walk.Tokens(s, depth, items)
		if e != want || e != api.OK && len(l) > 0 || e == api.OK && !slices.Equal(l, modelTokens(x)) {
			t.Errorf("Tokens(%q, %d, %d): %v %d, want %d", s, depth, items, l, e, want)
			return false
		}
		if e != api.OK {
			return true
		}
		back, e := walk.Put(l)
		if e != api.OK || back != s {
			t.Errorf("Put of the tokens of %q: %q %d", s, back, e)
			return false
		}
		return true
	}
	for n := range 7 {
		texts("\x05\x80\x81\xc0\xc1\xc2\xc3", n, func(s string) bool { return see(s, 16, 1024) })
	}
	for n := range 6 {
		texts("\x05\x81\xb8\xc0\xc1\xc2", n, func(s string) bool {
			for depth := range 4 {
				for items := range 5 {
					if !see(s, depth, items) {
						return false
					}
				}
			}
			return true
		})
	}
}

// small are all items of at most so many, out of three texts.
func small(items int) []api.Item {
	var all []api.Item
	if items == 0 {
		return all
	}
	for _, s := range []string{"", "a", "\x80"} {
		all = append(all, text(s))
	}
	for _, sub := range rows(items - 1) {
		all = append(all, list(sub...))
	}
	return all
}

// rows are all rows of items that have at most so many together.
func rows(items int) [][]api.Item {
	all := [][]api.Item{nil}
	for _, first := range small(items) {
		for _, rest := range rows(items - item.Count(first)) {
			all = append(all, append([]api.Item{first}, rest...))
		}
	}
	return all
}

// P10.1, P10.4: all small items: their tokens are built to be them again.
func TestSmall(t *testing.T) {
	all := small(6)
	for _, x := range all {
		l, e := walk.Of(x)
		if e != api.OK || !slices.Equal(l, modelTokens(x)) {
			t.Fatalf("Of %v: %v %d", x, l, e)
		}
		if y, e := walk.Build(l); e != api.OK || !item.Same(x, y) {
			t.Fatalf("Build of %v: %v %d", l, y, e)
		}
	}
	if len(all) < 1000 {
		t.Errorf("only %d items", len(all))
	}
}

// P10.2, P10.4: texts and lists of every size around those at which heads
// change, in lists of one and of many.
func TestSizes(t *testing.T) {
	var sizes []int
	for _, at := range []int{0, 56, 112, 256, 312, 65536} {
		for n := max(at-6, 0); n < at+6; n++ {
			sizes = append(sizes, n)
		}
	}
	for _, n := range sizes {
		for _, l := range [][]walk.Token{
			{word(long(n))},
			around(word(long(n))),
			around(word("a"), open, word(long(n)), word("b"), shut, open, shut),
			around(open, open, shut, word(long(n)), shut, word(long(n))),
		} {
			if !hold(t, l) {
				return
			}
		}
	}
}

// within tells whether a text's bytes lie within those of s.
func within(s, part string) bool {
	from, at := uintptr(unsafe.Pointer(unsafe.StringData(s))), uintptr(unsafe.Pointer(unsafe.StringData(part)))
	return part != "" && at >= from && at < from+uintptr(len(s))
}

// P10.1, rule 5: Of changes nothing of an item, its spare room neither, and
// shares nothing with it, nor with another answer.
func TestOfIsNew(t *testing.T) {
	first, second := strings.Clone("ab"), strings.Clone("c")
	made := func() []api.Item {
		room := []api.Item{text(first), list(text(second), list()), text("spare"), list(text("spare"))}
		room[1].Sub = append(make([]api.Item, 0, 4), room[1].Sub...)
		return room
	}
	room := made()
	x := list(room[:2]...)
	a, _ := walk.Of(x)
	b, _ := walk.Of(x)
	if !reflect.DeepEqual(room, made()) {
		t.Errorf("an argument was changed: %v", room)
	}
	want := []walk.Token{open, word("ab"), open, word("c"), open, shut, shut, shut}
	if !slices.Equal(a, want) {
		t.Fatalf("%v", a)
	}
	for i := range a {
		for _, s := range []string{first, second, b[i].Text} {
			if within(s, a[i].Text) {
				t.Errorf("the text at %d is shared", i)
			}
		}
	}
	for i := range a {
		a[i] = word("turned")
	}
	x.Sub[0] = text("turned")
	if !slices.Equal(b, want) {
		t.Errorf("another answer was changed: %v", b)
	}
}

// P10.1, rule 5: Tokens shares nothing with the bytes, nor with another answer.
func TestTokensIsNew(t *testing.T) {
	for _, c := range shortEdges() {
		s := strings.Clone(c.s)
		a, _ := walk.Tokens(s, 16, 1024)
		b, _ := walk.Tokens(s, 16, 1024)
		for i := range a {
			if within(s, a[i].Text) || within(b[i].Text, a[i].Text) {
				t.Errorf("the text at %d of %s is shared", i, c.name)
			}
			a[i] = word("turned")
		}
		if !slices.Equal(b, c.l) {
			t.Errorf("another answer was changed: %s", c.name)
		}
	}
}

// each tells see all lists and texts of x.
func each(x api.Item, see func(x api.Item)) {
	see(x)
	for _, sub := range x.Sub {
		each(sub, see)
	}
}

// P10.2, rule 5: Build shares nothing with the tokens, nor with another
// answer, and no list with another one.
func TestBuildIsNew(t *testing.T) {
	first, second := strings.Clone("ab"), strings.Clone("c")
	l := around(word(first), open, word(second), word(first), shut, open, shut, open, word(""), shut)
	x, _ := walk.Build(l)
	y, _ := walk.Build(l)
	kept := map[any]bool{}
	for _, x := range []api.Item{x, y} {
		each(x, func(x api.Item) {
			if within(first, x.Text) || within(second, x.Text) || x.Text != "" && kept[unsafe.StringData(x.Text)] {
				t.Errorf("the text %q is shared", x.Text)
			}
			kept[unsafe.StringData(x.Text)] = true
			for i := range x.Sub {
				if kept[&x.Sub[i]] {
					t.Errorf("lists share: %v", x)
				}
				kept[&x.Sub[i]] = true
			}
			if cap(x.Sub) != len(x.Sub) {
				t.Errorf("spare room behind %v", x)
			}
		})
	}
	for i := range x.Sub {
		more := append(x.Sub[i].Sub, text("more"))
		for j := range more {
			more[j] = text("turned")
		}
	}
	for i := range l {
		l[i] = word("turned")
	}
	if s, _ := item.Show(y); s != "(6162 (63 6162) () (-))" {
		t.Errorf("another answer was changed: %s", s)
	}
}

// P10.2, P10.3, rule 5: Build, Put and Skip change nothing of the tokens,
// their spare room neither, and tell the same each time.
func TestTokensStay(t *testing.T) {
	for _, s := range []string{"(a(b)())", "(a(b)", "(a?b)", ")", "a", "(a(b)(c))"} {
		l := append(row(s), row("((a)))")...)
		n := len(row(s))
		for range 2 {
			walk.Build(l[:n])
			walk.Put(l[:n])
			for at := range n + 1 {
				walk.Skip(l[:n], at)
			}
		}
		if !slices.Equal(l, append(row(s), row("((a)))")...)) {
			t.Errorf("%q was changed: %v", s, l)
		}
	}
}

// P10.2, rule 5: what is put is no token's text, nor another answer.
func TestPutIsNew(t *testing.T) {
	s := strings.Clone("a")
	for _, l := range [][]walk.Token{{word(s)}, around(word(s))} {
		a, _ := walk.Put(l)
		b, _ := walk.Put(l)
		if a != b || unsafe.StringData(a) == unsafe.StringData(b) || within(a, s) {
			t.Errorf("%q is shared", a)
		}
	}
}

// The chapter's examples.
func TestExamples(t *testing.T) {
	l, e := walk.Of(item.List(item.Text("a")))
	if e != api.OK || !slices.Equal(l, []walk.Token{{Kind: walk.Open}, {Kind: walk.Word, Text: "a"}, {Kind: walk.Shut}}) {
		t.Errorf("%v %d", l, e)
	}
	if n, e := walk.Skip(l, 0); n != 3 || e != api.OK {
		t.Errorf("%d %d", n, e)
	}
	if walk.Open != 1 || walk.Shut != 2 || walk.Word != 3 {
		t.Error("the kinds are others")
	}
}

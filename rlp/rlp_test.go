package rlp_test

import (
	"math"
	"reflect"
	"slices"
	"strings"
	"testing"
	"unsafe"

	"hatchway/api"
	"hatchway/item"
	"hatchway/rlp"
)

// text and list are items written out, so that no call under test makes them.
func text(s string) api.Item { return api.Item{Text: s} }

func list(l ...api.Item) api.Item { return api.Item{List: true, Sub: l} }

// tower is lists within lists around x, so many of them.
func tower(lists int, x api.Item) api.Item {
	for range lists {
		x = list(x)
	}
	return x
}

// wide is a list of so many empty texts.
func wide(n int) api.Item { return list(make([]api.Item, n)...) }

// ring is a list that stands within itself.
func ring() api.Item {
	l := make([]api.Item, 1)
	l[0] = list(l...)
	return l[0]
}

// long is a text of so many bytes.
func long(n int) string { return strings.Repeat("x", n) }

// written is an item, and its bytes.
type written struct {
	name string
	x    api.Item
	s    string
}

// edges are items with their bytes written out: what the chapter names, and
// all sizes at which something changes.
func edges() []written {
	return slices.Concat(shortEdges(), textEdges(), listEdges())
}

func shortEdges() []written {
	return []written{
		{"empty text", text(""), "\x80"},
		{"byte 0", text("\x00"), "\x00"},
		{"byte 1", text("\x01"), "\x01"},
		{"byte 127", text("\x7f"), "\x7f"},
		{"byte 128", text("\x80"), "\x81\x80"},
		{"byte 129", text("\x81"), "\x81\x81"},
		{"byte 255", text("\xff"), "\x81\xff"},
		{"two bytes", text("\x00\x00"), "\x82\x00\x00"},
		{"dog", text("dog"), "\x83dog"},
		{"empty list", list(), "\xc0"},
		{"list of a byte", list(text("a")), "\xc1a"},
		{"list of an empty text", list(text("")), "\xc1\x80"},
		{"list of an empty list", list(list()), "\xc1\xc0"},
		{"list of a byte from 128 on", list(text("\x80")), "\xc2\x81\x80"},
		{"cat and dog", list(text("cat"), text("dog")), "\xc8\x83cat\x83dog"},
		{"lists first and last", list(list(text("a"), text("b")), text("c"), list(text("d"))), "\xc6\xc2abc\xc1d"},
		{"three as sets", list(list(), list(list()), list(list(), list(list()))), "\xc7\xc0\xc1\xc0\xc3\xc0\xc1\xc0"},
	}
}

// textEdges are texts of all sizes at which the head changes.
func textEdges() []written {
	return []written{
		{"text of 54", text(long(54)), "\xb6" + long(54)},
		{"text of 55", text(long(55)), "\xb7" + long(55)},
		{"text of 56", text(long(56)), "\xb8\x38" + long(56)},
		{"text of 57", text(long(57)), "\xb8\x39" + long(57)},
		{"text of 255", text(long(255)), "\xb8\xff" + long(255)},
		{"text of 256", text(long(256)), "\xb9\x01\x00" + long(256)},
		{"text of 257", text(long(257)), "\xb9\x01\x01" + long(257)},
		{"text of 65535", text(long(65535)), "\xb9\xff\xff" + long(65535)},
		{"text of 65536", text(long(65536)), "\xba\x01\x00\x00" + long(65536)},
		{"text of 2^24 - 1", text(long(1<<24 - 1)), "\xba\xff\xff\xff" + long(1<<24-1)},
		{"text of 2^24", text(long(1 << 24)), "\xbb\x01\x00\x00\x00" + long(1<<24)},
	}
}

// listEdges are lists of all sizes at which the head changes, their bytes in
// one item or in many, and the deepest and the widest that may be.
func listEdges() []written {
	return []written{
		{"list of 54 in many", wide(54), "\xf6" + strings.Repeat("\x80", 54)},
		{"list of 55 in many", wide(55), "\xf7" + strings.Repeat("\x80", 55)},
		{"list of 56 in many", wide(56), "\xf8\x38" + strings.Repeat("\x80", 56)},
		{"list of 255 in many", wide(255), "\xf8\xff" + strings.Repeat("\x80", 255)},
		{"list of 256 in many", wide(256), "\xf9\x01\x00" + strings.Repeat("\x80", 256)},
		{"list of 1023 in 1024 items", wide(1023), "\xf9\x03\xff" + strings.Repeat("\x80", 1023)},
		{"list of 55 in one", list(text(long(54))), "\xf7\xb6" + long(54)},
		{"list of 56 in one", list(text(long(55))), "\xf8\x38\xb7" + long(55)},
		{"list of 255 in one", list(text(long(253))), "\xf8\xff\xb8\xfd" + long(253)},
		{"list of 256 in one", list(text(long(254))), "\xf9\x01\x00\xb8\xfe" + long(254)},
		{"list of 65535 in one", list(text(long(65532))), "\xf9\xff\xff\xb9\xff\xfc" + long(65532)},
		{"list of 65536 in one", list(text(long(65533))), "\xfa\x01\x00\x00\xb9\xff\xfd" + long(65533)},
		{"list of 65536 in three", list(list(), text(long(65531)), text("a")), "\xfa\x01\x00\x00\xc0\xb9\xff\xfb" + long(65531) + "a"},
		{"long lists side by side", list(wide(56), list(wide(56))), "\xf8\x76\xf8\x38" + strings.Repeat("\x80", 56) + "\xf8\x3a\xf8\x38" + strings.Repeat("\x80", 56)},
		{"16 deep", tower(15, text("a")), "\xcf\xce\xcd\xcc\xcb\xca\xc9\xc8\xc7\xc6\xc5\xc4\xc3\xc2\xc1a"},
		{"16 deep, all lists", tower(15, list()), "\xcf\xce\xcd\xcc\xcb\xca\xc9\xc8\xc7\xc6\xc5\xc4\xc3\xc2\xc1\xc0"},
		{"1024 items, 16 deep", tower(14, wide(1009)), deepAndWide()},
	}
}

// deepAndWide are the bytes of 14 lists around one of 1009 texts.
func deepAndWide() string {
	s := strings.Repeat("\x80", 1009)
	for range 15 {
		n := len(s)
		s = "\xf9" + string([]byte{byte(n >> 8), byte(n)}) + s
	}
	return s
}

// P9.1, P9.2, P9.3: Put, Size, Next and Get of every edge.
func TestEdges(t *testing.T) {
	for _, c := range edges() {
		if s, e := rlp.Put(c.x); e != api.OK || s != c.s {
			t.Errorf("Put of %s: %.40q %d", c.name, s, e)
		}
		if n := rlp.Size(c.x); n != len(c.s) {
			t.Errorf("Size of %s: %d, want %d", c.name, n, len(c.s))
		}
		if x, n, e := rlp.Next(c.s, 16, 1024); e != api.OK || n != len(c.s) || !item.Same(x, c.x) {
			t.Errorf("Next of %s: %d %d", c.name, n, e)
		}
		if x, e := rlp.Get(c.s, 16, 1024); e != api.OK || !item.Same(x, c.x) {
			t.Errorf("Get of %s: %d", c.name, e)
		}
	}
}

// P9.2, P9.3: what stands behind an item plays no part in Next, whatever it
// is, and is ErrForm of Get.
func TestBehind(t *testing.T) {
	for _, c := range edges() {
		for _, behind := range []string{"\x00", "\x80", "\x81", "\xc0", "\xff", "\xbf\xff\xff\xff\xff\xff\xff\xff\xff", "more", c.s} {
			s := c.s + behind
			if x, n, e := rlp.Next(s, 16, 1024); e != api.OK || n != len(c.s) || !item.Same(x, c.x) {
				t.Errorf("Next of %s and %.9q: %d %d", c.name, behind, n, e)
			}
			if x, e := rlp.Get(s, 16, 1024); e != api.ErrForm || !zero(x) {
				t.Errorf("Get of %s and %.9q: %d", c.name, behind, e)
			}
		}
	}
}

// zero tells whether x is a zero item, its list nil or empty.
func zero(x api.Item) bool {
	return x.Text == "" && !x.List && len(x.Sub) == 0
}

// P9.1: Put answers ErrArg, and Size 0, of an item that may not be, whether it
// ends or not.
func TestMayNotBe(t *testing.T) {
	within := api.Item{Text: "a", Sub: []api.Item{{}}}
	for name, x := range map[string]api.Item{
		"text with a Sub":             within,
		"empty text with a Sub":       {Sub: []api.Item{{}}},
		"empty text with a list":      {Sub: []api.Item{{List: true}}},
		"list with a Text":            {Text: "a", List: true},
		"full list with a Text":       {Text: "a", List: true, Sub: []api.Item{{}}},
		"text with a Sub within":      list(text("b"), within),
		"list with a Text within":     list(api.Item{Text: "a", List: true}, text("b")),
		"text with a Sub deep within": tower(14, within),
		"17 deep":                     tower(16, text("a")),
		"17 deep, all lists":          tower(16, list()),
		"10000 deep":                  tower(9_999, text("a")),
		"1025 items":                  wide(1024),
		"1025 items in two":           list(wide(1022), list()),
		"1025 items, 16 deep":         tower(14, wide(1010)),
		"within itself":               ring(),
		"within itself, deep within":  tower(9, ring()),
	} {
		if s, e := rlp.Put(x); e != api.ErrArg || s != "" {
			t.Errorf("Put of %s: %.20q %d", name, s, e)
		}
		if n := rlp.Size(x); n != 0 {
			t.Errorf("Size of %s: %d", name, n)
		}
	}
}

// P9.1, rule 4: a list's nil Sub, and a text's empty one, change nothing.
func TestNoItems(t *testing.T) {
	for s, x := range map[string]api.Item{
		"\xc0":     {List: true, Sub: []api.Item{}},
		"\xc1\xc0": list(api.Item{List: true, Sub: make([]api.Item, 0, 4)}),
		"a":        {Text: "a", Sub: []api.Item{}},
		"\x80":     {Sub: make([]api.Item, 0, 4)},
	} {
		if got, e := rlp.Put(x); e != api.OK || got != s || rlp.Size(x) != len(s) {
			t.Errorf("Put of %v: %q %d", x, got, e)
		}
	}
}

// refused is what Next and Get are given, and the error that both tell.
type refused struct {
	s            string
	depth, items int
	want         api.Errno
}

// refuse holds Next and Get against each row: nothing comes beside an error.
func refuse(t *testing.T, rows []refused) {
	t.Helper()
	for _, c := range rows {
		x, n, e := rlp.Next(c.s, c.depth, c.items)
		if e != c.want || n != 0 || !zero(x) {
			t.Errorf("Next(%.40q, %d, %d): %d %d, want %d", c.s, c.depth, c.items, n, e, c.want)
		}
		x, e = rlp.Get(c.s, c.depth, c.items)
		if e != c.want || !zero(x) {
			t.Errorf("Get(%.40q, %d, %d): %d, want %d", c.s, c.depth, c.items, e, c.want)
		}
	}
}

// P9.2: what may be wrong with one item, each alone.
func TestOneItem(t *testing.T) {
	ff := strings.Repeat("\xff", 8)
	refuse(t, []refused{
		// No byte is there.
		{"", 16, 1024, api.ErrShort},
		// The head's bytes aren't all there.
		{"\xb8", 16, 1024, api.ErrShort}, {"\xb9", 16, 1024, api.ErrShort}, {"\xb9\x01", 16, 1024, api.ErrShort},
		{"\xbf", 16, 1024, api.ErrShort}, {"\xbf" + ff[:7], 16, 1024, api.ErrShort},
		{"\xf8", 16, 1024, api.ErrShort}, {"\xf9", 16, 1024, api.ErrShort}, {"\xf9\x01", 16, 1024, api.ErrShort},
		{"\xff", 16, 1024, api.ErrShort}, {"\xff" + ff[:7], 16, 1024, api.ErrShort},
		// They begin with a nought.
		{"\xb8\x00", 16, 1024, api.ErrForm}, {"\xb9\x00\x38" + long(56), 16, 1024, api.ErrForm}, {"\xb9\x00\xff" + long(255), 16, 1024, api.ErrForm},
		{"\xbf\x00" + ff[:7], 16, 1024, api.ErrForm}, {"\xbf\x00\x00\x00\x00\x00\x00\x00\x38" + long(56), 16, 1024, api.ErrForm},
		{"\xf8\x00", 16, 1024, api.ErrForm}, {"\xf9\x00\x38" + strings.Repeat("\x80", 56), 16, 1024, api.ErrForm},
		{"\xff\x00" + ff[:7], 16, 1024, api.ErrForm},
		// They tell a number below 56.
		{"\xb8\x01a", 16, 1024, api.ErrForm}, {"\xb8\x37" + long(55), 16, 1024, api.ErrForm}, {"\xb8\x36" + long(54), 16, 1024, api.ErrForm},
		{"\xf8\x01a", 16, 1024, api.ErrForm}, {"\xf8\x37" + strings.Repeat("\x80", 55), 16, 1024, api.ErrForm},
		// Fewer bytes stand behind the head than it says.
		{"\x81", 16, 1024, api.ErrShort}, {"\x82a", 16, 1024, api.ErrShort}, {"\x83do", 16, 1024, api.ErrShort},
		{"\xb7" + long(54), 16, 1024, api.ErrShort}, {"\xb8\x38" + long(55), 16, 1024, api.ErrShort}, {"\xb8\x38", 16, 1024, api.ErrShort},
		{"\xb8\xff" + long(254), 16, 1024, api.ErrShort}, {"\xb9\x01\x00" + long(255), 16, 1024, api.ErrShort}, {"\xb9\xff\xff" + long(65534), 16, 1024, api.ErrShort},
		{"\xc1", 16, 1024, api.ErrShort}, {"\xc2\xc0", 16, 1024, api.ErrShort}, {"\xf7" + strings.Repeat("\x80", 54), 16, 1024, api.ErrShort},
		{"\xf8\x38" + strings.Repeat("\x80", 55), 16, 1024, api.ErrShort}, {"\xf8\x38", 16, 1024, api.ErrShort},
		// Far more, up to the greatest number.
		{"\xbb\x7f\xff\xff\xff", 16, 1024, api.ErrShort}, {"\xbb\x80\x00\x00\x00", 16, 1024, api.ErrShort}, {"\xbb\xff\xff\xff\xff" + long(99), 16, 1024, api.ErrShort},
		{"\xbc\x01\x00\x00\x00\x00", 16, 1024, api.ErrShort}, {"\xbf\x01\x00\x00\x00\x00\x00\x00\x00", 16, 1024, api.ErrShort},
		{"\xbf\x7f" + ff[:7], 16, 1024, api.ErrShort}, {"\xbf\x80\x00\x00\x00\x00\x00\x00\x00", 16, 1024, api.ErrShort}, {"\xbf\x80\x00\x00\x00\x00\x00\x00\x01a", 16, 1024, api.ErrShort},
		{"\xbf" + ff, 16, 1024, api.ErrShort}, {"\xbf" + ff + long(99), 16, 1024, api.ErrShort}, {"\xbf" + ff[:7] + "\xf7", 16, 1024, api.ErrShort}, {"\xbf" + ff[:7] + "\xf6a", 16, 1024, api.ErrShort},
		{"\xff\x7f" + ff[:7], 16, 1024, api.ErrShort}, {"\xff\x80\x00\x00\x00\x00\x00\x00\x00", 16, 1024, api.ErrShort}, {"\xff" + ff, 16, 1024, api.ErrShort}, {"\xff" + ff + long(99), 16, 1024, api.ErrShort},
		// A text of one byte below 128 with a head.
		{"\x81\x00", 16, 1024, api.ErrForm}, {"\x81\x05", 16, 1024, api.ErrForm}, {"\x81\x7f", 16, 1024, api.ErrForm},
	})
}

// P9.2: what may be wrong within a list is told of the bytes up to its end
// alone: whatever stands behind that plays no part.
func TestWithinList(t *testing.T) {
	ff := strings.Repeat("\xff", 8)
	for _, behind := range []string{"", "a", "\x80", "\xc0", "\x38" + long(56), long(300)} {
		for _, s := range []string{
			// An item that goes past the list's end.
			"\xc1\x81", "\xc1\x83", "\xc2\x82a", "\xc3\x83do", "\xc1\xc1", "\xc2\xc2\x80", "\xc3\xc0\xc1\xc1", "\xc3\xc2\xc1\x81",
			"\xc1\xb8", "\xc2\xb9\x01", "\xc2\xb8\x38", "\xc3\xb8\x38a", "\xc1\xf8", "\xc2\xf9\x01", "\xc2\xf8\x38", "\xc1\xbf", "\xc9\xbf" + ff, "\xc9\xff" + ff, "\xc8\xbf" + ff[:7],
			"\xf8\x39\xb8\x38" + long(55), "\xf8\x39\xf8\x38" + strings.Repeat("\x80", 55), "\xf8\x38" + strings.Repeat("\x80", 55) + "\x81",
			// A head within a list, or a bare byte with one.
			"\xc2\xb8\x00", "\xc3\xb9\x00\x38", "\xc2\xb8\x37", "\xf8\x39\xb8\x37" + long(55), "\xc2\x81\x00", "\xc2\x81\x7f", "\xc4a\xc2\x81\x7f",
			// Behind items that are right.
			"\xc3ab\x81", "\xc4\xc0\xc1a\x81", "\xc5\xc3\xc2\xc0\xc1\xc0", "\xc3\xc1a\xc1",
		} {
			refuse(t, []refused{{s + behind, 16, 1024, api.ErrForm}})
		}
	}
	refuse(t, []refused{
		// The list itself is short: of what is first, ErrShort stays.
		{"\xc2\x81", 16, 1024, api.ErrShort}, {"\xc4\x83do", 16, 1024, api.ErrShort}, {"\xc2\xc1", 16, 1024, api.ErrShort}, {"\xf8\x39\xb8\x38" + long(54), 16, 1024, api.ErrShort},
		// A list within one that is short only there.
		{"\xc1\xc1\xc0", 16, 1024, api.ErrForm}, {"\xc3\xc1\xc1\xc0", 16, 1024, api.ErrForm},
	})
}

// P9.2: depth and items just enough, one too few, 0, below 0, and more than
// the limits.
func TestCaps(t *testing.T) {
	far := []int{math.MaxInt, math.MaxInt32, 1 << 20}
	for _, c := range edges() {
		deep, count := item.Deep(c.x), item.Count(c.x)
		for _, depth := range append(far, deep, deep+1, 16, 17) {
			for _, items := range append(far, count, count+1, 1024, 1025) {
				if x, n, e := rlp.Next(c.s, depth, items); e != api.OK || n != len(c.s) || !item.Same(x, c.x) {
					t.Errorf("Next of %s, %d, %d: %d %d", c.name, depth, items, n, e)
				}
			}
		}
		for _, none := range []int{0, -1, math.MinInt} {
			refuse(t, []refused{{c.s, none, count, api.ErrDeep}, {c.s, deep, none, api.ErrMany}, {c.s, none, none, api.ErrDeep}})
		}
		refuse(t, []refused{{c.s, deep - 1, 1024, api.ErrDeep}, {c.s, 16, count - 1, api.ErrMany}})
	}
}

// P9.2: items that are deeper, or more, than the limits are told as that,
// whatever else is allowed.
func TestLimits(t *testing.T) {
	towers := func(n int) string {
		s := "a"
		for range n {
			s = string([]byte{192 + byte(len(s))}) + s
		}
		return s
	}
	texts := func(n int) string {
		return string([]byte{0xf9, byte(n >> 8), byte(n)}) + strings.Repeat("\x80", n)
	}
	for _, most := range []int{17, 1024, 1025, 1 << 20, math.MaxInt} {
		refuse(t, []refused{
			{towers(16), most, most, api.ErrDeep}, {towers(20), most, most, api.ErrDeep},
			{texts(1024), most, max(most, 1024), api.ErrMany}, {texts(2000), most, max(most, 1024), api.ErrMany}, {texts(60000), most, max(most, 1024), api.ErrMany},
		})
	}
	if _, e := rlp.Get(towers(15), math.MaxInt, math.MaxInt); e != api.OK {
		t.Errorf("16 deep: %d", e)
	}
	if _, e := rlp.Get(texts(1023), math.MaxInt, math.MaxInt); e != api.OK {
		t.Errorf("1024 items: %d", e)
	}
}

// P9.2, rule 2: of two errors that hold in one item the one that the chapter
// names first is told, and from item to item the one further left.
func TestOrder(t *testing.T) {
	refuse(t, []refused{
		// No byte, ahead of depth and items.
		{"", 0, 1024, api.ErrShort}, {"", 16, 0, api.ErrShort}, {"", 0, 0, api.ErrShort}, {"", -1, -1, api.ErrShort},
		// Depth ahead of items, both ahead of what the head has.
		{"a", 0, 0, api.ErrDeep}, {"\xb8", 0, 1, api.ErrDeep}, {"\xb8\x00", 0, 1, api.ErrDeep}, {"\x81", 0, 1, api.ErrDeep}, {"\x81\x00", 0, 1, api.ErrDeep},
		{"\xb8", 1, 0, api.ErrMany}, {"\xb8\x00", 1, 0, api.ErrMany}, {"\x81", 1, 0, api.ErrMany}, {"\x81\x00", 1, 0, api.ErrMany},
		{"\xc1\xc0", 1, 1, api.ErrDeep}, {"\xc1\x81", 1, 2, api.ErrDeep}, {"\xc1\xb8", 1, 2, api.ErrDeep}, {"\xc1\x81", 2, 1, api.ErrMany}, {"\xc2\x81\x00", 2, 1, api.ErrMany},
		// The head's bytes that aren't there ahead of the nought and the number.
		{"\xb9\x00", 16, 1024, api.ErrShort}, {"\xf9\x00", 16, 1024, api.ErrShort}, {"\xbf" + strings.Repeat("\x00", 7), 16, 1024, api.ErrShort},
		// The nought and the number ahead of the bytes behind.
		{"\xb8\x37", 16, 1024, api.ErrForm}, {"\xb8\x01", 16, 1024, api.ErrForm}, {"\xf8\x37", 16, 1024, api.ErrForm}, {"\xb9\x00\x38", 16, 1024, api.ErrForm}, {"\xb9\x00\x00", 16, 1024, api.ErrForm}, {"\xb8\x01\x05", 16, 1024, api.ErrForm},
		// A list that is short ahead of all that is within it.
		{"\xc2\xc0", 1, 1024, api.ErrShort}, {"\xc2\x80", 16, 1, api.ErrShort}, {"\xc3\x81\x05", 16, 1024, api.ErrShort}, {"\xc3\xb8\x00", 16, 1024, api.ErrShort}, {"\xf8\x37\x81", 16, 1024, api.ErrForm},
		// From item to item.
		{"\xc4\x81\x05\xc1\xc0", 2, 9, api.ErrForm}, {"\xc4\xc1\xc0\x81\x05", 2, 9, api.ErrDeep}, {"\xc2\xc1\x83", 2, 9, api.ErrDeep}, {"\xc2\xc1\x83", 3, 9, api.ErrForm}, {"\xc2\xc1\x83", 3, 2, api.ErrMany}, {"\xc2\xc1\x83", 2, 2, api.ErrDeep},
		{"\xc4a\x81\x05b", 16, 2, api.ErrMany}, {"\xc4a\x81\x05b", 16, 3, api.ErrForm}, {"\xc3aa\x81", 16, 3, api.ErrMany}, {"\xc3aa\x81", 16, 4, api.ErrForm}, {"\xc4aa\xc1a", 2, 3, api.ErrMany}, {"\xc4aa\xc1a", 2, 4, api.ErrDeep}, {"\xc4aa\xc1a", 1, 2, api.ErrDeep},
		// What reaches past the list's end isn't looked into.
		{"\xc2\xc3\xc0\xc0\xc0", 2, 9, api.ErrForm}, {strings.Repeat("\xc1", 16) + "\xc0", 99, 99, api.ErrForm}, {"\xc1\x83dog", 16, 2, api.ErrForm}, {"\xc1\xc1\xc0", 2, 2, api.ErrForm},
		// An error of Next ahead of bytes that are left.
		{"\x81\x05more", 16, 1024, api.ErrForm}, {"ab", 0, 9, api.ErrDeep}, {"ab", 9, 0, api.ErrMany},
	})
}

// P9.2, P9.3: hostile rows of heads end at once, however long.
func TestHostile(t *testing.T) {
	n := 1 << 20
	refuse(t, []refused{
		{strings.Repeat("\xff", n), 16, 1024, api.ErrShort}, {strings.Repeat("\xbf", n), 16, 1024, api.ErrShort}, {strings.Repeat("\xc1", n), 16, 1024, api.ErrForm},
		{"\xfa\x0f\xff\xff" + strings.Repeat("\xc0", 0x0fffff), 16, 1024, api.ErrMany}, {"\xfa\x0f\xff\xff" + strings.Repeat("\xfa\x00\x00", 0x0fffff), 16, 1024, api.ErrForm},
		{strings.Repeat("\xf8\xff", n), 16, 1024, api.ErrForm},
	})
}

// model is Next by the chapter's words: of the item that is so deep, with so
// many items left, it and how many bytes it has.
func model(s string, deep, depth int, left *int) (api.Item, int, api.Errno) {
	switch {
	case s == "":
		return api.Item{}, 0, api.ErrShort
	case deep > depth || deep > 16:
		return api.Item{}, 0, api.ErrDeep
	case *left <= 0:
		return api.Item{}, 0, api.ErrMany
	}
	*left--
	if s[0] < 128 {
		return text(s[:1]), 1, api.OK
	}
	by, from := 128, 1
	if s[0] >= 192 {
		by = 192
	}
	n := uint64(int(s[0]) - by)
	if n > 55 {
		from += int(n) - 55
		if len(s) < from {
			return api.Item{}, 0, api.ErrShort
		}
		n = 0
		for _, b := range []byte(s[1:from]) {
			n = n*256 + uint64(b)
		}
		if s[1] == 0 || n < 56 {
			return api.Item{}, 0, api.ErrForm
		}
	}
	if uint64(len(s)-from) < n {
		return api.Item{}, 0, api.ErrShort
	}
	within := s[from : from+int(n)]
	if by == 192 {
		x, e := modelList(within, deep, depth, left)
		return x, from + int(n), e
	}
	if len(within) == 1 && within[0] < 128 {
		return api.Item{}, 0, api.ErrForm
	}
	return text(within), from + int(n), api.OK
}

func modelList(s string, deep, depth int, left *int) (api.Item, api.Errno) {
	x := list()
	for s != "" {
		sub, n, e := model(s, deep+1, depth, left)
		if e == api.ErrShort {
			e = api.ErrForm
		}
		if e != api.OK {
			return api.Item{}, e
		}
		x.Sub = append(x.Sub, sub)
		s = s[n:]
	}
	return x, api.OK
}

// modelNext is the model with what the chapter says of errors.
func modelNext(s string, depth, items int) (api.Item, int, api.Errno) {
	left := min(items, 1024)
	x, n, e := model(s, 1, depth, &left)
	if e != api.OK {
		return api.Item{}, 0, e
	}
	return x, n, api.OK
}

// modelPut are the bytes of an item by the chapter's words.
func modelPut(x api.Item) string {
	if x.List {
		var within strings.Builder
		for _, sub := range x.Sub {
			within.WriteString(modelPut(sub))
		}
		return modelHead(192, within.Len()) + within.String()
	}
	if len(x.Text) == 1 && x.Text[0] < 128 {
		return x.Text
	}
	return modelHead(128, len(x.Text)) + x.Text
}

func modelHead(by, n int) string {
	if n <= 55 {
		return string([]byte{byte(by + n)})
	}
	var least []byte
	for ; n > 0; n /= 256 {
		least = append([]byte{byte(n)}, least...)
	}
	return string([]byte{byte(by + 55 + len(least))}) + string(least)
}

// hold holds Next, Get and, of what was got, Put and Size against the model.
func hold(t *testing.T, s string, depth, items int) bool {
	t.Helper()
	want, size, fault := modelNext(s, depth, items)
	x, n, e := rlp.Next(s, depth, items)
	if e != fault || n != size || !alike(x, want) {
		t.Errorf("Next(%.60q, %d, %d): %v %d %d, want %v %d %d", s, depth, items, x, n, e, want, size, fault)
		return false
	}
	if fault == api.OK && size < len(s) {
		want, fault = api.Item{}, api.ErrForm
	}
	y, e := rlp.Get(s, depth, items)
	if e != fault || !alike(y, want) {
		t.Errorf("Get(%.60q, %d, %d): %v %d, want %v %d", s, depth, items, y, e, want, fault)
		return false
	}
	if size == 0 {
		return true
	}
	// No other bytes are got as an item than those that are put of it.
	if again, e := rlp.Put(x); e != api.OK || again != s[:size] || rlp.Size(x) != size {
		t.Errorf("%.60q is got, %.60q put", s[:size], again)
		return false
	}
	return true
}

// alike tells whether two items are alike, nil or empty.
func alike(a, b api.Item) bool {
	return a.List == b.List && a.Text == b.Text && slices.EqualFunc(a.Sub, b.Sub, alike)
}

// texts tells see all texts of so many marks.
func texts(marks string, n int, see func(s string) bool) bool {
	if n == 0 {
		return see("")
	}
	return texts(marks, n-1, func(s string) bool {
		for i := range len(marks) {
			if !see(s + marks[i:i+1]) {
				return false
			}
		}
		return true
	})
}

// P9.2, P9.3, P9.4: all texts of up to two bytes.
func TestAllShort(t *testing.T) {
	all := make([]byte, 256)
	for i := range all {
		all[i] = byte(i)
	}
	for n := range 3 {
		texts(string(all), n, func(s string) bool {
			return hold(t, s, 16, 1024) && hold(t, s, 1, 1024) && hold(t, s, 16, 1) && hold(t, s, 0, 0)
		})
	}
}

// P9.2, P9.3, P9.4: all texts of up to four bytes, and of up to six, out of
// those at which something changes, with caps of every small size.
func TestAllMarks(t *testing.T) {
	for n := range 5 {
		texts("\x00\x01\x37\x38\x7f\x80\x81\x82\xb7\xb8\xb9\xbf\xc0\xc1\xc2\xc3\xf7\xf8\xf9\xff", n, func(s string) bool {
			return hold(t, s, 16, 1024)
		})
	}
	for n := range 7 {
		texts("\x05\x80\x81\xc0\xc1\xc2\xc3", n, func(s string) bool {
			return hold(t, s, 16, 1024) && hold(t, s, 2, 3) && hold(t, s, 3, 4)
		})
	}
	for n := range 6 {
		texts("\x05\x81\xb8\xc0\xc1\xc2\xc4", n, func(s string) bool {
			for depth := range 5 {
				for items := range 5 {
					if !hold(t, s, depth, items) {
						return false
					}
				}
			}
			return true
		})
	}
}

// samples are bytes of items, long heads and short ones within each other.
func samples() []string {
	return []string{
		"\x83dog",
		"\x81\x80",
		"\xb7" + long(55),
		"\xb8\x38" + long(56),
		"\xb9\x01\x00" + long(256),
		"\xc8\x83cat\x83dog",
		"\xc7\xc0\xc1\xc0\xc3\xc0\xc1\xc0",
		"\xcf\xce\xcd\xcc\xcb\xca\xc9\xc8\xc7\xc6\xc5\xc4\xc3\xc2\xc1a",
		"\xf8\x3a\xb8\x38" + long(56),
		"\xf8\x76\xf8\x38" + strings.Repeat("\x80", 56) + "\xf8\x3a\xf8\x38" + strings.Repeat("\x80", 56),
		"\xf9\x01\x01" + strings.Repeat("\x00", 257),
		modelPut(list(text(long(300)), list(list(text("a"), text(long(60))), list()), text("\x80"), wide(70), text("b"))),
	}
}

// P9.2, P9.3, P9.4: bytes cut at each place, and one left out or put in there.
func TestCut(t *testing.T) {
	for _, s := range samples() {
		for i := range len(s) {
			if !hold(t, s[:i], 16, 1024) || !hold(t, s[i:], 16, 1024) || !hold(t, s[:i]+s[i+1:], 16, 1024) {
				return
			}
			for _, b := range []string{"\x00", "\x38", "\x80", "\x81", "\xb8", "\xc0", "\xc1", "\xf8", "\xff"} {
				if !hold(t, s[:i]+b+s[i:], 16, 1024) {
					return
				}
			}
			if x, n, e := rlp.Next(s[:i], 16, 1024); e != api.ErrShort || n != 0 || !zero(x) {
				t.Errorf("Next of %d bytes of %.20q: %d %d", i, s, n, e)
			}
		}
	}
}

// turns are what a byte is turned into: of short bytes all, of long ones each
// bit alone, and those at which something changes.
func turns(s string, i int) []byte {
	if len(s) < 64 {
		all := make([]byte, 256)
		for v := range all {
			all[v] = byte(v)
		}
		return all
	}
	some := []byte("\x00\x37\x38\x7f\x80\x81\xb7\xb8\xbf\xc0\xc1\xf7\xf8\xff")
	for bit := range 8 {
		some = append(some, s[i]^1<<bit)
	}
	return some
}

// P9.2, P9.3, P9.4: each byte turned into others.
func TestTurned(t *testing.T) {
	for _, s := range samples() {
		for i := range len(s) {
			b := []byte(s)
			for _, v := range turns(s, i) {
				b[i] = v
				if !hold(t, string(b), 16, 1024) {
					return
				}
			}
		}
	}
}

// small are all items of at most so many, out of four texts.
func small(items int) []api.Item {
	var all []api.Item
	if items == 0 {
		return all
	}
	for _, s := range []string{"", "\x00", "\x80", "ab"} {
		all = append(all, text(s))
	}
	for _, sub := range rows(items - 1) {
		all = append(all, list(sub...))
	}
	return all
}

// rows are all rows of items that have at most so many together.
func rows(items int) [][]api.Item {
	all := [][]api.Item{nil}
	for _, first := range small(items) {
		for _, rest := range rows(items - item.Count(first)) {
			all = append(all, append([]api.Item{first}, rest...))
		}
	}
	return all
}

// P9.1, P9.4: all small items: what is put is got again, and no two have the
// same bytes.
func TestSmall(t *testing.T) {
	all := small(5)
	seen := map[string]bool{}
	for _, x := range all {
		s, e := rlp.Put(x)
		if e != api.OK || s != modelPut(x) || rlp.Size(x) != len(s) || seen[s] {
			t.Fatalf("Put of %v: %q %d", x, s, e)
		}
		seen[s] = true
		if y, e := rlp.Get(s, item.Deep(x), item.Count(x)); e != api.OK || !item.Same(x, y) {
			t.Fatalf("Get of %q: %v %d", s, y, e)
		}
		if !hold(t, s, item.Deep(x)-1, 9) || !hold(t, s, 9, item.Count(x)-1) {
			return
		}
	}
	if len(all) < 1000 {
		t.Errorf("only %d items", len(all))
	}
}

// P9.4: lists and texts of every size around those at which heads change, in
// lists of one and of many.
func TestSizes(t *testing.T) {
	var sizes []int
	for _, at := range []int{0, 56, 112, 256, 312, 65536} {
		for n := max(at-6, 0); n < at+6; n++ {
			sizes = append(sizes, n)
		}
	}
	for _, n := range sizes {
		for _, x := range []api.Item{text(long(n)), list(text(long(n))), list(text("a"), list(text(long(n)), text("b")), list()), list(list(list(), text(long(n))), text(long(n)))} {
			s, e := rlp.Put(x)
			if e != api.OK || s != modelPut(x) || rlp.Size(x) != len(s) || !hold(t, s, 16, 1024) {
				t.Fatalf("%d: %.20q %d", n, s, e)
			}
		}
	}
}

// P9.1, rule 5: Put and Size change nothing of an item, its spare room
// neither, and what is put isn't the item's text.
func TestPutChangesNothing(t *testing.T) {
	made := func() []api.Item {
		room := []api.Item{text("a"), list(text("bc"), list()), text("spare"), list(text("spare"))}
		room[1].Sub = append(make([]api.Item, 0, 4), room[1].Sub...)
		return room
	}
	room := made()
	x := list(room[:2]...)
	first, _ := rlp.Put(x)
	rlp.Size(x)
	if !reflect.DeepEqual(room, made()) {
		t.Errorf("an argument was changed: %v", room)
	}
	second, _ := rlp.Put(x)
	if first != second || unsafe.StringData(first) == unsafe.StringData(second) {
		t.Error("two answers are one")
	}
	x.Sub[0] = text("turned")
	if first != "\xc6a\xc4\x82bc\xc0" {
		t.Errorf("what was put hangs on the item: %q", first)
	}
}

// within tells whether a text's bytes lie within those of s.
func within(s, part string) bool {
	from, at := uintptr(unsafe.Pointer(unsafe.StringData(s))), uintptr(unsafe.Pointer(unsafe.StringData(part)))
	return part != "" && at >= from && at < from+uintptr(len(s))
}

// each tells see all lists and texts of x.
func each(x api.Item, see func(x api.Item)) {
	see(x)
	for _, sub := range x.Sub {
		each(sub, see)
	}
}

// P9.2, P9.3, rule 5: an answer shares nothing with the bytes that it was got
// of, nor with another answer.
func TestGetIsNew(t *testing.T) {
	for _, s := range append(samples(), "a") {
		s = strings.Clone(s)
		a, _, _ := rlp.Next(s, 16, 1024)
		b, _ := rlp.Get(s, 16, 1024)
		kept := map[any]bool{}
		for _, x := range []api.Item{a, b} {
			each(x, func(x api.Item) {
				if within(s, x.Text) {
					t.Errorf("%.20q: a text lies in the bytes", s)
				}
				for i := range x.Sub {
					if kept[&x.Sub[i]] {
						t.Errorf("%.20q: lists share", s)
					}
					kept[&x.Sub[i]] = true
				}
			})
		}
	}
}

// P9.2, rule 5: what is appended to a list, or turned in it, is seen in no
// other list.
func TestGetIsApart(t *testing.T) {
	s := "\xca\xc3abc\xc2de\xc1f\xc0"
	x, e := rlp.Get(s, 16, 1024)
	y, f := rlp.Get(s, 16, 1024)
	if e != api.OK || f != api.OK || len(x.Sub) != 4 {
		t.Fatal(e, f, x)
	}
	each(x, func(x api.Item) {
		if cap(x.Sub) != len(x.Sub) {
			t.Errorf("spare room behind %v", x)
		}
	})
	for i := range x.Sub {
		more := append(x.Sub[i].Sub, text("more"))
		for j := range more {
			more[j] = text("turned")
		}
	}
	if got, e := rlp.Put(y); e != api.OK || got != s {
		t.Errorf("another answer was changed: %q", got)
	}
	if x.Sub[3].List != true || len(x.Sub[3].Sub) != 0 || len(x.Sub[0].Sub) != 3 {
		t.Errorf("lists were changed: %v", x)
	}
}

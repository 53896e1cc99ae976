package item_test

import (
	"math"
	"reflect"
	"slices"
	"strings"
	"testing"
	"unsafe"

	"hatchway/api"
	"hatchway/item"
)

// text and list are items written out, so that no call under test makes them.
func text(s string) api.Item { return api.Item{Text: s} }

func list(l ...api.Item) api.Item { return api.Item{List: true, Sub: l} }

// tower is lists within lists around x, so many of them.
func tower(lists int, x api.Item) api.Item {
	for range lists {
		x = list(x)
	}
	return x
}

// wide is a list of so many empty texts.
func wide(n int) api.Item { return list(make([]api.Item, n)...) }

// spread is a list of lists of so many texts each.
func spread(sizes ...int) api.Item {
	x := list()
	for _, n := range sizes {
		x.Sub = append(x.Sub, wide(n))
	}
	return x
}

// ring is a list that stands within itself.
func ring() api.Item {
	l := make([]api.Item, 1)
	l[0] = list(l...)
	return l[0]
}

// rings is a list of so many that all have it as theirs.
func rings(n int) api.Item {
	l := make([]api.Item, n)
	for i := range l {
		l[i] = list(l...)
	}
	return l[0]
}

// textRing is a text that has itself as its Sub.
func textRing() api.Item {
	l := make([]api.Item, 1)
	l[0] = api.Item{Text: "a", Sub: l}
	return l[0]
}

// doubled is as many lists as lists, of two that are one and the same each.
func doubled(lists int) api.Item {
	x := text("a")
	for range lists {
		x = list(x, x)
	}
	return x
}

// The items that may not be as they have something of both kinds.
var (
	textWithSub  = api.Item{Text: "a", Sub: []api.Item{{}}}
	bareWithSub  = api.Item{Sub: []api.Item{{}}}
	listWithText = api.Item{Text: "a", List: true}
	fullWithText = api.Item{Text: "a", List: true, Sub: []api.Item{{Text: "b"}}}
)

// measured is an item, and what chapter 8 says of it.
type measured struct {
	name        string
	x           api.Item
	may         bool
	items, deep int
}

// edges are the items that the issue names, and those around them.
func edges() []measured {
	return append(ended(), endless()...)
}

// ended are the edges that have an end, and are few enough to be written out.
func ended() []measured {
	return []measured{
		{"zero", api.Item{}, true, 1, 1},
		{"text", text("a"), true, 1, 1},
		{"long text", text(strings.Repeat("a", 1<<17)), true, 1, 1},
		{"text with an empty Sub", api.Item{Text: "a", Sub: []api.Item{}}, true, 1, 1},
		{"empty list", list(), true, 1, 1},
		{"empty list, not nil", api.Item{List: true, Sub: []api.Item{}}, true, 1, 1},
		{"list", list(text("a"), text("")), true, 3, 2},
		{"deepest first", list(tower(3, text("a")), text("b")), true, 6, 5},
		{"deepest last", list(text("b"), tower(3, text("a"))), true, 6, 5},
		{"text with a Sub", textWithSub, false, 2, 2},
		{"empty text with a Sub", bareWithSub, false, 2, 2},
		{"list with a Text", listWithText, false, 1, 1},
		{"full list with a Text", fullWithText, false, 2, 2},
		{"text with a Sub within", list(text("b"), textWithSub, text("c")), false, 5, 3},
		{"empty text with a Sub within", list(text("b"), bareWithSub), false, 4, 3},
		{"list with a Text within", list(listWithText, text("b")), false, 3, 2},
		{"text with a Sub deep within", tower(14, textWithSub), false, 16, 16},
		{"list with a Text deep within", tower(15, listWithText), false, 16, 16},
		{"text with a Sub that is too deep", tower(15, textWithSub), false, 0, 0},
		{"text with a list with a Text", api.Item{Sub: []api.Item{listWithText}}, false, 2, 2},
		{"15 deep", tower(14, text("a")), true, 15, 15},
		{"16 deep", tower(15, text("a")), true, 16, 16},
		{"16 deep, all lists", tower(15, list()), true, 16, 16},
		{"17 deep", tower(16, text("a")), false, 0, 0},
		{"17 deep, all lists", tower(16, list()), false, 0, 0},
		{"17 deep, behind others", list(text("a"), tower(15, text("b"))), false, 0, 0},
		{"1000 deep", tower(999, text("a")), false, 0, 0},
		{"10000 deep", tower(9_999, text("a")), false, 0, 0},
		{"1023 items", wide(1022), true, 1023, 2},
		{"1024 items", wide(1023), true, 1024, 2},
		{"1025 items", wide(1024), false, 0, 0},
		{"10000 items", wide(9_999), false, 0, 0},
		{"1024 items in many", spread(500, 500, 20), true, 1024, 3},
		{"1025 items in many", spread(500, 500, 21), false, 0, 0},
		{"1024 items in two", spread(0, 1021), true, 1024, 3},
		{"1025 items in two", spread(1022, 0), false, 0, 0},
		{"1024 items, 16 deep", tower(14, wide(1009)), true, 1024, 16},
		{"1025 items, 16 deep", tower(14, wide(1010)), false, 0, 0},
		{"1024 items, 17 deep", tower(15, wide(1008)), false, 0, 0},
		{"1023 items by two", doubled(9), true, 1023, 10},
		{"2047 items by two", doubled(10), false, 0, 0},
		{"16 deep by two", doubled(15), false, 0, 0},
	}
}

// endless are those that nothing gets through to the end of.
func endless() []measured {
	return []measured{
		{"60 deep by two", doubled(60), false, 0, 0},
		{"a million deep", tower(1_000_000, text("a")), false, 0, 0},
		{"a million items", wide(1_000_000), false, 0, 0},
		{"within itself", ring(), false, 0, 0},
		{"many within themselves", rings(40), false, 0, 0},
		{"a text within itself", textRing(), false, 0, 0},
		{"within itself, deep within", tower(10, ring()), false, 0, 0},
	}
}

// P8.1: May, Count, Deep of every edge.
func TestMeasures(t *testing.T) {
	for _, c := range edges() {
		if got := item.May(c.x); got != c.may {
			t.Errorf("May of %s: %v", c.name, got)
		}
		if got := item.Count(c.x); got != c.items {
			t.Errorf("Count of %s: %d, want %d", c.name, got, c.items)
		}
		if got := item.Deep(c.x); got != c.deep {
			t.Errorf("Deep of %s: %d, want %d", c.name, got, c.deep)
		}
	}
}

// around are numbers just at n, around it, and far off.
func around(n int) []int {
	return []int{math.MinInt, -1, 0, 1, n - 1, n, n + 1, api.MaxDepth, api.MaxItems, math.MaxInt}
}

// P8.1: Caps tells the first of what the chapter names, of every edge, and of
// every depth and count around its own.
func TestCaps(t *testing.T) {
	for _, c := range edges() {
		for _, depth := range around(c.deep) {
			for _, items := range around(c.items) {
				want := api.OK
				if items < c.items {
					want = api.ErrMany
				}
				if depth < c.deep {
					want = api.ErrDeep
				}
				if !c.may {
					want = api.ErrArg
				}
				if e := item.Caps(c.x, depth, items); e != want {
					t.Errorf("Caps(%s, %d, %d): %d, want %d", c.name, depth, items, e, want)
				}
			}
		}
	}
}

// P8.1: Caps of one item, row by row: what is just enough, one too few, 0 and
// below, and which error comes first.
func TestCapsOfOne(t *testing.T) {
	x := list(text("a"), list(text("b"), text("c")))
	for _, c := range []struct {
		depth, items int
		want         api.Errno
	}{
		{3, 5, api.OK}, {4, 6, api.OK}, {16, 1024, api.OK}, {math.MaxInt, math.MaxInt, api.OK},
		{2, 5, api.ErrDeep}, {3, 4, api.ErrMany}, {2, 4, api.ErrDeep},
		{0, 5, api.ErrDeep}, {3, 0, api.ErrMany}, {0, 0, api.ErrDeep},
		{-1, 5, api.ErrDeep}, {3, -1, api.ErrMany}, {-1, -1, api.ErrDeep},
	} {
		if e := item.Caps(x, c.depth, c.items); e != c.want {
			t.Errorf("Caps(%d, %d): %d, want %d", c.depth, c.items, e, c.want)
		}
	}
}

// small are all items of at most so many, out of two texts, with all that may
// not be among them.
func small(items int) []api.Item {
	var all []api.Item
	if items == 0 {
		return all
	}
	for _, sub := range rows(items - 1) {
		for _, s := range []string{"", "a"} {
			all = append(all, api.Item{Text: s, Sub: sub}, api.Item{Text: s, List: true, Sub: sub})
		}
	}
	return all
}

// rows are all rows of items that have at most so many together.
func rows(items int) [][]api.Item {
	all := [][]api.Item{nil}
	for _, first := range small(items) {
		for _, rest := range rows(items - modelCount(first)) {
			all = append(all, append([]api.Item{first}, rest...))
		}
	}
	return all
}

// modelCount, modelDeep and modelMay are what the chapter's words say, of
// items that end.
func modelCount(x api.Item) int {
	n := 1
	for _, sub := range x.Sub {
		n += modelCount(sub)
	}
	return n
}

func modelDeep(x api.Item) int {
	deepest := 0
	for _, sub := range x.Sub {
		deepest = max(deepest, modelDeep(sub))
	}
	return deepest + 1
}

func modelMay(x api.Item) bool {
	mixed := x.List && x.Text != "" || !x.List && len(x.Sub) > 0
	return !mixed && modelDeep(x) <= 16 && modelCount(x) <= 1024 && !slices.ContainsFunc(x.Sub, func(sub api.Item) bool { return !modelMay(sub) })
}

// P8.1: all small items are measured as the words say.
func TestSmall(t *testing.T) {
	all := small(4)
	for _, x := range all {
		if item.May(x) != modelMay(x) || item.Count(x) != modelCount(x) || item.Deep(x) != modelDeep(x) {
			t.Errorf("%v: %v %d %d", x, item.May(x), item.Count(x), item.Deep(x))
		}
	}
	if len(all) < 1000 {
		t.Errorf("only %d items", len(all))
	}
}

// P8.1: Same holds of just those that may be and are alike, nil or empty.
func TestSame(t *testing.T) {
	all := small(3)
	for _, a := range all {
		for _, b := range all {
			want := modelMay(a) && reflect.DeepEqual(a, b)
			if got := item.Same(a, b); got != want {
				t.Errorf("Same(%v, %v): %v", a, b, got)
			}
		}
	}
	for _, c := range edges() {
		if got := item.Same(c.x, c.x); got != c.may {
			t.Errorf("Same of %s and itself: %v", c.name, got)
		}
		if item.Same(c.x, text("other")) || item.Same(text("other"), c.x) {
			t.Errorf("Same of %s and another one", c.name)
		}
	}
}

// P8.1, rule 4: nil and empty are one and the same.
func TestSameOfNoItems(t *testing.T) {
	bare, laid := api.Item{List: true}, api.Item{List: true, Sub: make([]api.Item, 0, 4)}
	if !item.Same(bare, laid) || !item.Same(list(laid), list(bare)) {
		t.Error("an empty list isn't one without Sub")
	}
	if !item.Same(text("a"), api.Item{Text: "a", Sub: []api.Item{}}) {
		t.Error("a text with an empty Sub isn't one without")
	}
}

// P8.1: Same sees what differs anywhere.
func TestSameSees(t *testing.T) {
	a := list(text("a"), list(text("b"), list(), text("")), text("c"))
	for _, b := range []api.Item{
		list(text("A"), list(text("b"), list(), text("")), text("c")),
		list(text("a"), list(text("b"), list(), text("")), text("d")),
		list(text("a"), list(text("bb"), list(), text("")), text("c")),
		list(text("a"), list(text("b"), text(""), text("")), text("c")),
		list(text("a"), list(text("b"), list(), list()), text("c")),
		list(text("a"), list(text("b"), list(text("")), text("")), text("c")),
		list(text("a"), list(text("b"), list()), text("c")),
		list(text("a"), list(text("b"), list(), text(""), text("")), text("c")),
		list(text("a"), list(text("b"), list(), text(""))),
		list(text("c"), list(text("b"), list(), text("")), text("a")),
		list(a),
	} {
		if item.Same(a, b) || item.Same(b, a) {
			t.Errorf("Same as %v", b)
		}
	}
	if !item.Same(a, list(text("a"), list(text("b"), list(), text("")), text("c"))) {
		t.Error("not the same as one that is alike in all")
	}
}

// stir turns all that x has within it, in place.
func stir(x api.Item) {
	for i := range x.Sub {
		stir(x.Sub[i])
		x.Sub[i] = text("stirred")
	}
}

// shares tells whether a and b share a list's room, or a text's bytes.
func shares(a, b api.Item) bool {
	kept := map[any]bool{}
	mark := func(x api.Item, see func(at any)) {
		if x.Text != "" {
			see(unsafe.StringData(x.Text))
		}
		for i := range x.Sub {
			see(&x.Sub[i])
		}
	}
	var each func(x api.Item, see func(at any))
	each = func(x api.Item, see func(at any)) {
		mark(x, see)
		for _, sub := range x.Sub {
			each(sub, see)
		}
	}
	each(a, func(at any) { kept[at] = true })
	found := false
	each(b, func(at any) { found = found || kept[at] })
	return found
}

// P8.1: a copy is alike, of whatever may be; of what may not, it is zero.
func TestCopy(t *testing.T) {
	for _, c := range edges() {
		got := item.Copy(c.x)
		if !c.may {
			if !reflect.DeepEqual(got, api.Item{}) {
				t.Errorf("Copy of %s isn't zero", c.name)
			}
			continue
		}
		if !item.Same(got, c.x) || shares(got, c.x) {
			t.Errorf("Copy of %s: alike %v, shares %v", c.name, item.Same(got, c.x), shares(got, c.x))
		}
	}
	for _, x := range small(4) {
		got := item.Copy(x)
		if modelMay(x) != item.Same(got, x) || !modelMay(x) && !reflect.DeepEqual(got, api.Item{}) {
			t.Errorf("Copy of %v: %v", x, got)
		}
	}
}

// P8.1: what is turned in a copy isn't turned in the item, and the other way
// round, however deep.
func TestCopyShares(t *testing.T) {
	made := func() api.Item { return list(text("a"), list(text("b"), list(text("c")), list())) }
	x := made()
	a, b := item.Copy(x), item.Copy(x)
	if shares(a, b) || shares(a, x) || shares(b, x) {
		t.Error("copies share")
	}
	stir(a)
	if !reflect.DeepEqual(x, made()) || !item.Same(b, made()) {
		t.Error("what was turned in a copy is turned elsewhere")
	}
	stir(x)
	if !item.Same(b, made()) {
		t.Error("what was turned in the item is turned in its copy")
	}
}

// P8.1, rule 5: lists that were one and the same within an item are two in a
// copy.
func TestCopyWithinShares(t *testing.T) {
	one := list(text("a"))
	got := item.Copy(list(one, one))
	got.Sub[0].Sub[0] = text("b")
	if !item.Same(got, list(list(text("b")), list(text("a")))) {
		t.Errorf("%v", got)
	}
}

// P8.1, rule 5: spare room is neither kept nor written to.
func TestSpareRoom(t *testing.T) {
	room := []api.Item{text("a"), text("b"), text("spare")}
	for _, x := range []api.Item{item.Copy(list(room[:2]...)), item.List(room[:2]...)} {
		x.Sub = append(x.Sub, text("more"))
		if room[2].Text != "spare" || len(x.Sub) != 3 {
			t.Error("an answer has the argument's spare room")
		}
	}
}

// P8.1: Text is the text.
func TestText(t *testing.T) {
	for _, s := range []string{"", "a", "-", "()", "\x00\xff", strings.Repeat("ab", 1<<17)} {
		x := item.Text(s)
		if !reflect.DeepEqual(x, api.Item{Text: s}) || !item.May(x) || shares(x, text(s)) {
			t.Errorf("Text(%.20q): %.40v", s, x)
		}
	}
}

// P8.1: List is the list, of whatever items that end, and shares nothing.
func TestList(t *testing.T) {
	for _, x := range []api.Item{item.List(), item.List([]api.Item{}...)} {
		if !x.List || x.Text != "" || len(x.Sub) != 0 || !item.May(x) {
			t.Errorf("List of nothing: %v", x)
		}
	}
	for _, a := range small(3) {
		for _, b := range small(2) {
			if got := item.List(a, b); !reflect.DeepEqual(got, list(a, b)) || shares(got, list(a, b)) {
				t.Errorf("List(%v, %v): %v", a, b, got)
			}
		}
	}
	for _, c := range ended() {
		if got := item.List(c.x); !reflect.DeepEqual(got, list(c.x)) || shares(got, list(c.x)) {
			t.Errorf("List of %s isn't it, or shares", c.name)
		}
	}
}

// P8.1: what a list was made of isn't turned with it, and the other way round.
func TestListShares(t *testing.T) {
	made := func() []api.Item { return []api.Item{text("a"), list(text("b"), list(text("c")))} }
	l := made()
	x, y := item.List(l...), item.List(l...)
	stir(x)
	if !reflect.DeepEqual(l, made()) || !reflect.DeepEqual(y, list(made()...)) {
		t.Error("what was turned in a list is turned elsewhere")
	}
	stir(list(l...))
	if !reflect.DeepEqual(y, list(made()...)) {
		t.Error("what was turned in what a list was made of is turned in it")
	}
	one := list(text("a"))
	z := item.List(one, one)
	z.Sub[0].Sub[0] = text("b")
	if z.Sub[1].Sub[0].Text != "a" {
		t.Error("two items of a list share")
	}
}

// P8.1: List of more items than may be is the list of them all; a long list of
// lists that aren't empty is copied, too.
func TestListOfMany(t *testing.T) {
	l := make([]api.Item, 100_000)
	for i := range l {
		l[i] = list(text("a"))
	}
	x := item.List(l...)
	stir(list(l...))
	for i := range x.Sub {
		if x.Sub[i].Text != "" || len(x.Sub[i].Sub) != 1 || x.Sub[i].Sub[0].Text != "a" {
			t.Fatalf("%d: %v", i, x.Sub[i])
		}
	}
	if len(x.Sub) != len(l) || item.May(x) {
		t.Errorf("%d items, may be %v", len(x.Sub), item.May(x))
	}
	long := make([]api.Item, 1<<20+1)
	if got := item.List(long...); len(got.Sub) != len(long) || &got.Sub[0] == &long[0] {
		t.Error("a very long list isn't copied")
	}
}

// P8.1, rule 1: List ends of items that stand within themselves, or that hold
// one and the same item very often, and is a list that may not be.
func TestListEnds(t *testing.T) {
	all := append(endless(), measured{name: "very many within themselves", x: rings(5000)})
	for _, c := range all {
		got := item.List(c.x, c.x)
		if item.May(got) || !got.List || len(got.Sub) != 2 || len(got.Sub[1].Sub) != len(c.x.Sub) {
			t.Errorf("List of %s: may be %v, %d items", c.name, item.May(got), len(got.Sub))
		}
	}
}

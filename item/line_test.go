package item_test

import (
	"encoding/hex"
	"reflect"
	"regexp"
	"strings"
	"testing"

	"hatchway/api"
	"hatchway/item"
)

// lined is an item, and its line.
type lined struct {
	x    api.Item
	line string
}

// lines are items of every form.
func lines() []lined {
	return []lined{
		{text(""), "-"},
		{api.Item{Sub: []api.Item{}}, "-"},
		{list(), "()"},
		{api.Item{List: true, Sub: []api.Item{}}, "()"},
		{text("a"), "61"},
		{text("dog"), "646f67"},
		{text("\x00"), "00"},
		{text("\x01\x23\x45\x67\x89\xab\xcd\xef\xff"), "0123456789abcdefff"},
		{text("-"), "2d"},
		{text("()"), "2829"},
		{list(text("a"), text(""), list()), "(61 - ())"},
		{list(text("")), "(-)"},
		{list(list()), "(())"},
		{list(list(), list()), "(() ())"},
		{list(text(""), text("")), "(- -)"},
		{list(list(text("a")), text("bc"), list(list(), text("d"))), "((61) 6263 (() 64))"},
		{tower(15, list()), strings.Repeat("(", 16) + strings.Repeat(")", 16)},
		{tower(15, text("a")), strings.Repeat("(", 15) + "61" + strings.Repeat(")", 15)},
		{wide(1023), "(" + strings.Repeat("- ", 1022) + "-)"},
		{text(strings.Repeat("\xab", 1<<17)), strings.Repeat("ab", 1<<17)},
	}
}

// checkShown fails if the line of x is another one.
func checkShown(t *testing.T, x api.Item, want string) {
	t.Helper()
	if got, e := item.Show(x); got != want || e != api.OK {
		t.Errorf("Show of %.40q: %.40q %d", want, got, e)
	}
}

// checkRead fails if the line's item is another one.
func checkRead(t *testing.T, line string, want api.Item) {
	t.Helper()
	if got, e := item.Read(line); !item.Same(got, want) || e != api.OK {
		t.Errorf("Read of %.40q: %.40v %d", line, got, e)
	}
}

// checkNoLine fails if the line is one.
func checkNoLine(t *testing.T, line string) {
	t.Helper()
	if got, e := item.Read(line); !reflect.DeepEqual(got, api.Item{}) || e != api.ErrForm {
		t.Errorf("Read of %.60q: %.40v %d", line, got, e)
	}
}

// P8.2, P8.3: items of every form, shown and read.
func TestLines(t *testing.T) {
	for _, c := range lines() {
		checkShown(t, c.x, c.line)
		checkRead(t, c.line, c.x)
	}
}

// P8.2, P8.3: every byte, and so each of the digits at both places.
func TestDigits(t *testing.T) {
	for b := range 256 {
		s := string([]byte{byte(b)})
		line := hex.EncodeToString([]byte(s))
		checkShown(t, text(s), line)
		checkRead(t, line, text(s))
		checkShown(t, list(text(s+"z"), text("z"+s)), "("+line+"7a 7a"+line+")")
	}
}

// P8.2: two bytes are a text's line if both are digits, and else but for the
// empty list none, whatever they are.
func TestTwoBytes(t *testing.T) {
	const digits = "0123456789abcdef"
	for a := range 256 {
		for b := range 256 {
			line := string([]byte{byte(a), byte(b)})
			high, low := strings.IndexByte(digits, byte(a)), strings.IndexByte(digits, byte(b))
			switch {
			case line == "()":
				checkRead(t, line, list())
			case high >= 0 && low >= 0:
				checkRead(t, line, text(string([]byte{byte(high*16 + low)})))
			default:
				checkNoLine(t, line)
			}
		}
	}
}

// P8.2: of items that may not be there is no line.
func TestShowOfNone(t *testing.T) {
	for _, c := range edges() {
		line, e := item.Show(c.x)
		if c.may != (e == api.OK) || !c.may && (line != "" || e != api.ErrArg) {
			t.Errorf("Show of %s: %.40q %d", c.name, line, e)
		}
	}
	for _, x := range small(4) {
		line, e := item.Show(x)
		if modelMay(x) != (e == api.OK) || !modelMay(x) && (line != "" || e != api.ErrArg) {
			t.Errorf("Show of %v: %q %d", x, line, e)
		}
	}
}

// P8.2: what isn't a line.
func TestNoLines(t *testing.T) {
	for _, line := range []string{
		// Nothing, and blanks.
		"", " ", "  ", "\n", "\x00",
		// Capital digits, odd ones, and what isn't a digit.
		"6A", "A6", "AB", "FF", "(6A)", "6", "616", "61626", "(6)", "(61 6)", "(6 61)", "6g", "g6", "0x61", "/0", "0/", ":0", "0:", "`a", "a`", "ab\xff", "6 1", "--", "---", "-61", "61-", "6-1",
		// A blank too many, or too few.
		" -", "- ", " 61", "61 ", " ()", "() ", "( )", "( 61)", "(61 )", "(61  62)", "(61  )", "(  )", "(-  -)", "(--)", "(-61)", "(61-)", "(()())", "(61())", "(()61)", "(()-)", "(-())", "(61\t62)", "(61\n62)", "(61,62)", "61 62", "- -", "() ()",
		// A bracket too many, or too few.
		"(", ")", "((", "))", ")(", "(()", "())", "(61", "61)", "(61))", "((61)", "(61 62", "61 62)", "(61 (62)", "(-", "-)", "(61 ", "(61 (", "[]", "{61}", "(]",
		// Something behind the line.
		"()()", "()-", "-()", "()61", "61()", "(61)62", "(61) ", "(61)\n", "61\n", "-\n", "()\x00", "61\x00",
	} {
		checkNoLine(t, line)
	}
}

// P8.2: lines of what is just not an item that may be any more: too deep, or
// too many.
func TestLinesOfTooMuch(t *testing.T) {
	open, shut := strings.Repeat("(", 16), strings.Repeat(")", 16)
	for _, line := range []string{
		open + "(" + ")" + shut,
		open + "-" + shut,
		open + "61" + shut,
		"(- " + open + shut + ")",
		"(" + strings.Repeat("- ", 1023) + "-)",
		"(" + strings.Repeat("() ", 1023) + "())",
		"((" + strings.Repeat("- ", 499) + "-) (" + strings.Repeat("- ", 499) + "-) (" + strings.Repeat("- ", 20) + "-))",
		strings.Repeat("(", 1<<20),
		strings.Repeat("(", 1<<20) + strings.Repeat(")", 1<<20),
		"(" + strings.Repeat("- ", 1<<20) + "-)",
	} {
		checkNoLine(t, line)
	}
	checkRead(t, "(("+strings.Repeat("- ", 499)+"-) ("+strings.Repeat("- ", 499)+"-) ("+strings.Repeat("- ", 19)+"-))", spread(500, 500, 20))
	checkRead(t, "(- "+open[1:]+shut[1:]+")", list(text(""), tower(14, list())))
}

// P8.2, rule 5: what is read anew is new.
func TestReadShares(t *testing.T) {
	a, _ := item.Read("(61 (62 63) ())")
	b, _ := item.Read("(61 (62 63) ())")
	stir(a)
	if !item.Same(b, list(text("a"), list(text("b"), text("c")), list())) {
		t.Error("two that are read share")
	}
}

// P8.3: all small items that may be have lines of their own, that are read as
// them again.
func TestShownIsRead(t *testing.T) {
	seen := map[string]bool{}
	for _, x := range small(5) {
		if !modelMay(x) {
			continue
		}
		line, e := item.Show(x)
		if e != api.OK || seen[line] {
			t.Fatalf("%v: %q %d", x, line, e)
		}
		seen[line] = true
		checkRead(t, line, x)
	}
	if len(seen) < 300 {
		t.Errorf("only %d lines", len(seen))
	}
}

// The forms of a text, and of a list of what was found to be an item, a T each.
var (
	texts   = regexp.MustCompile(`([0-9a-f]{2})+|-`)
	listsOf = regexp.MustCompile(`\((T( T)*)?\)`)
)

// isLine tells whether s is a line, by writing a T for each item in it, from
// within.
func isLine(s string) bool {
	if strings.Contains(s, "T") {
		return false
	}
	s = texts.ReplaceAllString(s, "T")
	for {
		shorter := listsOf.ReplaceAllString(s, "T")
		if shorter == s {
			return s == "T"
		}
		s = shorter
	}
}

// P8.2, P8.3: all texts of up to seven marks are lines, or aren't, as the
// grammar has it; those that are, are shown as they were.
func TestAllShortTexts(t *testing.T) {
	read := 0
	var grow func(s string, left int)
	grow = func(s string, left int) {
		x, e := item.Read(s)
		if isLine(s) {
			read++
			checkShown(t, x, s)
		} else if e != api.ErrForm || !reflect.DeepEqual(x, api.Item{}) {
			t.Errorf("Read of %q: %v %d", s, x, e)
		}
		if left == 0 {
			return
		}
		for _, mark := range "()- 6f" {
			grow(s+string(mark), left-1)
		}
	}
	grow("", 7)
	if read < 150 {
		t.Errorf("only %d lines", read)
	}
}

// P8.2, P8.3: any byte in the place of another one, or between two, makes a
// line, or none, as the grammar has it.
func TestOtherBytes(t *testing.T) {
	const line = "(61 () (- 6a7b) 2d)"
	for at := range len(line) + 1 {
		for b := range 256 {
			more := line[:at] + string([]byte{byte(b)}) + line[at:]
			other := more[:at+1] + line[min(at+1, len(line)):]
			fewer := line[:at] + line[min(at+1, len(line)):]
			for _, s := range []string{more, other, fewer} {
				if !isLine(s) {
					checkNoLine(t, s)
				} else if x, e := item.Read(s); e != api.OK {
					t.Errorf("Read of %q: %d", s, e)
				} else {
					checkShown(t, x, s)
				}
			}
		}
	}
}

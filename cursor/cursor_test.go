package cursor_test

import (
	"math"
	"slices"
	"strings"
	"testing"
	"unsafe"

	"hatchway/api"
	"hatchway/cursor"
)

// stands fails if the reader isn't behind at bytes, with left bytes ahead and that fault.
func stands(t *testing.T, r *cursor.Reader, at, left int, fault api.Errno) {
	t.Helper()
	if r.At() != at || r.Left() != left || r.Fault() != fault {
		t.Errorf("at %d, left %d, fault %d; want %d, %d, %d", r.At(), r.Left(), r.Fault(), at, left, fault)
	}
}

// P1.1: a reader stands at the first byte.
func TestReadBeginsAtTheFirstByte(t *testing.T) {
	for _, s := range []string{"", "a", "abc", "\x00", strings.Repeat("x", 70000)} {
		stands(t, cursor.Read(s), 0, len(s), api.OK)
	}
}

// P1.1: Byte is the next byte, whatever it is.
func TestByteOfEveryValue(t *testing.T) {
	var all []byte
	for n := range 256 {
		all = append(all, byte(n))
	}
	r := cursor.Read(string(all))
	for n := range 256 {
		if b := r.Byte(); b != byte(n) {
			t.Errorf("byte %d: %d", n, b)
		}
		stands(t, r, n+1, 255-n, api.OK)
	}
}

// P1.1: Byte goes by bytes, not by characters.
func TestByteWithinACharacter(t *testing.T) {
	r := cursor.Read("\u20ac")
	for _, want := range []byte{0xe2, 0x82, 0xac} {
		if b := r.Byte(); b != want {
			t.Errorf("%x, want %x", b, want)
		}
	}
	stands(t, r, 3, 0, api.OK)
}

// P1.1: Byte faults ErrShort, if none is left; passing the last one doesn't.
func TestByteBehindTheLast(t *testing.T) {
	r := cursor.Read("")
	if r.Byte() != 0 {
		t.Error("a byte of none")
	}
	stands(t, r, 0, 0, api.ErrShort)
	r = cursor.Read("a")
	r.Byte()
	stands(t, r, 1, 0, api.OK)
	if r.Byte() != 0 {
		t.Error("a byte behind the last")
	}
	stands(t, r, 1, 0, api.ErrShort)
}

// P1.1: Take is the next n bytes, or faults and passes nothing.
func TestTake(t *testing.T) {
	for _, c := range []struct {
		n     int
		want  string
		fault api.Errno
	}{
		{math.MinInt, "", api.ErrArg},
		{-4, "", api.ErrArg},
		{-1, "", api.ErrArg},
		{0, "", api.OK},
		{1, "b", api.OK},
		{2, "bc", api.OK},
		{3, "bcd", api.OK},
		{4, "", api.ErrShort},
		{5, "", api.ErrShort},
		{math.MaxInt - 1, "", api.ErrShort},
		{math.MaxInt, "", api.ErrShort},
	} {
		r := cursor.Read("abcd")
		r.Byte()
		if s := r.Take(c.n); s != c.want {
			t.Errorf("Take(%d): %q, want %q", c.n, s, c.want)
		}
		stands(t, r, 1+len(c.want), 3-len(c.want), c.fault)
	}
}

// P1.1: of no bytes none can be taken; fewer than none is wrong all the same.
func TestTakeOfNothing(t *testing.T) {
	for n, fault := range map[int]api.Errno{-1: api.ErrArg, 0: api.OK, 1: api.ErrShort} {
		r := cursor.Read("")
		if s := r.Take(n); s != "" {
			t.Errorf("Take(%d): %q", n, s)
		}
		stands(t, r, 0, 0, fault)
	}
}

// P1.1: All is all bytes that are left, perhaps none; it never faults.
func TestAll(t *testing.T) {
	r := cursor.Read("a\x00\xffd")
	r.Byte()
	if s := r.All(); s != "\x00\xffd" {
		t.Errorf("%q", s)
	}
	stands(t, r, 4, 0, api.OK)
	if s := r.All(); s != "" {
		t.Errorf("all again: %q", s)
	}
	stands(t, r, 4, 0, api.OK)
	r = cursor.Read("")
	if s := r.All(); s != "" {
		t.Errorf("all of nothing: %q", s)
	}
	stands(t, r, 0, 0, api.OK)
}

// P1.1: Ahead is the next n bytes, or as many as are left; nothing is passed, or faulted.
func TestAhead(t *testing.T) {
	r := cursor.Read("abcd")
	r.Byte()
	for _, c := range []struct {
		n    int
		want string
	}{
		{math.MinInt, ""}, {-1, ""}, {0, ""}, {1, "b"}, {2, "bc"}, {3, "bcd"},
		{4, "bcd"}, {5, "bcd"}, {math.MaxInt - 1, "bcd"}, {math.MaxInt, "bcd"}, {1, "b"},
	} {
		if s := r.Ahead(c.n); s != c.want {
			t.Errorf("Ahead(%d): %q, want %q", c.n, s, c.want)
		}
		stands(t, r, 1, 3, api.OK)
	}
	r.All()
	for _, n := range []int{-1, 0, 1, math.MaxInt} {
		if s := r.Ahead(n); s != "" {
			t.Errorf("Ahead(%d) behind the last: %q", n, s)
		}
		stands(t, r, 4, 0, api.OK)
	}
}

// P1.1, P1.2: behind a fault all tell zero and pass nothing, and the first fault stays.
func TestBehindAFault(t *testing.T) {
	for name, c := range map[string]struct {
		fail  func(r *cursor.Reader)
		fault api.Errno
	}{
		"Take below 0":  {func(r *cursor.Reader) { r.Take(-1) }, api.ErrArg},
		"Take too many": {func(r *cursor.Reader) { r.Take(3) }, api.ErrShort},
		"Fail":          {func(r *cursor.Reader) { r.Fail(api.ErrForm) }, api.ErrForm},
	} {
		r := cursor.Read("abc")
		r.Byte()
		c.fail(r)
		stands(t, r, 1, 2, c.fault)
		for _, n := range []int{math.MinInt, -1, 0, 1, 2, 3, math.MaxInt} {
			if a, s := r.Ahead(n), r.Take(n); a != "" || s != "" {
				t.Errorf("%s: Ahead(%d) %q, Take %q", name, n, a, s)
			}
		}
		if b, s := r.Byte(), r.All(); b != 0 || s != "" {
			t.Errorf("%s: Byte %d, All %q", name, b, s)
		}
		r.Fail(api.OK)
		r.Fail(api.ErrSum)
		stands(t, r, 1, 2, c.fault)
	}
}

// P1.1, P1.2: Byte's own fault stays, too.
func TestBehindAShortByte(t *testing.T) {
	r := cursor.Read("a")
	r.Byte()
	r.Byte()
	if r.Take(-1) != "" || r.Take(0) != "" || r.Byte() != 0 || r.All() != "" || r.Ahead(1) != "" {
		t.Error("something is told behind a fault")
	}
	r.Fail(api.ErrForm)
	stands(t, r, 1, 0, api.ErrShort)
}

// P1.2: Left and At go with what is passed, and with nothing else.
func TestLeftAndAt(t *testing.T) {
	r := cursor.Read("abcdefgh")
	stands(t, r, 0, 8, api.OK)
	r.Byte()
	stands(t, r, 1, 7, api.OK)
	r.Ahead(3)
	stands(t, r, 1, 7, api.OK)
	r.Take(3)
	stands(t, r, 4, 4, api.OK)
	r.Take(0)
	stands(t, r, 4, 4, api.OK)
	r.Take(9)
	stands(t, r, 4, 4, api.ErrShort)
	r.All()
	stands(t, r, 4, 4, api.ErrShort)
}

// P1.2: Fail faults any error but OK, which changes nothing.
func TestFail(t *testing.T) {
	for e := api.ErrArg; e <= api.ErrType; e++ {
		r := cursor.Read("ab")
		r.Byte()
		r.Fail(api.OK)
		stands(t, r, 1, 1, api.OK)
		if s := r.Ahead(1); s != "b" {
			t.Errorf("behind Fail(OK): %q", s)
		}
		r.Fail(e)
		stands(t, r, 1, 1, e)
		r.Fail(e%api.ErrType + 1)
		stands(t, r, 1, 1, e)
	}
	for _, e := range []api.Errno{-1, 13, math.MinInt, math.MaxInt} {
		r := cursor.Read("ab")
		r.Fail(e)
		stands(t, r, 0, 2, e)
	}
}

// P1.2: of nil: zero, ErrArg.
func TestNil(t *testing.T) {
	var r *cursor.Reader
	for _, n := range []int{math.MinInt, -1, 0, 1, math.MaxInt} {
		if a, s := r.Ahead(n), r.Take(n); a != "" || s != "" {
			t.Errorf("%d: %q, %q", n, a, s)
		}
	}
	if b, s := r.Byte(), r.All(); b != 0 || s != "" {
		t.Errorf("%d, %q", b, s)
	}
	r.Fail(api.OK)
	stands(t, r, 0, 0, api.ErrArg)
	r.Fail(api.ErrForm)
	stands(t, r, 0, 0, api.ErrArg)
}

// A reader that nothing was read into is one of no bytes.
func TestZeroReader(t *testing.T) {
	var r cursor.Reader
	stands(t, &r, 0, 0, api.OK)
	if r.All() != "" || r.Ahead(1) != "" || r.Byte() != 0 {
		t.Error("a byte of nothing")
	}
	stands(t, &r, 0, 0, api.ErrShort)
}

// cuts are all rows of whole numbers above 0 whose sum is n.
func cuts(n int) [][]int {
	if n == 0 {
		return [][]int{nil}
	}
	var all [][]int
	for first := 1; first <= n; first++ {
		for _, rest := range cuts(n - first) {
			all = append(all, append([]int{first}, rest...))
		}
	}
	return all
}

// P1.3: what is taken, one behind the other, is the bytes, in order, however it is cut.
func TestWhatIsTakenIsTheBytes(t *testing.T) {
	const text = "a\x00\xff\u20acgh"
	for _, sizes := range cuts(len(text)) {
		for last := range 2 {
			r := cursor.Read(text)
			var got strings.Builder
			for _, n := range sizes[:len(sizes)-last] {
				if n == 1 {
					got.WriteByte(r.Byte())
				} else {
					got.WriteString(r.Take(n))
				}
				got.WriteString(r.Take(0))
				if s := text[:r.At()]; s != got.String() || r.At()+r.Left() != len(text) {
					t.Fatalf("%v: %q, want %q", sizes, got.String(), s)
				}
			}
			got.WriteString(r.All())
			if got.String() != text {
				t.Fatalf("%v: %q", sizes, got.String())
			}
			stands(t, r, len(text), 0, api.OK)
		}
	}
}

// P1.3: a long text, byte by byte and in growing pieces.
func TestWhatIsTakenOfALongText(t *testing.T) {
	text := strings.Repeat("0123456789\x00\xfe\xff", 5000)
	r := cursor.Read(text)
	var got strings.Builder
	for n := 0; r.Left() > n; n++ {
		got.WriteString(r.Ahead(1))
		r.Byte()
		got.WriteString(r.Take(n))
	}
	got.WriteString(r.All())
	if got.String() != text {
		t.Error("not the bytes")
	}
	stands(t, r, len(text), 0, api.OK)
}

// model is what the chapter says of a reader, as two texts and a fault.
type model struct {
	passed, left string
	fault        api.Errno
}

// fail faults e, if nothing was faulted yet.
func (m *model) fail(e api.Errno) {
	if m.fault == api.OK {
		m.fault = e
	}
}

// pass moves up to n bytes over, but behind a fault none.
func (m *model) pass(n int) string {
	if m.fault != api.OK {
		return ""
	}
	s := m.left[:min(n, len(m.left))]
	m.passed, m.left = m.passed+s, m.left[len(s):]
	return s
}

// calls are calls of a reader, each beside what the model answers.
var calls = []func(r *cursor.Reader, m *model) (got, want string){
	func(r *cursor.Reader, m *model) (string, string) {
		if m.left == "" {
			m.fail(api.ErrShort)
		}
		want := m.pass(1)
		if want == "" {
			want = "\x00"
		}
		return string([]byte{r.Byte()}), want
	},
	func(r *cursor.Reader, m *model) (string, string) { m.fail(api.ErrArg); return r.Take(-1), "" },
	func(r *cursor.Reader, m *model) (string, string) { return r.Take(0), "" },
	func(r *cursor.Reader, m *model) (string, string) {
		if len(m.left) < 2 {
			m.fail(api.ErrShort)
		}
		return r.Take(2), m.pass(2)
	},
	func(r *cursor.Reader, m *model) (string, string) { return r.All(), m.pass(len(m.left)) },
	func(r *cursor.Reader, m *model) (string, string) {
		kept := *m
		return r.Ahead(2), kept.pass(2)
	},
	func(r *cursor.Reader, m *model) (string, string) { r.Fail(api.OK); return "", "" },
	func(r *cursor.Reader, m *model) (string, string) {
		r.Fail(api.ErrForm)
		m.fail(api.ErrForm)
		return "", ""
	},
}

// P1.1 to P1.3: every row of five calls answers what the model does.
func TestEveryRowOfCalls(t *testing.T) {
	const text, long = "abcde", 5
	rows := 1
	for range long {
		rows *= len(calls)
	}
	for row := range rows {
		r, m := cursor.Read(text), &model{left: text}
		for n, i := row, 0; i < long; n, i = n/len(calls), i+1 {
			got, want := calls[n%len(calls)](r, m)
			if got != want || r.At() != len(m.passed) || r.Left() != len(m.left) || r.Fault() != m.fault {
				t.Fatalf("row %d, call %d: %q, want %q; at %d, left %d, fault %d", row, i, got, want, r.At(), r.Left(), r.Fault())
			}
		}
	}
}

// Rule 5: an answer is new memory, and shares none with the text or another answer.
func TestAnswersAreNew(t *testing.T) {
	text := strings.Repeat("abc", 10)
	r := cursor.Read(text)
	from := uintptr(unsafe.Pointer(unsafe.StringData(text)))
	var seen []uintptr
	for _, s := range []string{r.Ahead(5), r.Ahead(5), r.Take(5), r.Ahead(99), r.All()} {
		at := uintptr(unsafe.Pointer(unsafe.StringData(s)))
		if at >= from && at < from+uintptr(len(text)) || slices.Contains(seen, at) {
			t.Errorf("%q shares its memory", s)
		}
		seen = append(seen, at)
	}
}

// Rule 6: readers of the same bytes go on by themselves.
func TestReadersAreApart(t *testing.T) {
	a, b := cursor.Read("abc"), cursor.Read("abc")
	a.Take(2)
	a.Fail(api.ErrForm)
	stands(t, b, 0, 3, api.OK)
	if s := b.All(); s != "abc" {
		t.Errorf("%q", s)
	}
	stands(t, a, 2, 1, api.ErrForm)
}

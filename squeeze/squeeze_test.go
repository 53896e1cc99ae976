package squeeze_test

import (
	"fmt"
	"math"
	"slices"
	"strings"
	"testing"
	"unsafe"

	"hatchway/api"
	"hatchway/snap"
	"hatchway/squeeze"
)

// row is a text of these bytes.
func row(l ...int) string {
	s := make([]byte, len(l))
	for i, b := range l {
		s[i] = byte(b)
	}
	return string(s)
}

// seven is n by seven bits.
func seven(n int) string {
	if n < 128 {
		return row(n)
	}
	return row(n%128+128) + seven(n/128)
}

// block is a size, and elements.
func block(size int, elements ...string) string {
	return seven(size) + strings.Join(elements, "")
}

// lit is a literal of s, as the chapter lays it.
func lit(s string) string {
	n := len(s)
	switch {
	case n == 0:
		return ""
	case n <= 60:
		return row(4*(n-1)) + s
	case n <= 256:
		return row(240, n-1) + s
	default:
		return row(244, (n-1)%256, (n-1)/256) + s
	}
}

// near and middle are both kinds of copies of n bytes from d back.
func near(n, d int) string { return row(1+4*(n-4)+32*(d/256), d%256) }

func middle(n, d int) string { return row(2+4*(n-1), d%256, d/256) }

// copies is that kind of copy which the chapter asks for.
func copies(n, d int) string {
	if n <= 11 && d < 2048 {
		return near(n, d)
	}
	return middle(n, d)
}

// apart is n bytes, up to 65,536, in which no four bytes come twice.
func apart(n int) string {
	s := make([]byte, 0, n+1)
	for i := 0; len(s) < n; i++ {
		s = append(s, byte(i/256), byte(i%256))
	}
	return string(s[:n])
}

// noise is so many bytes in which four seldom come twice.
func noise(n int, seed uint32) string {
	s := make([]byte, n)
	for i := range s {
		seed = seed*1664525 + 1013904223
		s[i] = byte(seed >> 24)
	}
	return string(s)
}

// modelMatch is Match by the chapter's words.
func modelMatch(s string, i, j int) int {
	if i < 0 || j < 0 || i > len(s) || j > len(s) {
		return 0
	}
	n := 0
	for n < 64 && i+n < len(s) && j+n < len(s) && s[i+n] == s[j+n] {
		n++
	}
	return n
}

// model is the packing by the chapter's words: each place ahead is asked, from
// the nearest one on.
func model(s string) string {
	out, pending := seven(len(s)), ""
	for i := 0; i < len(s); {
		j := i - 1
		for j >= 0 && (s[j] != s[i] || modelMatch(s, i, j) < 4) {
			j--
		}
		if j < 0 {
			pending += s[i : i+1]
			i++
			continue
		}
		n := modelMatch(s, i, j)
		out += lit(pending) + copies(n, i-j)
		pending = ""
		i += n
	}
	return out + lit(pending)
}

// unpacks asks that a packing of s is unpacked to s again, and isn't too long.
func unpacks(t *testing.T, name, s, packed string) {
	t.Helper()
	if x, e := snap.Unpack(packed, len(s), nil); x != s || e != api.OK {
		t.Errorf("%s: unpacked to %.40x %v, want %.40x", name, x, e, s)
	}
	if n, _, e := snap.Size(packed); n != len(s) || e != api.OK {
		t.Errorf("%s: says that it has %d %v, want %d", name, n, e, len(s))
	}
	if len(packed) > len(s)+len(s)/32+8 || len(packed) > squeeze.Bound(len(s)) {
		t.Errorf("%s: %d bytes are packed to %d, Bound %d", name, len(s), len(packed), squeeze.Bound(len(s)))
	}
}

// packs asks that s is packed as just these elements, and unpacked again.
func packs(t *testing.T, name, s string, elements ...string) {
	t.Helper()
	p, e := squeeze.Pack(s)
	if want := block(len(s), elements...); p != want || e != api.OK {
		t.Errorf("%s: %d bytes %.60x %v, want %d bytes %.60x", name, len(p), p, e, len(want), want)
	}
	unpacks(t, name, s, p)
}

// like holds the packing of s against the model, and tells it.
func like(t *testing.T, s string) string {
	t.Helper()
	p, e := squeeze.Pack(s)
	if want := model(s); p != want || e != api.OK {
		t.Fatalf("Pack(%x): %x %v, want %x", s, p, e, want)
	}
	unpacks(t, fmt.Sprintf("%.40x", s), s, p)
	return p
}

// The tests stand on it that no four bytes of apart come twice.
func TestApart(t *testing.T) {
	s := apart(65536)
	seen := map[string]int{}
	for i := range len(s) - 3 {
		if j, ok := seen[s[i:i+4]]; ok {
			t.Fatalf("%d is as %d", i, j)
		}
		seen[s[i:i+4]] = i
	}
}

// P12.1: the chapter's example, and packings whose bytes are written out.
func TestPackWritten(t *testing.T) {
	for _, c := range []struct{ name, s, want string }{
		{"example", "abababab", "\x08\x04ab\x09\x02"},
		{"no byte", "", "\x00"},
		{"one byte", "a", "\x01\x00a"},
		{"one byte, a nought", "\x00", "\x01\x00\x00"},
		{"two bytes", "aa", "\x02\x04aa"},
		{"three bytes", "aaa", "\x03\x08aaa"},
		{"four bytes", "aaaa", "\x04\x0caaaa"},
		{"five bytes", "aaaaa", "\x05\x00a\x01\x01"},
		{"no match", "abcdefgh", "\x08\x1cabcdefgh"},
		{"three alike", "abcxabcy", "\x08\x1cabcxabcy"},
		{"four alike", "abcdabcd", "\x08\x0cabcd\x01\x04"},
		{"four alike, a byte ahead and behind", "xabcdyabcdz", "\x0b\x14xabcdy\x01\x05\x00z"},
		{"two copies, none pending between", "abcdabcdbcda", "\x0c\x0cabcd\x01\x04\x01\x07"},
		{"two copies, one byte between", "abcdabcdxabcd", "\x0d\x0cabcd\x01\x04\x00x\x01\x05"},
		{"bytes that are no rune's", "\xff\x00\x80\xc3\xff\x00\x80\xc3", "\x08\x0c\xff\x00\x80\xc3\x01\x04"},
		{"runes", "\u00e4\u00f6\u00e4\u00f6", "\x08\x0c\u00e4\u00f6\x01\x04"},
		{"noughts", strings.Repeat("\x00", 9), "\x09\x00\x00\x11\x01"},
		{"a match of 12", strings.Repeat("a", 13), "\x0d\x00a\x2e\x01\x00"},
		{"a match of 64, and of 5", strings.Repeat("a", 70), "\x46\x00a\xfe\x01\x00\x05\x01"},
	} {
		if p, e := squeeze.Pack(c.s); p != c.want || e != api.OK {
			t.Errorf("%s: %x %v, want %x", c.name, p, e, c.want)
		}
		if m := model(c.s); m != c.want {
			t.Errorf("%s: the model has %x, want %x", c.name, m, c.want)
		}
		unpacks(t, c.name, c.s, c.want)
	}
}

// P12.1: what has no four bytes twice is one literal, whatever its size.
func TestLiterals(t *testing.T) {
	for n, head := range map[int]string{
		1:     "\x01\x00",
		2:     "\x02\x04",
		59:    "\x3b\xe8",
		60:    "\x3c\xec",
		61:    "\x3d\xf0\x3c",
		62:    "\x3e\xf0\x3d",
		127:   "\x7f\xf0\x7e",
		128:   "\x80\x01\xf0\x7f",
		255:   "\xff\x01\xf0\xfe",
		256:   "\x80\x02\xf0\xff",
		257:   "\x81\x02\xf4\x00\x01",
		258:   "\x82\x02\xf4\x01\x01",
		300:   "\xac\x02\xf4\x2b\x01",
		16383: "\xff\x7f\xf4\xfe\x3f",
		16384: "\x80\x80\x01\xf4\xff\x3f",
		32769: "\x81\x80\x02\xf4\x00\x80",
		65535: "\xff\xff\x03\xf4\xfe\xff",
		65536: "\x80\x80\x04\xf4\xff\xff",
	} {
		s := apart(n)
		p, e := squeeze.Pack(s)
		if p != head+s || e != api.OK {
			t.Errorf("literal of %d: %.20x %v, want %x", n, p, e, head)
		}
		unpacks(t, fmt.Sprintf("literal of %d", n), s, head+s)
	}
}

// P12.1: a literal of each size, as all that there is, ahead of a copy, and
// behind one.
func TestLiteralEachSize(t *testing.T) {
	for n := 1; n <= 700; n++ {
		x := apart(n)
		packs(t, fmt.Sprintf("literal of %d", n), x, lit(x))
		if n > 4 {
			packs(t, fmt.Sprintf("literal of %d, and a copy", n), x+x[:4], lit(x), copies(4, n))
		}
		packs(t, fmt.Sprintf("literal of %d behind a copy", n), "zzzzz"+x, lit("z"), near(4, 1), lit(x))
	}
}

// P12.1: literals of the edges' sizes, between copies.
func TestLiteralsBetween(t *testing.T) {
	const y = "vwxyz"
	for _, n := range []int{1, 2, 59, 60, 61, 62, 255, 256, 257, 258, 511, 512, 513, 2042, 2043, 30000, 65516} {
		x := apart(n)
		packs(t, fmt.Sprintf("literal of %d between", n), y+y+x+y+y,
			lit(y), near(5, 5), lit(x), copies(5, n+5), near(5, 5))
	}
}

// P12.1: a text of fewer than four bytes is one literal, whatever its bytes.
func TestFewerThanFour(t *testing.T) {
	for a := range 256 {
		packs(t, "one byte", row(a), lit(row(a)))
		for b := range 256 {
			packs(t, "two bytes", row(a, b), lit(row(a, b)))
		}
		for _, b := range []int{0, 1, a, 255} {
			packs(t, "three bytes", row(a, a, b), lit(row(a, a, b)))
			packs(t, "three bytes", row(a, b, a), lit(row(a, b, a)))
		}
	}
}

// P12.1: matches of each size, up to the end, and with bytes behind them.
func TestMatchSizes(t *testing.T) {
	for n := 1; n <= 64; n++ {
		for _, d := range []int{64, 255, 256, 257, 2047, 2048, 2049, 40000} {
			if d == 40000 && n > 13 && n < 63 {
				continue
			}
			x := apart(d)
			name := fmt.Sprintf("match of %d from %d back", n, d)
			again := x[:n]
			if n < 4 {
				packs(t, name, x+again, lit(x+again))
				packs(t, name+", and more", x+again+"zyzy", lit(x+again+"zyzy"))
				continue
			}
			packs(t, name, x+again, lit(x), copies(n, d))
			packs(t, name+", and a byte", x+again+"z", lit(x), copies(n, d), lit("z"))
			packs(t, name+", and more", x+again+"zyzy", lit(x), copies(n, d), lit("zyzy"))
		}
	}
}

// P12.1: the edges of matches' sizes, each with its copy written out.
func TestMatchSizesWritten(t *testing.T) {
	x := apart(256)
	for n, want := range map[int]string{
		4:  "\x21\x00",
		5:  "\x25\x00",
		10: "\x39\x00",
		11: "\x3d\x00",
		12: "\x2e\x00\x01",
		13: "\x32\x00\x01",
		63: "\xfa\x00\x01",
		64: "\xfe\x00\x01",
	} {
		packs(t, fmt.Sprintf("match of %d", n), x+x[:n], lit(x), want)
	}
}

// P12.1: what is alike for more than 64 bytes is copied by several copies.
func TestMatchLong(t *testing.T) {
	x := apart(1000)
	for n, behind := range map[int][]string{
		65:  {lit(x[64:65])},
		66:  {lit(x[64:66])},
		67:  {lit(x[64:67])},
		68:  {near(4, 1000)},
		75:  {near(11, 1000)},
		76:  {middle(12, 1000)},
		127: {middle(63, 1000)},
		128: {middle(64, 1000)},
		129: {middle(64, 1000), lit(x[128:129])},
		131: {middle(64, 1000), lit(x[128:131])},
		132: {middle(64, 1000), near(4, 1000)},
		192: {middle(64, 1000), middle(64, 1000)},
	} {
		l := append([]string{lit(x), middle(64, 1000)}, behind...)
		packs(t, fmt.Sprintf("%d alike", n), x+x[:n], l...)
	}
	packs(t, "65 alike, and more", x+x[:65]+"zyxw", lit(x), middle(64, 1000), lit(x[64:65]+"zyxw"))
}

// P12.1: the edges of distances, each with its copy written out.
func TestDistancesWritten(t *testing.T) {
	for _, c := range []struct {
		d, n int
		want string
	}{
		{4, 4, "\x01\x04"},
		{255, 4, "\x01\xff"},
		{256, 4, "\x21\x00"},
		{511, 11, "\x3d\xff"},
		{1791, 4, "\xc1\xff"},
		{1792, 5, "\xe5\x00"},
		{2046, 4, "\xe1\xfe"},
		{2047, 4, "\xe1\xff"},
		{2047, 11, "\xfd\xff"},
		{2047, 12, "\x2e\xff\x07"},
		{2048, 4, "\x0e\x00\x08"},
		{2048, 11, "\x2a\x00\x08"},
		{2048, 12, "\x2e\x00\x08"},
		{2049, 4, "\x0e\x01\x08"},
		{32768, 4, "\x0e\x00\x80"},
		{65472, 64, "\xfe\xc0\xff"},
		{65531, 4, "\x0e\xfb\xff"},
		{65531, 5, "\x12\xfb\xff"},
		{65532, 4, "\x0e\xfc\xff"},
	} {
		x := apart(c.d)
		packs(t, fmt.Sprintf("match of %d from %d back", c.n, c.d), x+x[:c.n], lit(x), c.want)
	}
}

// P12.1: each distance that a near copy tells, and those behind them.
func TestDistanceEach(t *testing.T) {
	for d := 4; d <= 2100; d++ {
		x := apart(d)
		packs(t, fmt.Sprintf("%d back", d), x+x[:4], lit(x), copies(4, d))
	}
}

// P12.1: in MaxFrame bytes no place has four bytes behind it that is farther
// than 65,532 back; what is fewer is pending.
func TestDistanceGreatest(t *testing.T) {
	for _, c := range []struct{ d, n int }{{65533, 3}, {65534, 2}, {65535, 1}} {
		x := apart(c.d)
		s := x + x[:c.n]
		packs(t, fmt.Sprintf("%d alike, %d back", c.n, c.d), s, lit(s))
		if n := squeeze.Match(s, 0, c.d); n != c.n {
			t.Errorf("Match, %d back: %d, want %d", c.d, n, c.n)
		}
	}
	x := apart(65532)
	packs(t, "4 alike, 65532 back", x+x[:4], lit(x), middle(4, 65532))
}

// P12.1: of several places that match for four bytes or more the nearest one is
// told, also where another one matches for more.
func TestNearest(t *testing.T) {
	for _, c := range []struct {
		name, s string
		l       []string
	}{
		{"both alike", "abcdxabcdyabcd", []string{lit("abcdx"), near(4, 5), lit("y"), near(4, 5)}},
		{"the farther one for more", "abcdefgxabcdyabcdefg", []string{lit("abcdefgx"), near(4, 8), lit("y"), near(4, 5), lit("efg")}},
		{"the nearer one for more", "abcdxabcdefyabcdefg", []string{lit("abcdx"), near(4, 5), lit("efy"), near(6, 7), lit("g")}},
		{"the nearer one for three", "abcdxabcyabcd", []string{lit("abcdxabcy"), near(4, 9)}},
		{"the nearer one for three of five", "abcdexabcyabcde", []string{lit("abcdexabcy"), near(5, 10)}},
		{"three", "abcd1abcd2abcd3abcd", []string{lit("abcd1"), near(4, 5), lit("2"), near(4, 5), lit("3"), near(4, 5)}},
		{"within a copy", "aaaaabaaaaaaaa", []string{lit("a"), near(4, 1), lit("b"), near(4, 5), near(4, 1)}},
	} {
		packs(t, c.name, c.s, c.l...)
		like(t, c.s)
	}
	x := apart(30000)
	packs(t, "a far one, for more", x+x[:4]+"z"+x[:9],
		lit(x), middle(4, 30000), lit("z"), near(4, 5), middle(5, 30005))
}

// P12.1: a copy that reaches into what it lays.
func TestInto(t *testing.T) {
	all := ""
	for b := range 70 {
		all += row(b)
	}
	for d := 1; d <= 70; d++ {
		x := all[:d]
		for n := 4; n <= 64; n++ {
			again := strings.Repeat(x, n/d+1)[:n]
			name := fmt.Sprintf("%d from %d back", n, d)
			packs(t, name, x+again, lit(x), copies(n, d))
			packs(t, name+", and more", x+again+"zyzy", lit(x), copies(n, d), lit("zyzy"))
		}
	}
	packs(t, "200 alike", strings.Repeat("a", 201), lit("a"), middle(64, 1), middle(64, 1), middle(64, 1), near(8, 1))
	packs(t, "two in turn", strings.Repeat("ab", 40), lit("ab"), middle(64, 2), middle(14, 2))
}

// P12.1: a match of the last four bytes is told, and of the last three not.
func TestLast(t *testing.T) {
	for _, n := range []int{5, 60, 61, 256, 257, 3000, 65532} {
		// What stands ahead of the last bytes is in no place ahead of theirs.
		x := apart(n-1) + "\xff"
		for from := 1; from <= n-5; from += 2 * (1 + n/14) {
			name := fmt.Sprintf("last bytes of %d, as at %d", n, from)
			packs(t, name+", four", x+x[from:from+4], lit(x), copies(4, n-from))
			packs(t, name+", three", x+x[from:from+3], lit(x+x[from:from+3]))
			if n < 65532 {
				packs(t, name+", three, and another one", x+x[from:from+3]+"\xff\xff", lit(x+x[from:from+3]+"\xff\xff"))
			}
		}
	}
}

// P12.1: what is pending at the end, behind a copy, of each size.
func TestPendingAtTheEnd(t *testing.T) {
	x := "wxyz"
	behind := apart(65528)
	for _, n := range []int{0, 1, 2, 3, 4, 5, 59, 60, 61, 255, 256, 257, 258, 65527, 65528} {
		packs(t, fmt.Sprintf("%d pending", n), x+x+behind[:n], lit(x), near(4, 4), lit(behind[:n]))
	}
}

// P12.1: what stands within a copy is matched later, from any of its places
// on, also where it goes on behind the copy or begins ahead of it.
func TestWithinCopy(t *testing.T) {
	x, y := apart(40), "klmnopqrst"
	for _, c := range []struct {
		name, s string
		l       []string
	}{
		{"its first place", "abcdefgh1abcdefgh2abcd", []string{lit("abcdefgh1"), near(8, 9), lit("2"), near(4, 9)}},
		{"a place within", "abcdefgh1abcdefgh2cdef", []string{lit("abcdefgh1"), near(8, 9), lit("2"), near(4, 7)}},
		{"its last four", "abcdefgh1abcdefgh2efgh", []string{lit("abcdefgh1"), near(8, 9), lit("2"), near(4, 5)}},
		{"and what is behind", "abcdefgh1abcdefgh2gh2", []string{lit("abcdefgh1"), near(8, 9), lit("2gh2")}},
		{"and one behind", "abcdefgh1abcdefgh2fgh2", []string{lit("abcdefgh1"), near(8, 9), lit("2"), near(4, 4)}},
		{"and three behind", "abcdefgh1abcdefgh234h234", []string{lit("abcdefgh1"), near(8, 9), lit("234"), near(4, 4)}},
		{"and one ahead", "abcdefgh1abcdefgh21abc", []string{lit("abcdefgh1"), near(8, 9), lit("2"), near(4, 10)}},
		{"between two copies", "abcd1efgh2abcdefgh3cdef", []string{lit("abcd1efgh2"), near(4, 10), near(4, 9), lit("3"), near(4, 7)}},
	} {
		packs(t, c.name, c.s, c.l...)
		like(t, c.s)
	}
	for from := range len(x) - 3 {
		s := x + y + x + "z" + x[from:from+4]
		packs(t, fmt.Sprintf("from %d on", from), s, lit(x+y), middle(40, 50), lit("z"), near(4, 41-from))
	}
}

// P12.1: a text of MaxFrame bytes is packed, and one of more isn't.
func TestMaxFrame(t *testing.T) {
	same := strings.Repeat("a", 65536)
	l := append([]string{lit("a")}, slices.Repeat([]string{middle(64, 1)}, 1023)...)
	packs(t, "one byte", same, append(l, middle(63, 1))...)
	packs(t, "apart", apart(65536), lit(apart(65536)))
	half := apart(32768)
	packs(t, "two halves", half+half, append([]string{lit(half)}, slices.Repeat([]string{middle(64, 32768)}, 512)...)...)
	for _, s := range []string{same, apart(65536), half + half, noise(65536, 1)} {
		if len(s) != api.MaxFrame {
			t.Fatalf("%d bytes", len(s))
		}
		if _, e := squeeze.Pack(s); e != api.OK {
			t.Errorf("MaxFrame bytes: %v", e)
		}
		for _, more := range []string{"x", "\x00", "abcd", s, s + "a", strings.Repeat(s, 16)} {
			if p, e := squeeze.Pack(s + more); p != "" || e != api.ErrOver {
				t.Errorf("%d bytes: %d bytes %v, want none, and %v", len(s+more), len(p), e, api.ErrOver)
			}
		}
	}
}

// P12.1, P12.3: all texts of a few bytes.
func TestAllTexts(t *testing.T) {
	for of, size := range map[string]int{"a": 300, "ab": 15, "abc": 10, "abcd": 8} {
		matched := 0
		var grow func(s string)
		grow = func(s string) {
			if p := like(t, s); len(p) < len(s)+2 {
				matched++
			}
			if len(s) == size {
				return
			}
			for i := range len(of) {
				grow(s + of[i:i+1])
			}
		}
		grow("")
		if matched == 0 {
			t.Errorf("%s: nothing has matched", of)
		}
	}
}

// P12.1, P12.3: texts without a match, and texts that repeat, one behind the
// other.
func TestBehindEachOther(t *testing.T) {
	parts := []string{
		"", "a", "ab", "abc", "abcd", strings.Repeat("a", 20), strings.Repeat("ab", 40),
		strings.Repeat("abcde", 30), apart(5), apart(61), apart(300)[200:], noise(70, 3),
		noise(257, 4), strings.Repeat(noise(12, 5), 3), strings.Repeat(noise(65, 6), 2),
	}
	for _, a := range parts {
		for _, b := range parts {
			like(t, a+b)
			like(t, a+b+a)
			like(t, b+a+"x"+a+b)
			for _, c := range parts {
				like(t, a+b+c)
			}
		}
	}
}

// P12.1, P12.3: pieces of what stood ahead, and new bytes, in any turn.
func TestPieces(t *testing.T) {
	x := uint32(7)
	next := func(n int) int {
		x = x*1664525 + 1013904223
		return int(x>>8) % n
	}
	for range 3000 {
		s := noise(1+next(90), x)
		for range next(12) {
			from := next(len(s))
			to := min(len(s), from+1+next(80))
			s += s[from:to] + noise(next(1+next(70)), x)
			if next(4) == 0 {
				s += strings.Repeat(s[len(s)-1:], next(80))
			}
		}
		like(t, s)
	}
}

// P12.1, P12.3: longer texts, with matches from far back.
func TestPiecesFar(t *testing.T) {
	x := uint32(11)
	next := func(n int) int {
		x = x*1664525 + 1013904223
		return int(x>>8) % n
	}
	for _, n := range []int{3000, 9000, 65536} {
		s := noise(2048, x)
		for len(s) < n {
			from := next(len(s) - 70)
			s += s[from:from+1+next(70)] + noise(next(5), x)
		}
		like(t, s[:n])
	}
}

// P12.1: how many bytes two places match for, written out.
func TestMatchWritten(t *testing.T) {
	long := strings.Repeat("0123456789", 30)
	for _, c := range []struct {
		s    string
		i, j int
		want int
	}{
		{"abcabc", 0, 3, 3},
		{"abcabc", 3, 0, 3},
		{"abcabc", 1, 4, 2},
		{"abcabc", 2, 5, 1},
		{"abcabc", 0, 1, 0},
		{"abcabc", 0, 4, 0},
		{"abcabd", 0, 3, 2},
		{"abcabc", 0, 0, 6},
		{"abcabc", 2, 2, 4},
		{"abcabc", 5, 5, 1},
		{"abcabc", 6, 6, 0},
		{"abcabc", 0, 6, 0},
		{"abcabc", 6, 0, 0},
		{"abcabc", 0, 7, 0},
		{"abcabc", 7, 0, 0},
		{"abcabc", 7, 7, 0},
		{"abcabc", -1, 0, 0},
		{"abcabc", 0, -1, 0},
		{"abcabc", -1, -1, 0},
		{"abcabc", -3, 3, 0},
		{"abcabc", math.MinInt, 0, 0},
		{"abcabc", 0, math.MinInt, 0},
		{"abcabc", math.MaxInt, 0, 0},
		{"abcabc", 0, math.MaxInt, 0},
		{"abcabc", math.MinInt, math.MaxInt, 0},
		{"abcabc", math.MaxInt, math.MaxInt, 0},
		{"abcabc", math.MinInt, math.MinInt, 0},
		{"", 0, 0, 0},
		{"", 0, 1, 0},
		{"", -1, 0, 0},
		{"aaaa", 0, 1, 3},
		{"aaaa", 1, 0, 3},
		{"ababababx", 0, 2, 6},
		{"\xff\x00\xff\x00", 0, 2, 2},
		{"\u00e4\u00e5", 0, 2, 1},
		{long, 0, 10, 64},
		{long, 10, 0, 64},
		{long, 100, 100, 64},
		{long, 0, 0, 64},
		{long, 0, 230, 64},
		{long, 236, 6, 64},
		{long, 237, 7, 63},
		{long, 8, 238, 62},
		{long, 290, 0, 10},
		{long, 3, 13, 64},
		{long, 3, 14, 0},
	} {
		if n := squeeze.Match(c.s, c.i, c.j); n != c.want {
			t.Errorf("Match(%.20q, %d, %d): %d, want %d", c.s, c.i, c.j, n, c.want)
		}
	}
}

// P12.1: matches of each size, up to the end, and up to another byte.
func TestMatchEachSize(t *testing.T) {
	for n := range 131 {
		x := apart(300)
		want := min(n, 64)
		for _, s := range []string{x + x[:n], x + x[:n] + "z", x + x[:n] + "zyxw" + apart(100)} {
			if a, b := squeeze.Match(s, 0, 300), squeeze.Match(s, 300, 0); a != want || b != want {
				t.Errorf("%d alike: %d and %d, want %d", n, a, b, want)
			}
		}
		s := strings.Repeat("a", n)
		for i := range n + 1 {
			if a := squeeze.Match(s, i, i); a != min(n-i, 64) {
				t.Errorf("%d with itself, of %d: %d", i, n, a)
			}
		}
	}
}

// P12.1: places match by Match however far apart they are.
func TestMatchFar(t *testing.T) {
	for _, d := range []int{1, 2, 2047, 2048, 65534, 65535, 65536, 65537, 1 << 20} {
		x := strings.Repeat("\x00", d)
		s := x[:d-1] + "q" + strings.Repeat("q", 70)
		if n, m := squeeze.Match(s, d-1, d), squeeze.Match(s, d, d-1); n != 64 || m != 64 {
			t.Errorf("from %d on: %d and %d, want 64", d, n, m)
		}
		s = "wxyz" + x + "wxyzw"
		if n, m := squeeze.Match(s, 0, d+4), squeeze.Match(s, d+4, 0); n != 4 || m != 4 {
			t.Errorf("%d apart: %d and %d, want 4", d+4, n, m)
		}
		s = apart(min(d, 500)) + x
		s = s[:d] + s[:min(d, 64)]
		if n, m := squeeze.Match(s, 0, d), squeeze.Match(s, d, 0); n != min(d, 64) || m != n {
			t.Errorf("%d back: %d and %d, want %d", d, n, m, min(d, 64))
		}
	}
}

// P12.1: all places of small texts, and those around them.
func TestMatchAll(t *testing.T) {
	texts := []string{"", "a", "aa", "ab", "aba", "abab", "aabaab", "abcabcab", strings.Repeat("a", 70), strings.Repeat("ab", 36) + "b", apart(20) + apart(20), "\x80\xff\x80\xff\x00"}
	for _, s := range texts {
		for i := -3; i <= len(s)+3; i++ {
			for j := -3; j <= len(s)+3; j++ {
				if n, want := squeeze.Match(s, i, j), modelMatch(s, i, j); n != want {
					t.Errorf("Match(%q, %d, %d): %d, want %d", s, i, j, n, want)
				}
			}
		}
	}
}

// P12.2: bounds, written out.
func TestBoundWritten(t *testing.T) {
	for n, want := range map[int]int{
		math.MinInt:     8,
		math.MinInt + 1: 8,
		-1 << 40:        8,
		-65536:          8,
		-64:             8,
		-33:             8,
		-32:             8,
		-31:             8,
		-8:              8,
		-1:              8,
		0:               8,
		1:               9,
		31:              39,
		32:              41,
		33:              42,
		63:              72,
		64:              74,
		65:              75,
		1024:            1064,
		65535:           67590,
		65536:           67592,
		1<<31 - 1:       2147483647 + 67108863 + 8,
		1 << 31:         2147483648 + 67108864 + 8,
		1<<40 - 1:       1099511627775 + 34359738367 + 8,
		1 << 40:         1099511627776 + 34359738368 + 8,
	} {
		if m := squeeze.Bound(n); m != want {
			t.Errorf("Bound(%d): %d, want %d", n, m, want)
		}
	}
}

// P12.2: each number goes one above the one ahead of it, and two at each 32nd.
func TestBoundEach(t *testing.T) {
	want := 8
	for n := range 70000 {
		if n > 0 {
			want++
		}
		if n > 0 && n%32 == 0 {
			want++
		}
		if m := squeeze.Bound(n); m != want {
			t.Fatalf("Bound(%d): %d, want %d", n, m, want)
		}
		if m := squeeze.Bound(-n); n > 0 && m != 8 {
			t.Fatalf("Bound(%d): %d, want 8", -n, m)
		}
	}
}

// badly is a text of which little is won: literals of n bytes, most with a copy
// of four behind it from so far back that it takes three.
func badly(n int) string {
	x := apart(65536)
	s := []byte(x[:3000])
	for at := 3000; len(s)+n+4 <= 65536; at += n {
		s = append(s, x[at:at+n]...)
		s = append(s, x[4*at%900:][:4]...)
	}
	return string(s)
}

// P12.3: what is packed is unpacked again, also where little is won.
func TestPackedBadly(t *testing.T) {
	for _, n := range []int{1, 2, 3, 4, 5, 28, 31, 32, 59, 60, 61, 62, 63, 64, 255, 256, 257, 258, 1000} {
		s := badly(n)
		p, e := squeeze.Pack(s)
		if e != api.OK {
			t.Fatalf("literals of %d: %v", n, e)
		}
		unpacks(t, fmt.Sprintf("literals of %d", n), s, p)
	}
	for seed := range uint32(4) {
		for _, n := range []int{0, 1, 10, 100, 1000, 10000, 65535, 65536} {
			s := noise(n, seed)
			p, e := squeeze.Pack(s)
			if e != api.OK {
				t.Fatalf("noise of %d: %v", n, e)
			}
			unpacks(t, fmt.Sprintf("noise of %d", n), s, p)
		}
	}
}

// P12.3: what is packed is unpacked again; texts of each of few bytes, and of
// each size.
func TestPackedAgain(t *testing.T) {
	words := strings.Repeat("the quick brown fox jumps over the lazy dog. ", 1500)[:65536]
	mixed := ""
	for i := 0; len(mixed) < 65536; i++ {
		mixed += fmt.Sprint(i*i%977, ",")
	}
	for _, s := range []string{words, mixed[:65536], apart(65536), strings.Repeat(apart(700), 94)[:65536]} {
		for n := 0; n <= len(s); n += 1 + n/8 {
			for _, x := range []string{s[:n], s[len(s)-n:]} {
				p, e := squeeze.Pack(x)
				if e != api.OK {
					t.Fatalf("%d bytes: %v", n, e)
				}
				unpacks(t, fmt.Sprintf("%d bytes", n), x, p)
			}
		}
	}
	for b := range 256 {
		for _, n := range []int{4, 5, 64, 65, 66, 68, 69, 1000} {
			like(t, strings.Repeat(row(b), n))
			like(t, strings.Repeat(row(b, 255-b), n))
		}
	}
}

// Rule 1: whatever comes, a call ends.
func TestTotal(t *testing.T) {
	odd := []int{math.MinInt, math.MinInt + 1, -1 << 32, -1, 0, 1, 63, 64, 65, 1 << 32, 1<<40 + 1, math.MaxInt - 64, math.MaxInt - 1, math.MaxInt}
	for _, i := range odd {
		squeeze.Bound(i)
		for _, j := range odd {
			for _, s := range []string{"", "a", strings.Repeat("a", 64), apart(100)} {
				if n, want := squeeze.Match(s, i, j), modelMatch(s, i, j); n != want {
					t.Errorf("Match of %d bytes, %d and %d: %d, want %d", len(s), i, j, n, want)
				}
			}
		}
	}
	for b := range 256 {
		squeeze.Pack(strings.Repeat(row(b), 65536))
	}
}

// Rule 5: an answer is new memory.
func TestMemory(t *testing.T) {
	for _, s := range []string{"ab", apart(300), strings.Repeat("abcd", 99)} {
		kept := strings.Clone(s)
		p, e := squeeze.Pack(s)
		q, f := squeeze.Pack(s)
		if e != api.OK || f != api.OK || p != q || s != kept {
			t.Fatalf("%.40x: %v %v", s, e, f)
		}
		from, to := uintptr(unsafe.Pointer(unsafe.StringData(s))), uintptr(unsafe.Pointer(unsafe.StringData(p)))
		if to >= from && to < from+uintptr(len(s)) || unsafe.StringData(p) == unsafe.StringData(q) {
			t.Errorf("%.40x: memory is shared", s)
		}
	}
}

// Rule 6: an answer hangs on nothing but the argument: not on what was packed
// ahead of it.
func TestAgain(t *testing.T) {
	texts := []string{"", "abcd", "abcdabcd", "abcde", "xabcd", "bcda", strings.Repeat("a", 80), apart(400), noise(3000, 9)}
	for _, a := range texts {
		for _, b := range texts {
			if _, e := squeeze.Pack(a); e != api.OK {
				t.Fatal(e)
			}
			if _, e := squeeze.Pack(strings.Repeat("abcd", 20000)); e != api.ErrOver {
				t.Fatal(e)
			}
			like(t, b)
		}
	}
}

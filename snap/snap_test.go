package snap_test

import (
	"fmt"
	"math"
	"runtime"
	"slices"
	"strings"
	"testing"
	"unsafe"

	"hatchway/api"
	"hatchway/meter"
	"hatchway/snap"
)

// noMeter is the room of a meter that isn't there.
const noMeter = -1

// seven is n by seven bits.
func seven(n uint64) string {
	s := ""
	for ; n >= 128; n /= 128 {
		s += string([]byte{byte(n%128 + 128)})
	}
	return s + string([]byte{byte(n)})
}

// little is n in so many little bytes.
func little(n, bytes int) string {
	s := ""
	for range bytes {
		s += string([]byte{byte(n % 256)})
		n /= 256
	}
	return s
}

// block is a size, and elements.
func block(size int, elements ...string) string {
	return seven(uint64(size)) + strings.Join(elements, "")
}

// first is an element's first byte.
func first(kind, v int) string { return string([]byte{byte(4*v + kind)}) }

// claim is a literal's head with so many bytes more, that tells n bytes.
func claim(more, n int) string {
	if more == 0 {
		return first(0, n-1)
	}
	return first(0, 59+more) + little(n-1, more)
}

// lit is a literal whose head has so many bytes more; of no byte there is none.
func lit(more int, s string) string {
	if s == "" {
		return ""
	}
	return claim(more, len(s)) + s
}

// near, middle and far are copies of n bytes from so far back.
func near(n, back int) string {
	return first(1, n-4+8*(back/256)) + little(back%256, 1)
}

func middle(n, back int) string { return first(2, n-1) + little(back, 2) }

func far(n, back int) string { return first(3, n-1) + little(back, 4) }

// copier is a kind of copies, with its bounds.
type copier struct {
	name        string
	put         func(n, back int) string
	least, most int // bytes
	farthest    int
}

func copiers() []copier {
	return []copier{
		{"near", near, 4, 11, 2047},
		{"middle", middle, 1, 64, 65535},
		{"far", far, 1, 64, math.MaxUint32},
	}
}

// mixed is so many bytes that don't come again soon.
func mixed(n int) string {
	s := make([]byte, n)
	x := uint32(1)
	for i := range s {
		x = x*1664525 + 1013904223
		s[i] = byte(x >> 24)
	}
	return string(s)
}

// copied is s and n bytes of it, from so far back, as the chapter lays them.
func copied(s string, n, back int) string {
	b := []byte(s)
	for range n {
		b = append(b, b[len(b)-back])
	}
	return string(b)
}

// modelSize is Size by the chapters' words.
func modelSize(s string) (size, bytes int, e api.Errno) {
	n := uint64(0)
	for i := 0; ; i++ {
		if i == len(s) {
			return 0, 0, api.ErrShort
		}
		if i == 9 && s[i] > 1 || i > 0 && s[i] == 0 {
			return 0, 0, api.ErrForm
		}
		n += uint64(s[i]%128) << (7 * i)
		if s[i] >= 128 {
			continue
		}
		if n > 1<<32-1 {
			return 0, 0, api.ErrOver
		}
		return int(n), i + 1, api.OK
	}
}

// model is Unpack by the chapter's words, of a meter with so much room.
func model(s string, most, room int) (string, api.Errno) {
	size, at, e := modelSize(s)
	if e != api.OK {
		return "", e
	}
	if size > most || room != noMeter && size > room {
		return "", api.ErrOver
	}
	var laid []byte
	for at < len(s) {
		kind, v := s[at]%4, int(s[at]/4)
		more := [4]int{0, 1, 2, 4}[kind]
		if kind == 0 && v >= 60 {
			more = v - 59
		}
		if len(s)-at-1 < more {
			return "", api.ErrShort
		}
		number := 0
		for i := more; i > 0; i-- {
			number = number*256 + int(s[at+i])
		}
		at += 1 + more
		n, back := v+1, number
		if kind == 0 && more > 0 {
			n = 1 + number
		}
		if kind == 1 {
			n, back = 4+v%8, 256*(v/8)+number
		}
		if kind != 0 && (back == 0 || back > len(laid)) {
			return "", api.ErrForm
		}
		if len(laid)+n > size {
			return "", api.ErrForm
		}
		if kind != 0 {
			laid = []byte(copied(string(laid), n, back))
			continue
		}
		if len(s)-at < n {
			return "", api.ErrShort
		}
		laid = append(laid, s[at:at+n]...)
		at += n
	}
	if len(laid) < size {
		return "", api.ErrShort
	}
	return string(laid), api.OK
}

// like holds Size and Unpack of s against the model.
func like(t *testing.T, s string) {
	t.Helper()
	n, k, e := snap.Size(s)
	if wn, wk, we := modelSize(s); n != wn || k != wk || e != we {
		t.Fatalf("Size(%x): %d %d %v, want %d %d %v", s, n, k, e, wn, wk, we)
	}
	x, e := snap.Unpack(s, 1<<20, nil)
	if w, we := model(s, 1<<20, noMeter); x != w || e != we {
		t.Fatalf("Unpack(%x): %x %v, want %x %v", s, x, e, w, we)
	}
	if e == api.OK && len(x) != n {
		t.Fatalf("Unpack(%x): %d bytes, Size says %d", s, len(x), n)
	}
}

// unpacks asks that s is unpacked to want, as far as the caps let it.
func unpacks(t *testing.T, name, s, want string) {
	t.Helper()
	if x, e := snap.Unpack(s, len(want), meter.New(len(want))); x != want || e != api.OK {
		t.Errorf("%s: %.40x %v, want %.40x", name, x, e, want)
	}
	if x, e := snap.Unpack(s, math.MaxInt, nil); x != want || e != api.OK {
		t.Errorf("%s, no caps: %.40x %v, want %.40x", name, x, e, want)
	}
	if n, k, e := snap.Size(s); n != len(want) || k != len(seven(uint64(n))) || e != api.OK {
		t.Errorf("%s: Size %d %d %v, want %d", name, n, k, e, len(want))
	}
}

// fails asks that s isn't unpacked, and why.
func fails(t *testing.T, name, s string, want api.Errno) {
	t.Helper()
	if x, e := snap.Unpack(s, math.MaxInt, nil); x != "" || e != want {
		t.Errorf("%s: %.40x %v, want %v", name, x, e, want)
	}
}

// P11.1: sizes, each with what stands behind it.
func TestSize(t *testing.T) {
	for _, c := range []struct {
		s    string
		n, k int
	}{
		{"\x00", 0, 1},
		{"\x01", 1, 1},
		{"\x7f", 127, 1},
		{"\x80\x01", 128, 2},
		{"\xac\x02", 300, 2},
		{"\xff\x7f", 16383, 2},
		{"\x80\x80\x01", 16384, 3},
		{"\x80\x80\x04", 65536, 3},
		{"\xff\xff\xff\x7f", 1<<28 - 1, 4},
		{"\x80\x80\x80\x80\x01", 1 << 28, 5},
		{"\xff\xff\xff\xff\x07", 1<<31 - 1, 5},
		{"\x80\x80\x80\x80\x08", 1 << 31, 5},
		{"\xfe\xff\xff\xff\x0f", 1<<32 - 2, 5},
		{"\xff\xff\xff\xff\x0f", 1<<32 - 1, 5},
	} {
		for _, behind := range []string{"", "\x00", "rest", "\xff\xff", "\x80\x00"} {
			if n, k, e := snap.Size(c.s + behind); n != c.n || k != c.k || e != api.OK {
				t.Errorf("%x: %d %d %v, want %d %d", c.s+behind, n, k, e, c.n, c.k)
			}
		}
	}
}

// P11.1: what is no size, or one that is too great.
func TestSizeWrong(t *testing.T) {
	nines := strings.Repeat("\xff", 9)
	for _, c := range []struct {
		s    string
		want api.Errno
	}{
		{"", api.ErrShort},
		{"\x80", api.ErrShort},
		{"\xff\xff\xff\xff", api.ErrShort},
		{"\xff\xff\xff\xff\xff", api.ErrShort},
		{nines, api.ErrShort},
		{"\x80\x00", api.ErrForm},
		{"\x80\x00rest", api.ErrForm},
		{"\xff\xff\xff\xff\x8f\x00", api.ErrForm},
		{nines + "\x02", api.ErrForm},
		{nines + "\x81", api.ErrForm},
		{nines + "\x00", api.ErrForm},
		{"\x80\x80\x80\x80\x10", api.ErrOver},
		{"\x81\x80\x80\x80\x10rest", api.ErrOver},
		{"\xff\xff\xff\xff\x1f", api.ErrOver},
		{"\x80\x80\x80\x80\x80\x01", api.ErrOver},
		{"\x85\x80\x80\x80\x10\x10abcde", api.ErrOver},
		{nines + "\x01", api.ErrOver},
	} {
		if n, k, e := snap.Size(c.s); n != 0 || k != 0 || e != c.want {
			t.Errorf("%x: %d %d %v, want %v", c.s, n, k, e, c.want)
		}
		fails(t, fmt.Sprintf("%x", c.s), c.s, c.want)
	}
}

// P11.1: all numbers that are near to a power of two.
func TestSizePowers(t *testing.T) {
	for bit := range 64 {
		for off := range uint64(5) {
			s := seven(uint64(1)<<bit + off - 2)
			like(t, s)
			like(t, s+"\x00a")
			like(t, s[:len(s)-1])
		}
	}
}

// P11.2: the chapter's examples, and blocks whose bytes are written out.
func TestUnpackWritten(t *testing.T) {
	for _, c := range []struct{ name, s, want string }{
		{"no byte", "\x00", ""},
		{"example", "\x05\x10abcde", "abcde"},
		{"example, a copy", "\x06\x04ab\x01\x02", "ababab"},
		{"middle", "\x06\x04ab\x0e\x02\x00", "ababab"},
		{"far", "\x06\x04ab\x0f\x02\x00\x00\x00", "ababab"},
		{"one byte", "\x01\x00a", "a"},
		{"two literals", "\x03\x00a\x04bc", "abc"},
		{"heads with more than they need", "\x04\xf0\x00a\xf4\x00\x00b\xf8\x00\x00\x00c\xfc\x00\x00\x00\x00d", "abcd"},
		{"near, by its first byte", "\x0c\x00a\x1d\x01", strings.Repeat("a", 12)},
		{"all kinds", "\x13\x08abc\x01\x03\x06\x04\x00\x0b\x02\x00\x00\x00\x04xy\x05\x01", "abc" + "abca" + "ab" + "aba" + "xy" + "yyyyy"},
		{"bytes that are no rune's", "\x06\x08\xff\x00\x80\x0a\x03\x00", "\xff\x00\x80\xff\x00\x80"},
	} {
		unpacks(t, c.name, c.s, c.want)
	}
}

// P11.2: literals, by each head that tells so many bytes.
func TestLiterals(t *testing.T) {
	for more, sizes := range [][]int{
		{1, 2, 31, 32, 59, 60},
		{1, 2, 60, 61, 62, 127, 128, 255, 256},
		{1, 60, 61, 256, 257, 258, 511, 512, 513, 65535, 65536},
		{1, 61, 256, 257, 65536, 65537, 65538, 1<<17 + 1, 1 << 20},
		{1, 61, 256, 257, 65536, 65537, 1<<24 + 1},
	} {
		for _, n := range sizes {
			x := mixed(n)
			s := block(n, lit(more, x))
			name := fmt.Sprintf("literal of %d, %d bytes more", n, more)
			unpacks(t, name, s, x)
			fails(t, name+", a byte too few", s[:len(s)-1], api.ErrShort)
			fails(t, name+", into less", block(n-1, lit(more, x)), api.ErrForm)
			fails(t, name+", into more", block(n+1, lit(more, x)), api.ErrShort)
			unpacks(t, name+", and two more", block(n+2, lit(more, x), lit(0, "yz")), x+"yz")
		}
	}
}

// P11.2: a literal's first byte tells its size up to 60.
func TestLiteralEachHead(t *testing.T) {
	for v := range 60 {
		x := mixed(v + 1)
		unpacks(t, fmt.Sprintf("v %d", v), block(v+1, first(0, v), x), x)
	}
	x := mixed(61)
	unpacks(t, "v 60", block(61, "\xf0\x3c", x), x)
	unpacks(t, "v 61", block(61, "\xf4\x3c\x00", x), x)
	unpacks(t, "v 62", block(61, "\xf8\x3c\x00\x00", x), x)
	unpacks(t, "v 63", block(61, "\xfc\x3c\x00\x00\x00", x), x)
}

// P11.2: what a literal claims to lay is held against the size ahead of what
// stands behind it.
func TestLiteralClaims(t *testing.T) {
	for more, most := range []int{60, 1 << 8, 1 << 16, 1 << 24, 1 << 32} {
		head := claim(more, most)
		fails(t, "more than the size", block(most-1, head), api.ErrForm)
		fails(t, "more than the size, and bytes", block(most-1, head, "abc"), api.ErrForm)
		fails(t, "more than the size by far", block(0, head), api.ErrForm)
		fails(t, "above what is left", block(most-1, lit(0, "a"), claim(more, most-1)), api.ErrForm)
		fails(t, "just what is left", block(most-1, lit(0, "a"), claim(more, most-2)), api.ErrShort)
		fails(t, "just the size", block(most-1, claim(more, most-1)), api.ErrShort)
		fails(t, "just the size, and a byte", block(most-1, claim(more, most-1), "a"), api.ErrShort)
	}
}

// P11.2: each kind of copy, by its bounds and what is next to them.
func TestCopies(t *testing.T) {
	long := mixed(70000)
	for _, c := range copiers() {
		sizes := []int{c.least, c.least + 1, (c.least + c.most) / 2, c.most - 1, c.most}
		for _, n := range sizes {
			for _, back := range []int{1, 2, 3, 4, 7, 8, 60, 64, 255, 256, 257, 511, 512, 1791, 1792, 2046, 2047, 2048, 32768, 65534, 65535, 65536, 65537, 70000} {
				if back > c.farthest {
					continue
				}
				for _, laid := range []string{long, long[:back]} {
					name := fmt.Sprintf("%s: %d from %d back of %d", c.name, n, back, len(laid))
					want := copied(laid, n, back)
					unpacks(t, name, block(len(want), lit(4, laid), c.put(n, back)), want)
					fails(t, name+", into less", block(len(want)-1, lit(4, laid), c.put(n, back)), api.ErrForm)
					fails(t, name+", into more", block(len(want)+1, lit(4, laid), c.put(n, back)), api.ErrShort)
				}
				name := fmt.Sprintf("%s: %d from %d back, past the first byte", c.name, n, back)
				fails(t, name, block(back-1+n, lit(4, long[:back-1]), c.put(n, back)), api.ErrForm)
			}
		}
	}
}

// P11.2: each first byte of a copy, and with it each size that it tells.
func TestCopyEachHead(t *testing.T) {
	long := mixed(2047)
	for v := range 64 {
		n := 4 + v%8
		for _, b := range []int{0, 1, 2, 127, 128, 255} {
			back := 256*(v/8) + b
			if back == 0 {
				continue
			}
			want := copied(long, n, back)
			unpacks(t, fmt.Sprintf("near %d %d", v, b), block(len(want), lit(2, long), first(1, v), little(b, 1)), want)
		}
		want := copied(long, v+1, 258)
		unpacks(t, fmt.Sprintf("middle %d", v), block(len(want), lit(2, long), first(2, v), "\x02\x01"), want)
		unpacks(t, fmt.Sprintf("far %d", v), block(len(want), lit(2, long), first(3, v), "\x02\x01\x00\x00"), want)
	}
}

// P11.2: a distance's bytes, each with a value of its own.
func TestCopyFar(t *testing.T) {
	long := mixed(1<<24 + 1<<17)
	for _, back := range []int{1, 256, 65535, 65536, 0x010203, 1 << 24, 0x01010203} {
		laid := long[:back]
		want := laid + strings.Repeat(laid[:min(back, 64)], 64)[:64]
		if x, e := snap.Unpack(block(len(want), lit(4, laid), far(64, back)), len(want), nil); x != want || e != api.OK {
			t.Errorf("%d back: %.20x %v", back, x, e)
		}
		fails(t, fmt.Sprintf("%d back, one farther", back), block(len(want), lit(4, laid), far(64, back+1)), api.ErrForm)
	}
	for _, back := range []int{1 << 24, 1<<31 - 1, 1 << 31, 1<<32 - 1} {
		fails(t, fmt.Sprintf("%d back, too far", back), block(65537, lit(4, long[:65536]), far(1, back)), api.ErrForm)
	}
}

// P11.2: a copy that goes back 0, to the first byte, and one farther.
func TestCopyBack(t *testing.T) {
	for _, c := range copiers() {
		n := c.least
		fails(t, c.name+": 0 back, with nothing laid", block(n, c.put(n, 0)), api.ErrForm)
		fails(t, c.name+": 1 back, with nothing laid", block(n, c.put(n, 1)), api.ErrForm)
		fails(t, c.name+": 0 back, into nothing", block(0, c.put(n, 0)), api.ErrForm)
		for laid := 1; laid <= 300; laid++ {
			x := mixed(laid)
			s := func(back int) string { return block(laid+n, lit(2, x), c.put(n, back)) }
			name := fmt.Sprintf("%s, %d laid: ", c.name, laid)
			fails(t, name+"0 back", s(0), api.ErrForm)
			unpacks(t, name+"to the first byte", s(laid), copied(x, n, laid))
			fails(t, name+"one farther", s(laid+1), api.ErrForm)
			fails(t, name+"as far as may be", s(c.farthest), api.ErrForm)
		}
	}
	long := mixed(70000)
	for _, c := range copiers() {
		fails(t, c.name+": 0 back, with much laid", block(70000+c.least, lit(4, long), c.put(c.least, 0)), api.ErrForm)
	}
	// Nor is what a copy is going to lay itself there ahead of it.
	fails(t, "into itself", block(9, lit(0, "a"), near(8, 2)), api.ErrForm)
	fails(t, "behind another copy, one farther", block(9, lit(0, "a"), near(4, 1), near(4, 6)), api.ErrForm)
	unpacks(t, "behind another copy", block(9, lit(0, "a"), near(4, 1), near(4, 5)), "aaaaaaaaa")
}

// P11.2: a copy that lays what it laid itself.
func TestCopyItself(t *testing.T) {
	for _, c := range copiers() {
		for back := 1; back <= 70; back++ {
			for n := c.least; n <= c.most; n++ {
				x := mixed(back)
				again := strings.Repeat(x, n/back+1)[:n]
				unpacks(t, fmt.Sprintf("%s: %d from %d back", c.name, n, back), block(back+n, lit(1, x), c.put(n, back)), x+again)
			}
		}
	}
}

// P11.2: elements one behind the other, each with what was laid ahead of it.
func TestCopiesOfCopies(t *testing.T) {
	want := mixed(5)
	s := []string{lit(0, want)}
	for i := range 400 {
		c := copiers()[i%3]
		n := c.least + i*7%(c.most-c.least+1)
		back := 1 + i*31%min(len(want), c.farthest)
		want = copied(want, n, back)
		s = append(s, c.put(n, back))
		if i%5 == 0 {
			x := mixed(1 + i%70)
			want += x
			s = append(s, lit(1+i%4, x))
		}
		unpacks(t, fmt.Sprintf("%d elements", len(s)), block(len(want), s...), want)
	}
}

// each tells each of an element of each kind, by name, how many bytes it lays
// behind abcdefgh, and what.
func each() map[string][2]string {
	m := map[string][2]string{
		"literal":              {lit(0, "x"), "x"},
		"literal, a long head": {lit(4, "xyz"), "xyz"},
	}
	for _, c := range copiers() {
		m[c.name] = [2]string{c.put(c.least, 3), copied("abcdefgh", c.least, 3)[8:]}
	}
	return m
}

// P11.2: an element by which just the size is laid, and one byte more; and
// bytes behind the last one, and fewer than the size.
func TestLaidAndSize(t *testing.T) {
	const laid = "abcdefgh"
	for name, x := range each() {
		n := len(laid) + len(x[1])
		unpacks(t, name, block(n, lit(0, laid), x[0]), laid+x[1])
		for less := 1; less <= n; less++ {
			fails(t, fmt.Sprintf("%s: %d more than the size", name, less), block(n-less, lit(0, laid), x[0]), api.ErrForm)
		}
		for _, more := range []int{1, 2, 100, 1 << 30} {
			fails(t, fmt.Sprintf("%s: %d fewer than the size", name, more), block(n+more, lit(0, laid), x[0]), api.ErrShort)
		}
		for kind := range 4 {
			for v := range 64 {
				s := block(n, lit(0, laid), x[0], first(kind, v))
				like(t, s)
				for _, behind := range []string{"\x00", "\x00\x00", "a\x00\x00\x00", "\x01\x00\x00\x00\x00", "\x03\x00\x00\x00abcdefgh"} {
					like(t, s+behind)
				}
			}
		}
	}
}

// P11.2: an element behind all that is to be laid is an error, whatever it is.
func TestBehind(t *testing.T) {
	for _, ahead := range []string{block(0), block(3, lit(0, "abc"))} {
		for b := range 256 {
			s := ahead + string([]byte{byte(b)})
			want := api.ErrShort
			// Of a literal up to 60 the one byte is all its head.
			if b%4 == 0 && b/4 < 60 {
				want = api.ErrForm
			}
			fails(t, fmt.Sprintf("byte %d behind", b), s, want)
			fails(t, fmt.Sprintf("byte %d and more behind", b), s+"\x01\x00\x00\x00", api.ErrForm)
		}
	}
}

// P11.2: the size is held against most, and against a meter's room.
func TestCaps(t *testing.T) {
	x := mixed(300)
	for _, n := range []int{0, 1, 2, 60, 127, 128, 300} {
		s := block(n, lit(2, x[:n]))
		for _, most := range []int{math.MinInt, -1 << 32, -301, -2, -1, 0, 1, n - 2, n - 1, n, n + 1, 1 << 31, 1 << 32, math.MaxInt} {
			want, wantE := x[:n], api.OK
			if n > most {
				want, wantE = "", api.ErrOver
			}
			if got, e := snap.Unpack(s, most, nil); got != want || e != wantE {
				t.Errorf("%d bytes, most %d: %.20x %v, want %v", n, most, got, e, wantE)
			}
			m := meter.New(1000)
			if got, e := snap.Unpack(s, most, m); got != want || e != wantE || m.Used() != len(want) || m.Taken() != len(want) {
				t.Errorf("%d bytes, most %d, a meter: %.20x %v, used %d", n, most, got, e, m.Used())
			}
		}
		for _, room := range []int{0, 1, n - 2, n - 1, n, n + 1, 1 << 31, math.MaxInt} {
			room = max(room, 0)
			want, wantE := x[:n], api.OK
			if n > room {
				want, wantE = "", api.ErrOver
			}
			m := meter.New(room)
			got, e := snap.Unpack(s, n, m)
			if got != want || e != wantE {
				t.Errorf("%d bytes, room %d: %.20x %v, want %v", n, room, got, e, wantE)
			}
			if m.Used() != len(want) || m.Taken() != len(want) || m.Top() != len(want) || m.Most() != room {
				t.Errorf("%d bytes, room %d: used %d, taken %d, top %d", n, room, m.Used(), m.Taken(), m.Top())
			}
		}
	}
}

// P11.2: sizes near to 2^32 are held against the caps whole.
func TestCapsGreat(t *testing.T) {
	for _, n := range []int{1<<31 - 1, 1 << 31, 1<<32 - 2, 1<<32 - 1} {
		for _, off := range []int{-1, 0, 1} {
			want := api.ErrShort
			if off < 0 {
				want = api.ErrOver
			}
			if x, e := snap.Unpack(block(n), n+off, nil); x != "" || e != want {
				t.Errorf("size %d, most %d: %v", n, n+off, e)
			}
			m := meter.New(n + off)
			x, e := snap.Unpack(block(n), math.MaxInt, m)
			if x != "" || e != want || m.Used() != n*min(off+1, 1) {
				t.Errorf("size %d, room %d: %v, used %d", n, n+off, e, m.Used())
			}
		}
	}
}

// P11.2: of a meter the size is taken once for each block, and nothing more.
func TestMeterUsed(t *testing.T) {
	s := block(5, lit(0, "abc"), middle(2, 3))
	m := meter.New(12)
	for i, want := range []struct {
		x    string
		e    api.Errno
		used int
	}{
		{"abcab", api.OK, 5},
		{"abcab", api.OK, 10},
		{"", api.ErrOver, 10},
		{"", api.ErrOver, 10},
	} {
		if x, e := snap.Unpack(s, 5, m); x != want.x || e != want.e || m.Used() != want.used || m.Taken() != want.used {
			t.Errorf("block %d: %q %v, used %d", i, x, e, m.Used())
		}
	}
	if x, e := snap.Unpack(block(2, lit(0, "hi")), 5, m); x != "hi" || e != api.OK || m.Used() != 12 {
		t.Errorf("into what is left: %q %v", x, e)
	}
	if x, e := snap.Unpack(block(0), 5, m); x != "" || e != api.OK || m.Used() != 12 {
		t.Errorf("no byte, of a meter that is full: %q %v", x, e)
	}
	if x, e := snap.Unpack(block(1, lit(0, "a")), 5, m); x != "" || e != api.ErrOver || m.Used() != 12 {
		t.Errorf("a byte, of a meter that is full: %q %v", x, e)
	}
	m.Give(5)
	if x, e := snap.Unpack(s, 5, m); x != "abcab" || e != api.OK || m.Used() != 12 || m.Taken() != 17 {
		t.Errorf("what was given back: %q %v", x, e)
	}
}

// P11.2: a meter whose count of what was taken is full, and a zero one.
func TestMeterRefuses(t *testing.T) {
	m := meter.New(math.MaxInt)
	m.Take(math.MaxInt - 4)
	m.Give(math.MaxInt - 4)
	if x, e := snap.Unpack(block(5, lit(0, "abcde")), 5, m); x != "" || e != api.ErrOver || m.Used() != 0 {
		t.Errorf("above what may be taken: %q %v", x, e)
	}
	if x, e := snap.Unpack(block(4, lit(0, "abcd")), 5, m); x != "abcd" || e != api.OK || m.Used() != 4 {
		t.Errorf("all that may be taken: %q %v", x, e)
	}
	z := &meter.Meter{}
	if x, e := snap.Unpack(block(0), 0, z); x != "" || e != api.OK {
		t.Errorf("no byte, of a zero meter: %q %v", x, e)
	}
	if x, e := snap.Unpack(block(1, lit(0, "a")), 1, z); x != "" || e != api.ErrOver {
		t.Errorf("a byte, of a zero meter: %q %v", x, e)
	}
}

// wrongs are blocks that have their size whole, and an error.
func wrongs() map[string]api.Errno {
	return map[string]api.Errno{
		block(5):                                api.ErrShort,
		block(5, lit(0, "abcd")):                api.ErrShort,
		block(5, claim(0, 5), "abcd"):           api.ErrShort,
		block(5, claim(1, 5)[:1]):               api.ErrShort,
		block(5, lit(0, "a"), near(4, 1)[:1]):   api.ErrShort,
		block(5, lit(0, "a"), middle(4, 1)[:2]): api.ErrShort,
		block(5, lit(0, "a"), far(4, 1)[:4]):    api.ErrShort,
		block(5, lit(0, "a"), near(4, 0)):       api.ErrForm,
		block(5, lit(0, "a"), middle(4, 2)):     api.ErrForm,
		block(5, lit(0, "ab"), near(4, 1)):      api.ErrForm,
		block(5, lit(0, "abcdef")):              api.ErrForm,
		block(5, lit(0, "abcde"), lit(0, "f")):  api.ErrForm,
		block(5, lit(0, "abcde"), "\x01"):       api.ErrShort,
	}
}

// P11.2: what is taken of a meter stays taken where an element is wrong, and
// nothing is where the size is, or where it is above most.
func TestMeterKept(t *testing.T) {
	for s, want := range wrongs() {
		m := meter.New(9)
		m.Take(3)
		if x, e := snap.Unpack(s, 5, m); x != "" || e != want || m.Used() != 8 || m.Taken() != 8 || m.Top() != 8 {
			t.Errorf("%x: %q %v, used %d, want %v", s, x, e, m.Used(), want)
		}
		if x, e := snap.Unpack(s, 5, m); x != "" || e != api.ErrOver || m.Used() != 8 {
			t.Errorf("%x, without room: %q %v, used %d", s, x, e, m.Used())
		}
		m = meter.New(9)
		if x, e := snap.Unpack(s, 4, m); x != "" || e != api.ErrOver || m.Taken() != 0 || m.Used() != 0 {
			t.Errorf("%x, above most: %q %v, used %d", s, x, e, m.Used())
		}
	}
	for _, s := range []string{"", "\x80", "\x80\x00", "\x80\x80\x80\x80\x10", "\x85\x80\x80\x80\x10"} {
		m := meter.New(math.MaxInt)
		if _, e := snap.Unpack(s, math.MaxInt, m); e == api.OK || m.Taken() != 0 || m.Used() != 0 {
			t.Errorf("%x: %v, taken %d", s, e, m.Taken())
		}
	}
}

// P11.2: which error is first where two are there.
func TestOrder(t *testing.T) {
	full := func() *meter.Meter { return meter.New(0) }
	for _, c := range []struct {
		name string
		s    string
		most int
		m    *meter.Meter
		want api.Errno
	}{
		{"size short, most", "", -1, nil, api.ErrShort},
		{"size short, most and meter", "\x80", -1, full(), api.ErrShort},
		{"size of no form, most", "\x80\x00", -1, full(), api.ErrForm},
		{"size of no form, elements", "\x80\x00\x01", 9, nil, api.ErrForm},
		{"size too great, elements", "\x80\x80\x80\x80\x10\x01\x00", math.MaxInt, nil, api.ErrOver},
		{"most, element short", "\x05\x01", 4, nil, api.ErrOver},
		{"most, element of no form", "\x05\x01\x00", 4, nil, api.ErrOver},
		{"most, fewer laid", "\x05", 4, nil, api.ErrOver},
		{"meter, element short", "\x05\x01", 5, full(), api.ErrOver},
		{"meter, element of no form", "\x05\x01\x00", 5, full(), api.ErrOver},
		{"meter, fewer laid", "\x05", 5, full(), api.ErrOver},
		{"near short, more than the size", "\x00\x01", 9, nil, api.ErrShort},
		{"middle short, more than the size", "\x00\x02\x00", 9, nil, api.ErrShort},
		{"far short, more than the size", "\x00\x03\x00\x00\x00", 9, nil, api.ErrShort},
		{"middle short, none back", "\x05\x02\x00", 9, nil, api.ErrShort},
		{"far short, none back", "\x05\x03\x00\x00\x00", 9, nil, api.ErrShort},
		{"far short, too far back", "\x05\x03\xff\xff\xff", 9, nil, api.ErrShort},
		{"literal's head short, more than the size", "\x00\xf4\x00", 9, nil, api.ErrShort},
		{"literal's head short, more than the size by far", "\x05\xfc\xff\xff\xff", 9, nil, api.ErrShort},
		{"literal above the size, and short", "\x02\x0cab", 9, nil, api.ErrForm},
		{"literal above the size, and nothing behind", "\x02\x0c", 9, nil, api.ErrForm},
		{"copy of no form, a short one behind", "\x09\x00a\x01\x00\x01", 9, nil, api.ErrForm},
		{"copy above the size, a short one behind", "\x04\x00a\x01\x01\x01", 9, nil, api.ErrForm},
		{"literal above the size, a short copy behind", "\x01\x04ab\x01", 9, nil, api.ErrForm},
		{"copy of no form, fewer laid", "\x09\x00a\x01\x00", 9, nil, api.ErrForm},
		{"copy short, fewer laid", "\x09\x00a\x01", 9, nil, api.ErrShort},
		{"no form, and right from there on", "\x05\x01\x00\x10abcde", 9, nil, api.ErrForm},
	} {
		if x, e := snap.Unpack(c.s, c.most, c.m); x != "" || e != c.want {
			t.Errorf("%s: %q %v, want %v", c.name, x, e, c.want)
		}
	}
}

// P11.1, P11.2: all rows of up to two bytes, and those of three that begin with
// a small size.
func TestAllShort(t *testing.T) {
	like(t, "")
	for a := range 256 {
		like(t, string([]byte{byte(a)}))
		for b := range 256 {
			like(t, string([]byte{byte(a), byte(b)}))
		}
	}
	for a := range 9 {
		for b := range 256 {
			for c := range 256 {
				like(t, string([]byte{byte(a), byte(b), byte(c)}))
			}
		}
	}
}

// P11.2, P11.3: all rows of a small size and up to five bytes, of some that
// make elements.
func TestAllRows(t *testing.T) {
	parts := []byte{0x00, 0x01, 0x02, 0x03, 0x04, 0x05, 0x06, 0x08, 0xf0}
	var rows func(s []byte, left int)
	laid := 0
	rows = func(s []byte, left int) {
		like(t, string(s))
		if _, e := snap.Unpack(string(s), 99, nil); e == api.OK {
			laid++
		}
		if left == 0 {
			return
		}
		for _, b := range parts {
			rows(append(s, b), left-1)
		}
	}
	for size := range 14 {
		rows([]byte{byte(size)}, 5)
	}
	if laid < 1000 {
		t.Errorf("just %d rows are blocks", laid)
	}
}

// whole are blocks to be cut and turned.
func whole() []string {
	x := mixed(70)
	return []string{
		block(0),
		block(5, lit(0, "abcde")),
		block(6, lit(0, "ab"), near(4, 2)),
		block(9, lit(0, "ab"), middle(3, 2), far(4, 5)),
		block(20, lit(0, "abc"), near(8, 1), lit(1, "x"), far(5, 4), middle(3, 17)),
		block(140, lit(1, x), middle(64, 70), lit(0, "abcdef")),
		block(12, lit(0, "a"), lit(1, "b"), lit(2, "c"), lit(3, "d"), lit(4, "e"), near(7, 5)),
		block(300, lit(2, mixed(260)), middle(20, 257), far(16, 259), near(4, 258)),
	}
}

// P11.2: blocks cut at each place: no beginning of one is another one.
func TestCut(t *testing.T) {
	for _, s := range whole() {
		if _, e := snap.Unpack(s, 999, nil); e != api.OK {
			t.Fatalf("%x: %v", s, e)
		}
		for i := range len(s) {
			like(t, s[:i])
			like(t, s[i:])
			fails(t, fmt.Sprintf("%x cut at %d", s, i), s[:i], api.ErrShort)
		}
	}
}

// P11.2: blocks with a byte turned, put in, left out, or told again.
func TestTurned(t *testing.T) {
	for _, s := range whole() {
		for i := range len(s) {
			like(t, s[:i]+s[i+1:])
			like(t, s[:i]+s[i:i+1]+s[i:])
			for b := range 256 {
				like(t, s[:i]+string([]byte{byte(b)})+s[i+1:])
				if len(s) < 100 {
					like(t, s[:i]+string([]byte{byte(b)})+s[i:])
				}
			}
		}
		for b := range 256 {
			like(t, s+string([]byte{byte(b)}))
		}
	}
}

// P11.2: rows of elements that don't care what fits.
func TestRows(t *testing.T) {
	x := uint32(7)
	next := func(n int) int {
		x = x*1664525 + 1013904223
		return int(x>>8) % n
	}
	for range 20000 {
		var l []string
		size := 0
		for range next(6) {
			n := 1 + next(9)
			l = append(l, []string{
				lit(next(5), mixed(n)),
				near(4+next(8), next(12)),
				middle(n, next(12)),
				far(n, next(12)),
				claim(next(5), n),
			}[next(5)])
			size += n
		}
		like(t, block(max(0, size+next(9)-3), l...))
	}
}

// Rule 1: whatever comes, a call ends, and lays no more than elements do: no
// room is made for a size, or a literal's, that is just claimed.
func TestTotal(t *testing.T) {
	great := 1<<32 - 1
	var ahead, behind runtime.MemStats
	runtime.ReadMemStats(&ahead)
	for _, s := range []string{
		block(great),
		block(great, claim(4, great)),
		block(great, claim(4, great), "abc"),
		block(great, lit(0, "a"), claim(4, great-1), "abc"),
		block(great, lit(0, "a"), far(64, 1)),
		block(great, lit(0, "a"), middle(64, 1), near(4, 65)),
	} {
		for _, m := range []*meter.Meter{nil, meter.New(math.MaxInt)} {
			for _, most := range []int{great, math.MaxInt} {
				if x, e := snap.Unpack(s, most, m); x != "" || e != api.ErrShort {
					t.Errorf("%x: %.20x %v", s, x, e)
				}
			}
		}
	}
	runtime.ReadMemStats(&behind)
	if laid := behind.TotalAlloc - ahead.TotalAlloc; laid > 1<<20 {
		t.Errorf("%d bytes were laid", laid)
	}
}

// Rule 1: bytes of no form at all.
func TestTotalAnyBytes(t *testing.T) {
	for _, n := range []int{10, 1000, 100000} {
		for b := range 256 {
			snap.Unpack(strings.Repeat(string([]byte{byte(b)}), n), math.MaxInt, nil)
		}
		s := mixed(n)
		for i := 0; i < n; i += 1 + n/100 {
			for _, most := range []int{math.MinInt, -1, 0, 1 << 20, math.MaxInt} {
				snap.Size(s[i:])
				snap.Unpack(s[i:], most, nil)
				snap.Unpack(s[i:], most, meter.New(most))
			}
		}
	}
}

// Rule 1: many elements, one behind the other.
func TestMany(t *testing.T) {
	const n = 200000
	unpacks(t, "literals", block(n, strings.Repeat(lit(0, "a"), n)), strings.Repeat("a", n))
	unpacks(t, "copies", block(1+64*n, lit(0, "a"), strings.Repeat(far(64, 1), n)), strings.Repeat("a", 1+64*n))
	fails(t, "copies, one too many", block(64*n, lit(0, "a"), strings.Repeat(far(64, 1), n)), api.ErrForm)
}

// Rule 5: an answer is new memory.
func TestMemory(t *testing.T) {
	for _, s := range []string{block(1, lit(0, "a")), block(300, lit(4, mixed(300))), block(7, lit(0, "abc"), near(4, 3))} {
		kept := strings.Clone(s)
		x, e := snap.Unpack(s, 999, nil)
		y, f := snap.Unpack(s, 999, nil)
		if e != api.OK || f != api.OK || x != y || s != kept {
			t.Fatalf("%x: %v %v", s, e, f)
		}
		from, to := uintptr(unsafe.Pointer(unsafe.StringData(s))), uintptr(unsafe.Pointer(unsafe.StringData(x)))
		if len(x) > 1 && (to >= from && to < from+uintptr(len(s)) || unsafe.StringData(x) == unsafe.StringData(y)) {
			t.Errorf("%x: memory is shared", s)
		}
	}
}

// Rule 6: an answer hangs on nothing but the arguments.
func TestAgain(t *testing.T) {
	l := whole()
	for s := range wrongs() {
		l = append(l, s)
	}
	slices.Sort(l)
	type answer struct {
		x string
		e api.Errno
	}
	ask := func(s string) answer {
		x, e := snap.Unpack(s, 999, meter.New(999))
		return answer{x, e}
	}
	ahead := map[string]answer{}
	for _, s := range l {
		ahead[s] = ask(s)
	}
	slices.Reverse(l)
	for _, s := range l {
		if ask(s) != ahead[s] {
			t.Errorf("%x: another answer", s)
		}
	}
}

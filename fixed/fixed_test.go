package fixed_test

import (
	"encoding/binary"
	"math"
	"math/big"
	"strings"
	"testing"

	"hatchway/api"
	"hatchway/fixed"
)

// numbers are those at which the count of digits changes, their neighbours,
// each lone byte in each place, and some whose digits all differ.
func numbers() []uint64 {
	all := []uint64{0, 1, math.MaxUint64, math.MaxInt64, 1 << 63, 0x0102030405060708, 0xf1e2d3c4b5a69788}
	for place := range 8 {
		first := uint64(1) << (8 * place)
		all = append(all, first-1, first, first+1, 0x0807060504030201>>(8*place), 0xff00ff00ff00ff00>>(8*place))
		for b := range uint64(256) {
			all = append(all, b<<(8*place))
		}
	}
	return all
}

// sizes are all that may be, and some that may not.
var sizes = []int{math.MinInt, -256, -8, -1, 0, 1, 2, 3, 4, 5, 6, 7, 8, 9, 10, 16, 64, 256, math.MaxInt}

// laid is what the chapter says of a number's bytes, told without the package:
// eight bytes by the library, of which those that would be cut off must be noughts.
func laid(n uint64, size int) (little, big string, e api.Errno) {
	if size < 1 || size > 8 {
		return "", "", api.ErrArg
	}
	l := string(binary.LittleEndian.AppendUint64(nil, n))
	b := string(binary.BigEndian.AppendUint64(nil, n))
	if strings.Trim(l[size:], "\x00") != "" {
		return "", "", api.ErrOver
	}
	return l[:size], b[8-size:], api.OK
}

// puts fails if the two ways to put n in that size answer something else.
func puts(t *testing.T, n uint64, size int, little, big string, e api.Errno) {
	t.Helper()
	if s, f := fixed.Little(n, size); s != little || f != e {
		t.Errorf("Little(%#x, %d): %x, %d; want %x, %d", n, size, s, f, little, e)
	}
	if s, f := fixed.Big(n, size); s != big || f != e {
		t.Errorf("Big(%#x, %d): %x, %d; want %x, %d", n, size, s, f, big, e)
	}
}

// P2.1: the chapter's examples, and the edges that it names.
func TestPut(t *testing.T) {
	for _, c := range []struct {
		n           uint64
		size        int
		little, big string
		e           api.Errno
	}{
		{258, 3, "\x02\x01\x00", "\x00\x01\x02", api.OK},
		{0, 1, "\x00", "\x00", api.OK},
		{0, 8, "\x00\x00\x00\x00\x00\x00\x00\x00", "\x00\x00\x00\x00\x00\x00\x00\x00", api.OK},
		{1, 8, "\x01\x00\x00\x00\x00\x00\x00\x00", "\x00\x00\x00\x00\x00\x00\x00\x01", api.OK},
		{127, 1, "\x7f", "\x7f", api.OK},
		{128, 1, "\x80", "\x80", api.OK},
		{255, 1, "\xff", "\xff", api.OK},
		{256, 1, "", "", api.ErrOver},
		{256, 2, "\x00\x01", "\x01\x00", api.OK},
		{65535, 2, "\xff\xff", "\xff\xff", api.OK},
		{65536, 2, "", "", api.ErrOver},
		{65536, 3, "\x00\x00\x01", "\x01\x00\x00", api.OK},
		{1<<56 - 1, 7, "\xff\xff\xff\xff\xff\xff\xff", "\xff\xff\xff\xff\xff\xff\xff", api.OK},
		{1 << 56, 7, "", "", api.ErrOver},
		{1 << 56, 8, "\x00\x00\x00\x00\x00\x00\x00\x01", "\x01\x00\x00\x00\x00\x00\x00\x00", api.OK},
		{0x0102030405060708, 8, "\x08\x07\x06\x05\x04\x03\x02\x01", "\x01\x02\x03\x04\x05\x06\x07\x08", api.OK},
		{math.MaxUint64, 8, strings.Repeat("\xff", 8), strings.Repeat("\xff", 8), api.OK},
		{math.MaxUint64, 7, "", "", api.ErrOver},
		{math.MaxUint64, 1, "", "", api.ErrOver},
	} {
		puts(t, c.n, c.size, c.little, c.big, c.e)
	}
}

// P2.1: a size that may not be is told first, whatever the number.
func TestPutOfAWrongSize(t *testing.T) {
	for _, size := range []int{math.MinInt, math.MinInt + 1, -9, -8, -1, 0, 9, 10, 16, 256, 264, math.MaxInt - 1, math.MaxInt} {
		for _, n := range []uint64{0, 1, 255, 256, math.MaxUint64} {
			puts(t, n, size, "", "", api.ErrArg)
		}
	}
}

// P2.1: every number in every size is what the library lays of it.
func TestPutOfMany(t *testing.T) {
	for _, n := range numbers() {
		for _, size := range sizes {
			little, big, e := laid(n, size)
			puts(t, n, size, little, big, e)
		}
	}
}

// P2.1: a number goes into just as many bytes as it has digits, and into no fewer.
func TestPutInJustEnough(t *testing.T) {
	for _, n := range numbers() {
		need := max(1, len(fixed.Least(n)))
		for size := 1; size <= 8; size++ {
			_, e := fixed.Little(n, size)
			_, f := fixed.Big(n, size)
			if (e == api.OK) != (size >= need) || e != f {
				t.Errorf("%#x in %d: %d and %d, needs %d", n, size, e, f, need)
			}
		}
	}
}

// P2.1: least bytes are the highest digit first, with no nought ahead; of 0 none.
func TestLeast(t *testing.T) {
	for n, want := range map[uint64]string{
		0: "", 1: "\x01", 127: "\x7f", 128: "\x80", 255: "\xff", 256: "\x01\x00", 258: "\x01\x02",
		65535: "\xff\xff", 65536: "\x01\x00\x00",
		1<<56 - 1: "\xff\xff\xff\xff\xff\xff\xff", 1 << 56: "\x01\x00\x00\x00\x00\x00\x00\x00",
		0x0102030405060708: "\x01\x02\x03\x04\x05\x06\x07\x08",
		math.MaxUint64:     strings.Repeat("\xff", 8),
	} {
		if s := fixed.Least(n); s != want {
			t.Errorf("Least(%#x): %x, want %x", n, s, want)
		}
	}
}

// P2.1: every number's least bytes are those that the library tells.
func TestLeastOfMany(t *testing.T) {
	for _, n := range numbers() {
		want := string(new(big.Int).SetUint64(n).Bytes())
		if s := fixed.Least(n); s != want {
			t.Errorf("Least(%#x): %x, want %x", n, s, want)
		}
	}
}

// gets fails if one of the three ways to get a number of s answers something else.
func gets(t *testing.T, s string, little, big, least uint64, e, f api.Errno) {
	t.Helper()
	if n, g := fixed.GetLittle(s); n != little || g != e {
		t.Errorf("GetLittle(%x): %#x, %d; want %#x, %d", s, n, g, little, e)
	}
	if n, g := fixed.GetBig(s); n != big || g != e {
		t.Errorf("GetBig(%x): %#x, %d; want %#x, %d", s, n, g, big, e)
	}
	if n, g := fixed.GetLeast(s); n != least || g != f {
		t.Errorf("GetLeast(%x): %#x, %d; want %#x, %d", s, n, g, least, f)
	}
}

// P2.2: the chapter's example, and the edges that it names.
func TestGet(t *testing.T) {
	for _, c := range []struct {
		s                  string
		little, big, least uint64
		e, f               api.Errno
	}{
		{"", 0, 0, 0, api.ErrArg, api.OK},
		{"\x00", 0, 0, 0, api.OK, api.ErrForm},
		{"\x01", 1, 1, 1, api.OK, api.OK},
		{"\x80", 128, 128, 128, api.OK, api.OK},
		{"\xff", 255, 255, 255, api.OK, api.OK},
		{"\x00\x01", 256, 1, 0, api.OK, api.ErrForm},
		{"\x01\x00", 1, 256, 256, api.OK, api.OK},
		{"\x01\x02", 513, 258, 258, api.OK, api.OK},
		{"\x00\x00", 0, 0, 0, api.OK, api.ErrForm},
		{"\x01\x00\x00", 1, 65536, 65536, api.OK, api.OK},
		{"\x01\x02\x03\x04\x05\x06\x07", 0x07060504030201, 0x01020304050607, 0x01020304050607, api.OK, api.OK},
		{"\x01\x02\x03\x04\x05\x06\x07\x08", 0x0807060504030201, 0x0102030405060708, 0x0102030405060708, api.OK, api.OK},
		{"\x00\x02\x03\x04\x05\x06\x07\x08", 0x0807060504030200, 0x02030405060708, 0, api.OK, api.ErrForm},
		{strings.Repeat("\xff", 8), math.MaxUint64, math.MaxUint64, math.MaxUint64, api.OK, api.OK},
		{strings.Repeat("\x00", 8), 0, 0, 0, api.OK, api.ErrForm},
	} {
		gets(t, c.s, c.little, c.big, c.least, c.e, c.f)
	}
}

// P2.2: more than eight bytes are over, ahead of a nought that they begin with, and whatever they tell.
func TestGetOfTooMany(t *testing.T) {
	for _, many := range []int{9, 10, 16, 255, 256, 257, 264, 65536, 1 << 20} {
		for _, b := range []string{"\x00", "\x01", "\xff"} {
			gets(t, strings.Repeat(b, many), 0, 0, 0, api.ErrOver, api.ErrOver)
		}
		gets(t, "\x00"+strings.Repeat("\x01", many-1), 0, 0, 0, api.ErrOver, api.ErrOver)
		gets(t, strings.Repeat("\x00", many-1)+"\x01", 0, 0, 0, api.ErrOver, api.ErrOver)
		gets(t, "\x01"+strings.Repeat("\x00", many-1), 0, 0, 0, api.ErrOver, api.ErrOver)
	}
}

// P2.2: all texts of one byte and of two.
func TestGetOfAllShort(t *testing.T) {
	for a := range uint64(256) {
		least, f := a, api.OK
		if a == 0 {
			f = api.ErrForm
		}
		gets(t, string([]byte{byte(a)}), a, a, least, api.OK, f)
		for b := range uint64(256) {
			n := 256*a + b
			if a != 0 {
				least = n
			}
			gets(t, string([]byte{byte(a), byte(b)}), a+256*b, n, least, api.OK, f)
		}
	}
}

// P2.2: a single byte in each place of each size, the noughts around it kept.
func TestGetOfEveryPlace(t *testing.T) {
	for size := 1; size <= 8; size++ {
		for place := range size {
			for b := 1; b < 256; b++ {
				s := make([]byte, size)
				s[place] = byte(b)
				little, big := uint64(b)<<(8*place), uint64(b)<<(8*(size-1-place))
				if place == 0 {
					gets(t, string(s), little, big, big, api.OK, api.OK)
				} else {
					gets(t, string(s), little, big, 0, api.OK, api.ErrForm)
				}
			}
		}
	}
}

// P2.3: what is put is got again, in every size that it fits.
func TestWhatIsPutIsGot(t *testing.T) {
	for _, n := range numbers() {
		for size := 1; size <= 8; size++ {
			if s, e := fixed.Little(n, size); e == api.OK {
				if m, f := fixed.GetLittle(s); len(s) != size || m != n || f != api.OK {
					t.Errorf("little %#x in %d: %x, got %#x, %d", n, size, s, m, f)
				}
			}
			if s, e := fixed.Big(n, size); e == api.OK {
				if m, f := fixed.GetBig(s); len(s) != size || m != n || f != api.OK {
					t.Errorf("big %#x in %d: %x, got %#x, %d", n, size, s, m, f)
				}
			}
		}
		if m, e := fixed.GetLeast(fixed.Least(n)); m != n || e != api.OK {
			t.Errorf("least %#x: got %#x, %d", n, m, e)
		}
	}
}

// P2.3: least bytes are got by GetBig, too, but of 0.
func TestLeastIsGotByBig(t *testing.T) {
	for _, n := range numbers() {
		want := api.OK
		if n == 0 {
			want = api.ErrArg
		}
		if m, e := fixed.GetBig(fixed.Least(n)); m != n || e != want {
			t.Errorf("%#x: got %#x, %d", n, m, e)
		}
	}
}

// P2.3: what is got is what those bytes are put of, and of least bytes there are no others.
func TestWhatIsGotIsPut(t *testing.T) {
	for size := 1; size <= 8; size++ {
		for _, n := range numbers() {
			s := string(binary.BigEndian.AppendUint64(nil, n))[8-size:]
			little, e := fixed.GetLittle(s)
			big, f := fixed.GetBig(s)
			l, g := fixed.Little(little, size)
			b, h := fixed.Big(big, size)
			if l != s || b != s || e != api.OK || f != api.OK || g != api.OK || h != api.OK {
				t.Errorf("%x: %x, %x; %d %d %d %d", s, l, b, e, f, g, h)
			}
			least, k := fixed.GetLeast(s)
			if (k == api.OK) != (fixed.Least(big) == s) || k == api.OK && least != big {
				t.Errorf("%x: least %#x, %d; big %#x", s, least, k, big)
			}
		}
	}
}

package compact_test

import (
	"encoding/binary"
	"math"
	"strings"
	"testing"

	"hatchway/api"
	"hatchway/compact"
	"hatchway/cursor"
)

// greatest is the bytes of the greatest number.
const greatest = "\xff\xff\xff\xff\xff\xff\xff\xff\xff"

// numbers are those at which the size changes, their neighbours, all of one
// byte, each lone byte and each lone bit in each place, and some whose digits
// all differ.
func numbers() []uint64 {
	all := []uint64{math.MaxUint64, math.MaxUint64 - 1, math.MaxInt64, 0x0102030405060708, 0xf1e2d3c4b5a69788}
	for n := range uint64(520) {
		all = append(all, n)
	}
	for place := range 8 {
		first := uint64(1) << (8 * place)
		all = append(all, first-2, first-1, first, first+1, first+2, 0x0807060504030201>>(8*place), 0xff00ff00ff00ff00>>(8*place))
		for b := range uint64(256) {
			all = append(all, b<<(8*place))
		}
	}
	for bit := range 64 {
		all = append(all, 1<<bit)
	}
	return all
}

// laid is what the chapter says of a number's bytes, with the library's little bytes.
func laid(n uint64) string {
	if n < 253 {
		return string([]byte{byte(n)})
	}
	if n < 1<<16 {
		return string(binary.LittleEndian.AppendUint16([]byte{253}, uint16(n)))
	}
	if n < 1<<32 {
		return string(binary.LittleEndian.AppendUint32([]byte{254}, uint32(n)))
	}
	return string(binary.LittleEndian.AppendUint64([]byte{255}, n))
}

// told is what the chapter says of bytes that begin with a number's.
func told(s string) (uint64, int, api.Errno) {
	if s == "" {
		return 0, 0, api.ErrShort
	}
	size := map[byte]int{253: 3, 254: 5, 255: 9}[s[0]]
	if size == 0 {
		return uint64(s[0]), 1, api.OK
	}
	if len(s) < size {
		return 0, 0, api.ErrShort
	}
	var eight [8]byte
	copy(eight[:], s[1:size])
	n := binary.LittleEndian.Uint64(eight[:])
	if laid(n) != s[:size] {
		return 0, 0, api.ErrForm
	}
	return n, size, api.OK
}

// texts are all texts of up to six bytes out of those at which something
// changes, and behind each first byte that says four or eight, and some of
// these, all texts of up to five.
func texts() []string {
	all := grown("", "\x00\x01\xfc\xfd\xfe\xff", 6)
	for _, head := range []string{"\xfe\x00", "\xfe\xff", "\xff\x00\x00\x00", "\xff\xff\xff\xff", "\xff\xfc\x00\x00\x00", "\xff\x00\x00\x00\x80"} {
		all = append(all, grown(head, "\x00\x01\x80\xff", 6)...)
	}
	return all
}

// grown is head, and all texts that begin with it and go on by up to n of these bytes.
func grown(head, bytes string, n int) []string {
	all := []string{head}
	if n == 0 {
		return all
	}
	for i := range len(bytes) {
		all = append(all, grown(head+bytes[i:i+1], bytes, n-1)...)
	}
	return all
}

// nexts fails if Next answers something else.
func nexts(t *testing.T, s string, n uint64, size int, e api.Errno) {
	t.Helper()
	if m, k, f := compact.Next(s); m != n || k != size || f != e {
		t.Errorf("Next(%x): %d, %d, %d; want %d, %d, %d", s, m, k, f, n, size, e)
	}
}

// reads fails if a reader of s, asked for a number of at most most, answers
// something else, or isn't then behind at bytes with that fault.
func reads(t *testing.T, s string, most, n uint64, at int, fault api.Errno) {
	t.Helper()
	r := cursor.Read(s)
	m := compact.Read(r, most)
	if m != n || r.At() != at || r.Left() != len(s)-at || r.Fault() != fault {
		t.Errorf("Read(%x, %d): %d, at %d, left %d, fault %d; want %d, at %d, fault %d", s, most, m, r.At(), r.Left(), r.Fault(), n, at, fault)
	}
}

// P4.1: the chapter's example, and the edges that it names.
func TestPut(t *testing.T) {
	for n, want := range map[uint64]string{
		0:                  "\x00",
		1:                  "\x01",
		127:                "\x7f",
		128:                "\x80",
		251:                "\xfb",
		252:                "\xfc",
		253:                "\xfd\xfd\x00",
		254:                "\xfd\xfe\x00",
		255:                "\xfd\xff\x00",
		256:                "\xfd\x00\x01",
		300:                "\xfd\x2c\x01",
		1<<16 - 1:          "\xfd\xff\xff",
		1 << 16:            "\xfe\x00\x00\x01\x00",
		1<<24 - 1:          "\xfe\xff\xff\xff\x00",
		0x01020304:         "\xfe\x04\x03\x02\x01",
		1 << 31:            "\xfe\x00\x00\x00\x80",
		1<<32 - 1:          "\xfe\xff\xff\xff\xff",
		1 << 32:            "\xff\x00\x00\x00\x00\x01\x00\x00\x00",
		0x0102030405060708: "\xff\x08\x07\x06\x05\x04\x03\x02\x01",
		1 << 63:            "\xff\x00\x00\x00\x00\x00\x00\x00\x80",
		math.MaxUint64 - 1: "\xff\xfe\xff\xff\xff\xff\xff\xff\xff",
		math.MaxUint64:     greatest,
	} {
		if s := compact.Put(n); s != want {
			t.Errorf("Put(%d): %x, want %x", n, s, want)
		}
	}
}

// P4.1: every number's bytes are those that the library lays behind its first byte.
func TestPutOfMany(t *testing.T) {
	for _, n := range numbers() {
		if s, want := compact.Put(n), laid(n); s != want {
			t.Errorf("Put(%d): %x, want %x", n, s, want)
		}
	}
}

// P4.1: the size changes just behind the last number below each bound.
func TestPutAtEachBound(t *testing.T) {
	for bound, sizes := range map[uint64][2]int{253: {1, 3}, 1 << 16: {3, 5}, 1 << 32: {5, 9}} {
		if a, b := len(compact.Put(bound-1)), len(compact.Put(bound)); a != sizes[0] || b != sizes[1] {
			t.Errorf("below %d %d bytes, of it %d; want %v", bound, a, b, sizes)
		}
	}
}

// P4.1: the chapter's examples, and the edges that it names.
func TestNext(t *testing.T) {
	for _, c := range []struct {
		s    string
		n    uint64
		size int
		e    api.Errno
	}{
		{"", 0, 0, api.ErrShort},
		{"\x00", 0, 1, api.OK},
		{"\x01", 1, 1, api.OK},
		{"\xfb", 251, 1, api.OK},
		{"\xfc", 252, 1, api.OK},
		{"\xfc\x00", 252, 1, api.OK},
		{"\xfd", 0, 0, api.ErrShort},
		{"\xfd\xfd", 0, 0, api.ErrShort},
		{"\xfd\xfd\x00", 253, 3, api.OK},
		{"\xfd\x00\x01", 256, 3, api.OK},
		{"\xfd\xff\xff", 1<<16 - 1, 3, api.OK},
		{"\xfe", 0, 0, api.ErrShort},
		{"\xfe\x00\x00\x01", 0, 0, api.ErrShort},
		{"\xfe\x00\x00\x01\x00", 1 << 16, 5, api.OK},
		{"\xfe\x04\x03\x02\x01", 0x01020304, 5, api.OK},
		{"\xfe\xff\xff\xff\xff", 1<<32 - 1, 5, api.OK},
		{"\xff", 0, 0, api.ErrShort},
		{"\xff\x00\x00\x00\x00\x01\x00\x00", 0, 0, api.ErrShort},
		{"\xff\x00\x00\x00\x00\x01\x00\x00\x00", 1 << 32, 9, api.OK},
		{"\xff\x08\x07\x06\x05\x04\x03\x02\x01", 0x0102030405060708, 9, api.OK},
		{greatest[:8], 0, 0, api.ErrShort},
		{greatest, math.MaxUint64, 9, api.OK},
		{"\xfd\x01\x00", 0, 0, api.ErrForm},
		{"\xfd\x00\x00", 0, 0, api.ErrForm},
		{"\xfd\xfc\x00", 0, 0, api.ErrForm},
		{"\xfe\x00\x00\x00\x00", 0, 0, api.ErrForm},
		{"\xfe\xfc\x00\x00\x00", 0, 0, api.ErrForm},
		{"\xfe\xfd\x00\x00\x00", 0, 0, api.ErrForm},
		{"\xfe\xff\xff\x00\x00", 0, 0, api.ErrForm},
		{"\xff\x00\x00\x00\x00\x00\x00\x00\x00", 0, 0, api.ErrForm},
		{"\xff\xfc\x00\x00\x00\x00\x00\x00\x00", 0, 0, api.ErrForm},
		{"\xff\xff\xff\x00\x00\x00\x00\x00\x00", 0, 0, api.ErrForm},
		{"\xff\x00\x00\x01\x00\x00\x00\x00\x00", 0, 0, api.ErrForm},
		{"\xff\xff\xff\xff\xff\x00\x00\x00\x00", 0, 0, api.ErrForm},
	} {
		nexts(t, c.s, c.n, c.size, c.e)
	}
}

// P4.1: each first byte with as many bytes as it says, with one fewer, with
// none behind it, and with more.
func TestNextOfEachFirstByte(t *testing.T) {
	for b := range 256 {
		first := string([]byte{byte(b)})
		says := 0
		switch b {
		case 253:
			says = 2
		case 254:
			says = 4
		case 255:
			says = 8
		}
		for behind := range says {
			nexts(t, first+greatest[:behind], 0, 0, api.ErrShort)
			nexts(t, first+strings.Repeat("\x00", behind), 0, 0, api.ErrShort)
		}
		n := uint64(b)
		if says > 0 {
			n = math.MaxUint64 >> (64 - 8*says)
		}
		for behind := says; behind <= 9; behind++ {
			nexts(t, first+greatest[:behind], n, 1+says, api.OK)
		}
	}
}

// P4.1: a number that has fewer bytes than its first byte says is wrong when
// it is whole, and short as long as it is cut.
func TestNextOfTooManyBytes(t *testing.T) {
	for _, n := range numbers() {
		little := string(binary.LittleEndian.AppendUint64(nil, n))
		for first, says := range map[string]int{"\xfd": 2, "\xfe": 4, "\xff": 8} {
			s := first + little[:says]
			if strings.Trim(little[says:], "\x00") != "" || len(laid(n)) == len(s) {
				continue
			}
			nexts(t, s, 0, 0, api.ErrForm)
			nexts(t, s+"\x01", 0, 0, api.ErrForm)
			for size := range len(s) {
				nexts(t, s[:size], 0, 0, api.ErrShort)
			}
		}
	}
}

// P4.1: bytes that end ahead of as many as the first one says are short, of every number.
func TestNextOfTooFew(t *testing.T) {
	for _, n := range numbers() {
		s := laid(n)
		for size := range len(s) {
			nexts(t, s[:size], 0, 0, api.ErrShort)
		}
	}
}

// P4.1: bytes behind a number's play no part.
func TestNextWithMoreBehind(t *testing.T) {
	for _, n := range numbers() {
		s := laid(n)
		for _, behind := range []string{"", "\x00", "\x01", "\xfc", "\xfd", "\xfd\x00\x00", "\xff", greatest, strings.Repeat("\x00", 12), strings.Repeat("\xff", 1000)} {
			nexts(t, s+behind, n, len(s), api.OK)
		}
	}
}

// P4.1: all texts of one byte and of two, and all of three with 253 ahead.
func TestNextOfAllShort(t *testing.T) {
	for a := range 256 {
		for b := range 256 {
			two := string([]byte{byte(a), byte(b)})
			for _, s := range []string{two[:1], two, "\xfd" + two} {
				n, size, e := told(s)
				nexts(t, s, n, size, e)
			}
		}
	}
}

// P4.1: texts of every length, held against the chapter's words.
func TestNextOfMany(t *testing.T) {
	for _, s := range texts() {
		n, size, e := told(s)
		nexts(t, s, n, size, e)
	}
}

// P4.2: a number that is at most most is passed, and no more.
func TestRead(t *testing.T) {
	reads(t, "\x00", 0, 0, 1, api.OK)
	reads(t, "\x01", 0, 0, 0, api.ErrOver)
	reads(t, "\x01", 1, 1, 1, api.OK)
	reads(t, "\xfc", 251, 0, 0, api.ErrOver)
	reads(t, "\xfc\xfd", 252, 252, 1, api.OK)
	reads(t, "\xfd\xfd\x00", 252, 0, 0, api.ErrOver)
	reads(t, "\xfd\xfd\x00", 253, 253, 3, api.OK)
	reads(t, "\xfd\x00\x01\x05", math.MaxUint64, 256, 3, api.OK)
	reads(t, "\xfe\x00\x00\x01\x00", 1<<16-1, 0, 0, api.ErrOver)
	reads(t, "\xfe\x00\x00\x01\x00", 1<<16, 1<<16, 5, api.OK)
	reads(t, "\xff\x00\x00\x00\x00\x01\x00\x00\x00", 1<<32-1, 0, 0, api.ErrOver)
	reads(t, "\xff\x00\x00\x00\x00\x01\x00\x00\x00", 1<<32, 1<<32, 9, api.OK)
	reads(t, greatest, 0, 0, 0, api.ErrOver)
	reads(t, greatest, math.MaxUint64-1, 0, 0, api.ErrOver)
	reads(t, greatest, math.MaxUint64, math.MaxUint64, 9, api.OK)
	reads(t, greatest+greatest, math.MaxUint64, math.MaxUint64, 9, api.OK)
	reads(t, "\x07"+strings.Repeat("\xff", 1<<20), 9, 7, 1, api.OK)
}

// P4.2: just at most, one below it, and one above.
func TestReadAroundMost(t *testing.T) {
	for _, n := range numbers() {
		s := laid(n)
		reads(t, s+"\xfd", n, n, len(s), api.OK)
		reads(t, s, math.MaxUint64, n, len(s), api.OK)
		if n > 0 {
			reads(t, s+"\xfd", n-1, 0, 0, api.ErrOver)
			reads(t, s, 0, 0, 0, api.ErrOver)
		}
		if n < math.MaxUint64 {
			reads(t, s, n+1, n, len(s), api.OK)
		}
	}
}

// P4.2: Next's error is faulted, whatever most is; nothing is passed.
func TestReadOfNoNumber(t *testing.T) {
	for s, fault := range map[string]api.Errno{
		"":                     api.ErrShort,
		"\xfd":                 api.ErrShort,
		"\xfd\xff":             api.ErrShort,
		"\xfd\x00":             api.ErrShort,
		"\xfe\xff\xff\xff":     api.ErrShort,
		greatest[:8]:           api.ErrShort,
		"\xfd\xfc\x00":         api.ErrForm,
		"\xfd\x00\x00\x07":     api.ErrForm,
		"\xfe\xff\xff\x00\x00": api.ErrForm,
		"\xff\xff\xff\xff\xff" + "\x00\x00\x00\x00": api.ErrForm,
		"\xff" + strings.Repeat("\x00", 1<<20):      api.ErrForm,
	} {
		for _, most := range []uint64{0, 1, 252, 253, 300, math.MaxUint64} {
			reads(t, s, most, 0, 0, fault)
		}
	}
}

// P4.2: what a reader tells is what Next tells, or over.
func TestReadIsNext(t *testing.T) {
	for _, s := range texts() {
		for _, most := range []uint64{0, 252, 253, 1<<16 - 1, 1 << 16, 1<<32 - 1, 1 << 32, math.MaxUint64} {
			n, size, e := compact.Next(s)
			if e == api.OK && n > most {
				n, size, e = 0, 0, api.ErrOver
			}
			reads(t, s, most, n, size, e)
		}
	}
}

// P4.2: it reads on from where the reader stands, number by number.
func TestReadOneBehindTheOther(t *testing.T) {
	var all strings.Builder
	for _, n := range numbers() {
		all.WriteString("|" + laid(n))
	}
	r, at := cursor.Read(all.String()), 0
	for _, n := range numbers() {
		r.Byte()
		at += 1 + len(laid(n))
		if m := compact.Read(r, n); m != n || r.At() != at || r.Fault() != api.OK {
			t.Fatalf("%d: %d, at %d, want %d, fault %d", n, m, r.At(), at, r.Fault())
		}
	}
	if compact.Read(r, 1) != 0 || r.At() != at || r.Left() != 0 || r.Fault() != api.ErrShort {
		t.Errorf("behind the last: at %d, fault %d", r.At(), r.Fault())
	}
}

// P4.2: a fault amid the bytes leaves the reader where the number begins, and stays.
func TestReadFaultsWhereItStands(t *testing.T) {
	for s, fault := range map[string]api.Errno{"\xfd\x01": api.ErrShort, "\xfd\x01\x00": api.ErrForm, "\xfd\x2c\x01": api.ErrOver} {
		r := cursor.Read("ab" + s)
		r.Take(2)
		for _, most := range []uint64{299, math.MaxUint64} {
			if n := compact.Read(r, most); n != 0 || r.At() != 2 || r.Left() != len(s) || r.Fault() != fault {
				t.Errorf("%x: %d, at %d, left %d, fault %d", s, n, r.At(), r.Left(), r.Fault())
			}
		}
	}
}

// P4.2: of a reader that faulted 0 is told, whatever stands next; its fault stays.
func TestReadOfAFaultedReader(t *testing.T) {
	for e := api.ErrArg; e <= api.ErrType; e++ {
		for _, s := range []string{"", "\x05", "\xfd\x2c\x01", "\xfd\x01", "\xfd\x01\x00", greatest} {
			r := cursor.Read("a" + s)
			r.Byte()
			r.Fail(e)
			for _, most := range []uint64{0, 5, math.MaxUint64} {
				if n := compact.Read(r, most); n != 0 || r.At() != 1 || r.Left() != len(s) || r.Fault() != e {
					t.Errorf("%x behind %d: %d, at %d, left %d, fault %d", s, e, n, r.At(), r.Left(), r.Fault())
				}
			}
		}
	}
}

// P4.2: of nil 0 is told, whatever most is.
func TestReadOfNil(t *testing.T) {
	for _, most := range []uint64{0, 1, math.MaxUint64} {
		if n := compact.Read(nil, most); n != 0 {
			t.Errorf("of nil, at most %d: %d", most, n)
		}
	}
}

// P4.2: a reader that nothing was read into is one of no bytes.
func TestReadOfAZeroReader(t *testing.T) {
	var r cursor.Reader
	if n := compact.Read(&r, 1); n != 0 || r.Fault() != api.ErrShort {
		t.Errorf("%d, fault %d", n, r.Fault())
	}
}

// P4.3: what is put is told again, and passed whole.
func TestWhatIsPutIsTold(t *testing.T) {
	for _, n := range numbers() {
		s := compact.Put(n)
		nexts(t, s, n, len(s), api.OK)
		reads(t, s, n, n, len(s), api.OK)
	}
}

// P4.3: bytes that are told as a number are what is put of it: no others are told as it.
func TestNoOtherBytesAreTold(t *testing.T) {
	for _, s := range texts() {
		if n, size, e := compact.Next(s); e == api.OK && compact.Put(n) != s[:size] {
			t.Errorf("%x is told as %d, whose bytes are %x", s[:size], n, compact.Put(n))
		}
	}
}

// P4.3: each beginning is short, or tells what all tell; and what is less than
// a number's bytes is short.
func TestABeginningIsShortOrTellsAll(t *testing.T) {
	for _, s := range texts() {
		for _, behind := range []string{"", "\x00", "\x01", "\xfc", "\xff", "\x00\x00", greatest} {
			n, size, e := compact.Next(s + behind)
			for end := range len(s) + 1 {
				m, k, f := compact.Next(s[:end])
				if f != api.ErrShort && (m != n || k != size || f != e) {
					t.Errorf("%x: %d, %d, %d; but of %x: %d, %d, %d", s[:end], m, k, f, s+behind, n, size, e)
				}
				if e == api.OK && end < size && f != api.ErrShort {
					t.Errorf("%x is the beginning of %x: %d", s[:end], s, f)
				}
			}
		}
	}
}

// P4.3: what is short goes on to be a number's bytes.
func TestWhatIsShortGoesOn(t *testing.T) {
	for _, s := range texts() {
		if _, _, e := compact.Next(s); e != api.ErrShort {
			continue
		}
		whole := s
		for e := api.ErrShort; e == api.ErrShort && len(whole) < 9; _, _, e = compact.Next(whole) {
			whole += "\x01"
		}
		if n, size, e := compact.Next(whole); e != api.OK || size != len(whole) || compact.Put(n) != whole {
			t.Errorf("%x: %d, %d, %d", whole, n, size, e)
		}
	}
}

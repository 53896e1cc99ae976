package leb_test

import (
	"encoding/binary"
	"math"
	"strings"
	"testing"

	"hatchway/api"
	"hatchway/cursor"
	"hatchway/leb"
)

// greatest is the bytes of the greatest number.
const greatest = "\xff\xff\xff\xff\xff\xff\xff\xff\xff\x01"

// numbers are those at which the count of digits changes, their neighbours,
// each lone digit in each place, each lone bit, and some whose digits all differ.
func numbers() []uint64 {
	all := []uint64{0, 1, 300, math.MaxUint64, math.MaxUint64 - 1, math.MaxInt64, 0x0102030405060708, 0xf1e2d3c4b5a69788}
	for place := range 10 {
		first := uint64(1) << (7 * place)
		all = append(all, first-1, first, first+1, 0x0807060504030201>>(7*place))
		for d := range uint64(128) {
			all = append(all, d<<(7*place))
		}
	}
	for bit := range 64 {
		all = append(all, 1<<bit)
	}
	return all
}

// laid is a number's bytes as the library lays them.
func laid(n uint64) string {
	return string(binary.AppendUvarint(nil, n))
}

// texts are all texts of up to six bytes out of those at which something
// changes, and behind seven or eight marked digits all texts of up to four.
func texts() []string {
	all := grown("", "\x00\x01\x7f\x80\x81\xff", 6)
	for _, head := range []string{strings.Repeat("\x80", 7), strings.Repeat("\x80", 8), strings.Repeat("\xff", 8), "\x81\x80\xff\x80\x82\x80\x80\x90"} {
		all = append(all, grown(head, "\x00\x01\x02\x03\x7f\x80\x81\x82\xff", 4)...)
	}
	return all
}

// grown is head, and all texts that begin with it and go on by up to n of these bytes.
func grown(head, bytes string, n int) []string {
	all := []string{head}
	if n == 0 {
		return all
	}
	for i := range len(bytes) {
		all = append(all, grown(head+bytes[i:i+1], bytes, n-1)...)
	}
	return all
}

// told is what the chapter says of bytes that begin with a number's, found by
// trying: some number's bytes begin with these, or are these, or neither.
func told(s string) (n uint64, size int, e api.Errno) {
	for size = 1; size <= len(s); size++ {
		if s[size-1] < 128 {
			n, read := binary.Uvarint([]byte(s[:size]))
			if read != size || laid(n) != s[:size] {
				return 0, 0, api.ErrForm
			}
			return n, size, api.OK
		}
		// With the least digit that may be last behind it, it must be a number.
		if _, read := binary.Uvarint([]byte(s[:size] + "\x01")); read <= 0 {
			return 0, 0, api.ErrForm
		}
	}
	return 0, 0, api.ErrShort
}

// nexts fails if Next answers something else.
func nexts(t *testing.T, s string, n uint64, size int, e api.Errno) {
	t.Helper()
	if m, k, f := leb.Next(s); m != n || k != size || f != e {
		t.Errorf("Next(%x): %d, %d, %d; want %d, %d, %d", s, m, k, f, n, size, e)
	}
}

// reads fails if a reader of s, asked for a number of at most most, answers
// something else, or isn't then behind at bytes with that fault.
func reads(t *testing.T, s string, most, n uint64, at int, fault api.Errno) {
	t.Helper()
	r := cursor.Read(s)
	m := leb.Read(r, most)
	if m != n || r.At() != at || r.Left() != len(s)-at || r.Fault() != fault {
		t.Errorf("Read(%x, %d): %d, at %d, left %d, fault %d; want %d, at %d, fault %d", s, most, m, r.At(), r.Left(), r.Fault(), n, at, fault)
	}
}

// P3.1: the chapter's example, and the edges that it names.
func TestPut(t *testing.T) {
	for n, want := range map[uint64]string{
		0:                  "\x00",
		1:                  "\x01",
		127:                "\x7f",
		128:                "\x80\x01",
		129:                "\x81\x01",
		255:                "\xff\x01",
		256:                "\x80\x02",
		300:                "\xac\x02",
		16383:              "\xff\x7f",
		16384:              "\x80\x80\x01",
		1<<21 - 1:          "\xff\xff\x7f",
		1 << 21:            "\x80\x80\x80\x01",
		1 << 32:            "\x80\x80\x80\x80\x10",
		1<<56 - 1:          "\xff\xff\xff\xff\xff\xff\xff\x7f",
		1 << 56:            "\x80\x80\x80\x80\x80\x80\x80\x80\x01",
		1<<63 - 1:          "\xff\xff\xff\xff\xff\xff\xff\xff\x7f",
		1 << 63:            "\x80\x80\x80\x80\x80\x80\x80\x80\x80\x01",
		math.MaxUint64 - 1: "\xfe\xff\xff\xff\xff\xff\xff\xff\xff\x01",
		math.MaxUint64:     greatest,
	} {
		if s := leb.Put(n); s != want || leb.Size(n) != len(want) {
			t.Errorf("Put(%d): %x, size %d; want %x", n, s, leb.Size(n), want)
		}
	}
}

// P3.1: every number's bytes are those that the library lays, and Size counts them.
func TestPutOfMany(t *testing.T) {
	for _, n := range numbers() {
		want := laid(n)
		if s := leb.Put(n); s != want || leb.Size(n) != len(want) {
			t.Errorf("Put(%d): %x, size %d; want %x", n, s, leb.Size(n), want)
		}
	}
}

// P3.1: the size grows by one just where one more digit is needed.
func TestSizeAtEachCount(t *testing.T) {
	for digits := 1; digits <= 9; digits++ {
		last := uint64(1)<<(7*digits) - 1
		if a, b := leb.Size(last), leb.Size(last+1); a != digits || b != digits+1 {
			t.Errorf("Size(%d): %d, of one more %d; want %d and one more", last, a, b, digits)
		}
	}
	if a, b := leb.Size(0), leb.Size(math.MaxUint64); a != 1 || b != 10 {
		t.Errorf("of 0 %d, of the greatest %d", a, b)
	}
}

// P3.2: the chapter's examples, and the edges that it names.
func TestNext(t *testing.T) {
	nine := strings.Repeat("\x80", 9)
	for _, c := range []struct {
		s    string
		n    uint64
		size int
		e    api.Errno
	}{
		{"\x00", 0, 1, api.OK},
		{"\x01", 1, 1, api.OK},
		{"\x7f", 127, 1, api.OK},
		{"\xac\x02", 300, 2, api.OK},
		{"\x80\x01", 128, 2, api.OK},
		{"\x80\x80\x01", 16384, 3, api.OK},
		{"\xff\x80\x7f", 127 + 127<<14, 3, api.OK},
		{"\xff\xff\xff\xff\xff\xff\xff\xff\x7f", math.MaxInt64, 9, api.OK},
		{nine + "\x01", 1 << 63, 10, api.OK},
		{greatest, math.MaxUint64, 10, api.OK},
		{"", 0, 0, api.ErrShort},
		{"\x80", 0, 0, api.ErrShort},
		{"\xff", 0, 0, api.ErrShort},
		{"\x80\x80", 0, 0, api.ErrShort},
		{nine, 0, 0, api.ErrShort},
		{greatest[:9], 0, 0, api.ErrShort},
		{"\x80\x00", 0, 0, api.ErrForm},
		{"\x81\x00", 0, 0, api.ErrForm},
		{"\xff\x80\x00", 0, 0, api.ErrForm},
		{"\x81\x80\x00\x01", 0, 0, api.ErrForm},
		{nine + "\x00", 0, 0, api.ErrForm},
		{nine + "\x02", 0, 0, api.ErrForm},
		{nine + "\x7f", 0, 0, api.ErrForm},
		{nine + "\x80", 0, 0, api.ErrForm},
		{nine + "\x81", 0, 0, api.ErrForm},
		{nine + "\x80\x00", 0, 0, api.ErrForm},
		{nine + "\x81\x00", 0, 0, api.ErrForm},
		{greatest[:9] + "\x03", 0, 0, api.ErrForm},
		{strings.Repeat("\xff", 10), 0, 0, api.ErrForm},
		{strings.Repeat("\x80", 1<<20), 0, 0, api.ErrForm},
	} {
		nexts(t, c.s, c.n, c.size, c.e)
	}
}

// P3.2: each tenth byte, behind noughts and behind the greatest digits.
func TestNextOfEachTenthByte(t *testing.T) {
	for _, nine := range []string{strings.Repeat("\x80", 9), strings.Repeat("\xff", 9)} {
		for b := range 256 {
			n, size, e := uint64(0), 0, api.ErrForm
			if b == 1 {
				n, size, e = 1<<63, 10, api.OK
				if nine[0] == 0xff {
					n = math.MaxUint64
				}
			}
			nexts(t, nine+string([]byte{byte(b)}), n, size, e)
		}
	}
}

// P3.2: a last digit of 0 is wrong in each place but the first.
func TestNextOfALastNought(t *testing.T) {
	nexts(t, "\x00", 0, 1, api.OK)
	for ahead := 1; ahead <= 9; ahead++ {
		for _, b := range []string{"\x80", "\x81", "\xff"} {
			nexts(t, strings.Repeat(b, ahead)+"\x00", 0, 0, api.ErrForm)
		}
	}
}

// P3.2: a marked nought isn't wrong, as a digit above 0 may come behind it.
func TestNextOfNoughtsWithin(t *testing.T) {
	for ahead := 0; ahead <= 8; ahead++ {
		s := "\x85" + strings.Repeat("\x80", ahead)
		nexts(t, s, 0, 0, api.ErrShort)
		nexts(t, s+"\x01", 5+1<<(7*(ahead+1)), ahead+2, api.OK)
	}
}

// P3.2: bytes that end ahead of the last digit are short, of every number.
func TestNextOfTooFew(t *testing.T) {
	for _, n := range numbers() {
		s := laid(n)
		for size := range len(s) {
			nexts(t, s[:size], 0, 0, api.ErrShort)
		}
	}
}

// P3.2: bytes behind a number's play no part.
func TestNextWithMoreBehind(t *testing.T) {
	for _, n := range numbers() {
		s := laid(n)
		for _, behind := range []string{"", "\x00", "\x01", "\x80", "\xff", "\x80\x00", greatest, strings.Repeat("\x80", 12), strings.Repeat("\xff", 1000)} {
			nexts(t, s+behind, n, len(s), api.OK)
		}
	}
}

// P3.2: all texts of one byte and of two.
func TestNextOfAllShort(t *testing.T) {
	for a := range 256 {
		for b := range 256 {
			s := string([]byte{byte(a), byte(b)})
			n, size, e := told(s)
			nexts(t, s, n, size, e)
		}
		s := string([]byte{byte(a)})
		n, size, e := told(s)
		nexts(t, s, n, size, e)
	}
}

// P3.2: texts of every length, held against trying.
func TestNextOfMany(t *testing.T) {
	for _, s := range texts() {
		n, size, e := told(s)
		nexts(t, s, n, size, e)
	}
}

// P3.3: a number that is at most most is passed, and no more.
func TestRead(t *testing.T) {
	reads(t, "\x00", 0, 0, 1, api.OK)
	reads(t, "\x01", 0, 0, 0, api.ErrOver)
	reads(t, "\x01", 1, 1, 1, api.OK)
	reads(t, "\xac\x02", 299, 0, 0, api.ErrOver)
	reads(t, "\xac\x02", 300, 300, 2, api.OK)
	reads(t, "\xac\x02", 301, 300, 2, api.OK)
	reads(t, "\xac\x02\x05", math.MaxUint64, 300, 2, api.OK)
	reads(t, greatest, math.MaxUint64, math.MaxUint64, 10, api.OK)
	reads(t, greatest, math.MaxUint64-1, 0, 0, api.ErrOver)
	reads(t, greatest, 0, 0, 0, api.ErrOver)
	reads(t, greatest+greatest, math.MaxUint64, math.MaxUint64, 10, api.OK)
	reads(t, strings.Repeat("\x80", 9)+"\x01", 1<<63, 1<<63, 10, api.OK)
	reads(t, strings.Repeat("\x80", 9)+"\x01", 1<<63-1, 0, 0, api.ErrOver)
	reads(t, "\x07"+strings.Repeat("\x80", 1<<20), 9, 7, 1, api.OK)
}

// P3.3: just at most, one below it, and one above.
func TestReadAroundMost(t *testing.T) {
	for _, n := range numbers() {
		s := laid(n)
		reads(t, s+"\x80", n, n, len(s), api.OK)
		if n > 0 {
			reads(t, s+"\x80", n-1, 0, 0, api.ErrOver)
			reads(t, s, 0, 0, 0, api.ErrOver)
		}
		if n < math.MaxUint64 {
			reads(t, s, n+1, n, len(s), api.OK)
			reads(t, s, math.MaxUint64, n, len(s), api.OK)
		}
	}
}

// P3.3: Next's error is faulted, whatever most is; nothing is passed.
func TestReadOfNoNumber(t *testing.T) {
	for _, s := range []string{"", "\x80", "\xff\xff", greatest[:9]} {
		for _, most := range []uint64{0, 1, 300, math.MaxUint64} {
			reads(t, s, most, 0, 0, api.ErrShort)
		}
	}
	for _, s := range []string{"\x80\x00", "\x81\x80\x00\x01", greatest[:9] + "\x02", strings.Repeat("\xff", 10), strings.Repeat("\xff", 1<<20)} {
		for _, most := range []uint64{0, 1, 300, math.MaxUint64} {
			reads(t, s, most, 0, 0, api.ErrForm)
		}
	}
}

// P3.3: what a reader tells is what Next tells, or over.
func TestReadIsNext(t *testing.T) {
	for _, s := range texts() {
		for _, most := range []uint64{0, 127, 128, 16383, 1<<63 - 1, math.MaxUint64} {
			n, size, e := leb.Next(s)
			if e == api.OK && n > most {
				n, size, e = 0, 0, api.ErrOver
			}
			reads(t, s, most, n, size, e)
		}
	}
}

// P3.3: it reads on from where the reader stands, number by number.
func TestReadOneBehindTheOther(t *testing.T) {
	var all strings.Builder
	for _, n := range numbers() {
		all.WriteString("|" + laid(n))
	}
	r, at := cursor.Read(all.String()), 0
	for _, n := range numbers() {
		r.Byte()
		at += 1 + len(laid(n))
		if m := leb.Read(r, n); m != n || r.At() != at || r.Fault() != api.OK {
			t.Fatalf("%d: %d, at %d, want %d, fault %d", n, m, r.At(), at, r.Fault())
		}
	}
	if leb.Read(r, 1) != 0 || r.At() != at || r.Left() != 0 || r.Fault() != api.ErrShort {
		t.Errorf("behind the last: at %d, fault %d", r.At(), r.Fault())
	}
}

// P3.3: a fault amid the bytes leaves the reader where the number begins.
func TestReadFaultsWhereItStands(t *testing.T) {
	for s, fault := range map[string]api.Errno{"\x80": api.ErrShort, "\x80\x00": api.ErrForm, "\xac\x02": api.ErrOver} {
		r := cursor.Read("ab" + s)
		r.Take(2)
		if n := leb.Read(r, 299); n != 0 || r.At() != 2 || r.Left() != len(s) || r.Fault() != fault {
			t.Errorf("%x: %d, at %d, left %d, fault %d", s, n, r.At(), r.Left(), r.Fault())
		}
		if n := leb.Read(r, math.MaxUint64); n != 0 || r.At() != 2 || r.Fault() != fault {
			t.Errorf("%x again: %d, at %d, fault %d", s, n, r.At(), r.Fault())
		}
	}
}

// P3.3: of a reader that faulted 0 is told, whatever stands next; its fault stays.
func TestReadOfAFaultedReader(t *testing.T) {
	for e := api.ErrArg; e <= api.ErrType; e++ {
		for _, s := range []string{"", "\x05", "\xac\x02", "\x80", "\x80\x00", greatest} {
			r := cursor.Read("a" + s)
			r.Byte()
			r.Fail(e)
			for _, most := range []uint64{0, 5, math.MaxUint64} {
				if n := leb.Read(r, most); n != 0 || r.At() != 1 || r.Left() != len(s) || r.Fault() != e {
					t.Errorf("%x behind %d: %d, at %d, left %d, fault %d", s, e, n, r.At(), r.Left(), r.Fault())
				}
			}
		}
	}
}

// P3.3: of nil 0 is told, whatever most is.
func TestReadOfNil(t *testing.T) {
	for _, most := range []uint64{0, 1, math.MaxUint64} {
		if n := leb.Read(nil, most); n != 0 {
			t.Errorf("of nil, at most %d: %d", most, n)
		}
	}
}

// P3.3: a reader that nothing was read into is one of no bytes.
func TestReadOfAZeroReader(t *testing.T) {
	var r cursor.Reader
	if n := leb.Read(&r, 1); n != 0 || r.Fault() != api.ErrShort {
		t.Errorf("%d, fault %d", n, r.Fault())
	}
}

// P3.4: what is put is told again, and passed whole.
func TestWhatIsPutIsTold(t *testing.T) {
	for _, n := range numbers() {
		s := leb.Put(n)
		nexts(t, s, n, leb.Size(n), api.OK)
		reads(t, s, n, n, leb.Size(n), api.OK)
	}
}

// P3.4: bytes that are told as a number are what is put of it: no others are told as it.
func TestNoOtherBytesAreTold(t *testing.T) {
	for _, s := range texts() {
		if n, size, e := leb.Next(s); e == api.OK && leb.Put(n) != s[:size] {
			t.Errorf("%x is told as %d, whose bytes are %x", s[:size], n, leb.Put(n))
		}
	}
}

// P3.4: each beginning is short, or has its answer whatever comes behind; and
// what is less than a number's bytes is short.
func TestWhateverComesBehind(t *testing.T) {
	for _, s := range texts() {
		for _, behind := range []string{"", "\x00", "\x01", "\x02", "\x7f", "\x80", "\xff", "\x80\x00", greatest} {
			n, size, e := leb.Next(s + behind)
			for end := range len(s) + 1 {
				m, k, f := leb.Next(s[:end])
				if f != api.ErrShort && (m != n || k != size || f != e) {
					t.Errorf("%x: %d, %d, %d; but of %x: %d, %d, %d", s[:end], m, k, f, s+behind, n, size, e)
				}
				if e == api.OK && end < size && f != api.ErrShort {
					t.Errorf("%x is the beginning of %x: %d", s[:end], s, f)
				}
			}
		}
	}
}

// P3.4: what is short goes on to be a number's bytes.
func TestWhatIsShortGoesOn(t *testing.T) {
	for _, s := range texts() {
		if _, _, e := leb.Next(s); e == api.ErrShort {
			last := s + "\x01"
			if n, size, e := leb.Next(last); e != api.OK || size != len(last) || leb.Put(n) != last {
				t.Errorf("%x: %d, %d, %d", last, n, size, e)
			}
		}
	}
}

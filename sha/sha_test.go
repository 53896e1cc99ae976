package sha_test

import (
	"bytes"
	"crypto/sha256"
	"encoding/binary"
	"encoding/hex"
	"math"
	"math/big"
	"math/bits"
	"math/rand"
	"strings"
	"testing"

	"hatchway/api"
	"hatchway/sha"
)

// most is the most bytes that there may be ahead of a padding.
const most = 1 << 40

// named are the sizes at which the padding changes, and those the issue names.
var named = []int{0, 1, 3, 54, 55, 56, 57, 62, 63, 64, 65, 111, 118, 119, 120, 121, 127, 128, 129, 183, 184, 191, 192, 193}

// text is so many bytes that all hang on the seed.
func text(seed int64, size int) string {
	laid := make([]byte, size)
	rand.New(rand.NewSource(seed)).Read(laid)
	return string(laid)
}

// primes are the first 64.
func primes() []int64 {
	var all []int64
	for n := int64(2); len(all) < 64; n++ {
		if big.NewInt(n).ProbablyPrime(20) {
			all = append(all, n)
		}
	}
	return all
}

// fraction is the first 32 bits of the fraction of n's root of that degree,
// found bit by bit.
func fraction(n, degree int64) uint32 {
	goal := new(big.Int).Lsh(big.NewInt(n), uint(32*degree))
	root := new(big.Int)
	for bit := 40; bit >= 0; bit-- {
		tried := new(big.Int).SetBit(root, bit, 1)
		if new(big.Int).Exp(tried, big.NewInt(degree), nil).Cmp(goal) <= 0 {
			root = tried
		}
	}
	return uint32(root.Uint64())
}

// sixtyFour is what the chapter says of the turns' own words.
func sixtyFour() [64]uint32 {
	var all [64]uint32
	for i, p := range primes() {
		all[i] = fraction(p, 3)
	}
	return all
}

// paddingOf is what the chapter says of the padding, nought by nought.
func paddingOf(n int) string {
	laid := "\x80"
	for (uint64(n)+uint64(len(laid))+8)%64 != 0 {
		laid += "\x00"
	}
	return string(binary.BigEndian.AppendUint64([]byte(laid), 8*uint64(n)))
}

// mixOf is what the chapter says of a block, with the whole spread at once and
// the choice and the vote counted bit by bit.
func mixOf(state [8]uint32, block string, key [64]uint32) [8]uint32 {
	right := func(x uint32, n int) uint32 { return bits.RotateLeft32(x, 32-n) }
	var w [64]uint32
	for i := range w {
		if i < 16 {
			w[i] = binary.BigEndian.Uint32([]byte(block)[4*i:])
			continue
		}
		x, y := w[i-15], w[i-2]
		w[i] = w[i-16] + w[i-7] + (right(x, 7) ^ right(x, 18) ^ x>>3) + (right(y, 17) ^ right(y, 19) ^ y>>10)
	}
	at := map[byte]uint32{}
	for i, name := range []byte("ABCDEFGH") {
		at[name] = state[i]
	}
	for i := range w {
		var choice, vote uint32
		for bit := range 32 {
			one := func(name byte) uint32 { return at[name] >> bit & 1 }
			if one('E') == 1 {
				choice |= one('F') << bit
			} else {
				choice |= one('G') << bit
			}
			vote |= (one('A') + one('B') + one('C')) / 2 << bit
		}
		a, e := at['A'], at['E']
		p := at['H'] + (right(e, 6) ^ right(e, 11) ^ right(e, 25)) + key[i] + w[i] + choice
		q := (right(a, 2) ^ right(a, 13) ^ right(a, 22)) + vote
		at = map[byte]uint32{'A': p + q, 'B': a, 'C': at['B'], 'D': at['C'], 'E': at['D'] + p, 'F': e, 'G': at['F'], 'H': at['G']}
	}
	for i, name := range []byte("ABCDEFGH") {
		state[i] += at[name]
	}
	return state
}

// folded is what First becomes, block by block, as bytes.
func folded(t *testing.T, s string) string {
	t.Helper()
	pad, e := sha.Pad(len(s))
	if e != api.OK || (len(s)+len(pad))%64 != 0 {
		t.Fatalf("Pad(%d): %x %v", len(s), pad, e)
	}
	state := sha.First()
	for all := s + pad; all != ""; all = all[64:] {
		if state, e = sha.Mix(state, all[:64]); e != api.OK {
			t.Fatalf("Mix within %d bytes: %v", len(s), e)
		}
	}
	var laid []byte
	for _, word := range state {
		laid = binary.BigEndian.AppendUint32(laid, word)
	}
	return string(laid)
}

// checkSum holds a digest against the library's.
func checkSum(t *testing.T, s string) {
	t.Helper()
	want := sha256.Sum256([]byte(s))
	if got := sha.Sum(s); got != string(want[:]) {
		t.Fatalf("Sum of %d bytes %.80q: %x, want %x", len(s), s, got, want)
	}
}

// P5.1: digests that FIPS 180-4's own examples tell.
func TestSumKnown(t *testing.T) {
	long := "abcdefghbcdefghicdefghijdefghijkefghijklfghijklmghijklmnhijklmnoijklmnopjklmnopqklmnopqrlmnopqrsmnopqrstnopqrstu"
	for s, want := range map[string]string{
		"":    "e3b0c44298fc1c149afbf4c8996fb92427ae41e4649b934ca495991b7852b855",
		"abc": "ba7816bf8f01cfea414140de5dae2223b00361a396177a9cb410ff61f20015ad",
		"abcdbcdecdefdefgefghfghighijhijkijkljklmklmnlmnomnopnopq": "248d6a61d20638b8e5c026930c3e6039a33ce45964ff2167f6ecedd419db06c1",
		long:                           "cf5b16a778af8380036ce59e7b0492370b249b11e8f07a51afac45037afee9d1",
		strings.Repeat("a", 1_000_000): "cdc76e5c9914fb9281a1c7e284d73e67f1809a48a497200e046d39ccc7112cd0",
	} {
		if got := hex.EncodeToString([]byte(sha.Sum(s))); got != want {
			t.Errorf("Sum of %d bytes %.60q: %s, want %s", len(s), s, got, want)
		}
	}
}

// P5.1: digests of texts of every size up to five blocks, of noughts, of
// bytes of 255, and of bytes that all differ.
func TestSumSizes(t *testing.T) {
	for size := range 321 {
		checkSum(t, strings.Repeat("\x00", size))
		checkSum(t, strings.Repeat("\xff", size))
		checkSum(t, text(int64(size), size))
	}
	for _, size := range named {
		for seed := range int64(20) {
			checkSum(t, text(seed, size))
		}
	}
	for _, size := range []int{8191, 8192, 8193, 65536, 1<<21 + 55, 1<<21 + 56} {
		checkSum(t, text(5, size))
	}
}

// P5.1: digests of all texts of one and two bytes, and of one bit in any place
// of two blocks.
func TestSumSmall(t *testing.T) {
	for a := range 256 {
		checkSum(t, string([]byte{byte(a)}))
		for b := range 256 {
			checkSum(t, string([]byte{byte(a), byte(b)}))
		}
	}
	for bit := range 1024 {
		laid := make([]byte, 128)
		laid[bit/8] = 1 << (bit % 8)
		checkSum(t, string(laid))
	}
}

// P5.1: texts that aren't letters are bytes as any others.
func TestSumBytes(t *testing.T) {
	for _, s := range []string{"\x80", "\xff\xfe", "\xed\xa0\x80", "\u00e4\u20ac\U0001f6a2", "a\x00b", "\x00", "\x80\x00\x00\x00\x00\x00\x00\x00\x08"} {
		checkSum(t, s)
	}
}

// P5.1: First is the roots' fractions, and each call's own.
func TestFirst(t *testing.T) {
	known := [8]uint32{0x6a09e667, 0xbb67ae85, 0x3c6ef372, 0xa54ff53a, 0x510e527f, 0x9b05688c, 0x1f83d9ab, 0x5be0cd19}
	got := sha.First()
	for i, p := range primes()[:8] {
		if got[i] != known[i] || got[i] != fraction(p, 2) {
			t.Errorf("word %d: %08x, want %08x", i, got[i], fraction(p, 2))
		}
	}
	got[0], got[7] = 1, 2
	if sha.First() != known {
		t.Errorf("First hangs on what was done to an answer: %08x", sha.First())
	}
}

// P5.1: the chapter's example, and the paddings that the issue names.
func TestPadKnown(t *testing.T) {
	noughts := func(n int) string { return strings.Repeat("\x00", n) }
	for n, want := range map[int]string{
		0:    "\x80" + noughts(63),
		3:    "\x80" + noughts(52) + noughts(7) + "\x18",
		55:   "\x80" + noughts(6) + "\x01\xb8",
		56:   "\x80" + noughts(63) + noughts(6) + "\x01\xc0",
		63:   "\x80" + noughts(56) + noughts(6) + "\x01\xf8",
		64:   "\x80" + noughts(55) + noughts(6) + "\x02\x00",
		most: "\x80" + noughts(55) + "\x00\x00\x08\x00\x00\x00\x00\x00",
	} {
		if got, e := sha.Pad(n); got != want || e != api.OK {
			t.Errorf("Pad(%d): %x %v, want %x", n, got, e, want)
		}
	}
}

// P5.1: paddings behind every size up to some blocks, and around each size
// whose length has a byte more.
func TestPadSizes(t *testing.T) {
	check := func(n int) {
		got, e := sha.Pad(n)
		if want := paddingOf(n); got != want || e != api.OK {
			t.Errorf("Pad(%d): %x %v, want %x", n, got, e, want)
		}
	}
	for n := range 1100 {
		check(n)
		check(most - n)
	}
	for bit := range 40 {
		for near := -66; near <= 66; near++ {
			if n := 1<<bit + near; n >= 0 {
				check(n)
			}
		}
	}
}

// P5.1: no padding behind fewer than no bytes, or behind too many.
func TestPadWrong(t *testing.T) {
	wrong := []int{most + 1, most + 2, most + 63, most + 64, 2 * most, 1 << 61, 1<<61 + 3, 1 << 62, math.MaxInt - 1, math.MaxInt}
	wrong = append(wrong, -1, -2, -3, -9, -55, -56, -63, -64, -65, -most, -most-1, -1<<61, -1<<61+3, math.MinInt+1, math.MinInt)
	for _, n := range wrong {
		if got, e := sha.Pad(n); got != "" || e != api.ErrArg {
			t.Errorf("Pad(%d): %x %v, want nothing and ErrArg", n, got, e)
		}
	}
}

// P5.2: any eight words with any block.
func TestMix(t *testing.T) {
	key := sixtyFour()
	states := [][8]uint32{{}, sha.First()}
	var all [8]uint32
	for i := range all {
		all[i] = math.MaxUint32
		var one [8]uint32
		for _, word := range []uint32{1, 1 << 31, math.MaxUint32} {
			one[i] = word
			states = append(states, one)
		}
	}
	states = append(states, all)
	source := rand.New(rand.NewSource(7))
	for range 20 {
		var any [8]uint32
		for i := range any {
			any[i] = source.Uint32()
		}
		states = append(states, any)
	}
	blocks := []string{strings.Repeat("\x00", 64), strings.Repeat("\xff", 64), text(1, 64), text(2, 64)}
	for i := range 16 {
		lone := bytes.Repeat([]byte{0}, 64)
		lone[4*i+i%4] = 0x81
		blocks = append(blocks, string(lone))
	}
	for _, state := range states {
		for _, block := range blocks {
			got, e := sha.Mix(state, block)
			if want := mixOf(state, block, key); got != want || e != api.OK {
				t.Fatalf("Mix(%08x, %x): %08x %v, want %08x", state, block, got, e, want)
			}
		}
	}
}

// P5.2: FIPS 180-4's own example, and what was handed in stays as it was.
func TestMixKnown(t *testing.T) {
	state := sha.First()
	block := "abc\x80" + strings.Repeat("\x00", 59) + "\x18"
	want := [8]uint32{0xba7816bf, 0x8f01cfea, 0x414140de, 0x5dae2223, 0xb00361a3, 0x96177a9c, 0xb410ff61, 0xf20015ad}
	for range 2 {
		if got, e := sha.Mix(state, block); got != want || e != api.OK {
			t.Errorf("Mix: %08x %v, want %08x", got, e, want)
		}
	}
	if state != sha.First() {
		t.Errorf("the words handed in are now %08x", state)
	}
}

// P5.2: eight noughts of what isn't just a block, whatever the words.
func TestMixWrong(t *testing.T) {
	for size := range 300 {
		if size == 64 {
			continue
		}
		for _, state := range [][8]uint32{{}, sha.First(), {1, 2, 3, 4, 5, 6, 7, 8}} {
			if got, e := sha.Mix(state, text(3, size)); got != [8]uint32{} || e != api.ErrArg {
				t.Errorf("Mix of %d bytes: %08x %v, want noughts and ErrArg", size, got, e)
			}
		}
	}
	for _, size := range []int{1 << 16, 1<<16 + 64} {
		if got, e := sha.Mix(sha.First(), text(3, size)); got != [8]uint32{} || e != api.ErrArg {
			t.Errorf("Mix of %d bytes: %08x %v, want noughts and ErrArg", size, got, e)
		}
	}
}

// P5.3: a digest is what First becomes, block by block.
func TestSumIsMixed(t *testing.T) {
	check := func(s string) {
		if got, want := sha.Sum(s), folded(t, s); got != want || len(got) != 32 {
			t.Errorf("Sum of %d bytes: %x, block by block %x", len(s), got, want)
		}
	}
	for size := range 300 {
		check(text(int64(-size), size))
	}
	for _, size := range named {
		for seed := range int64(10) {
			check(text(100+seed, size))
		}
	}
	for _, size := range []int{1000, 4096, 65535, 65536} {
		check(text(9, size))
	}
}

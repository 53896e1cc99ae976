package twice_test

import (
	"crypto/sha256"
	"encoding/hex"
	"math/rand"
	"slices"
	"strings"
	"testing"

	"hatchway/sha"
	"hatchway/twice"
)

// header is the 80 bytes of the first block that Bitcoin has: its double digest
// is widely known.
const header = "0100000000000000000000000000000000000000000000000000000000000000" +
	"000000003ba3edfd7a7b12b27ac72c3e67768f617fc81bc3888a51323a9fb8aa" +
	"4b1e5e4a29ab5f49ffff001d1dac2b7c"

// named are the sizes that the issue names, and those around them.
var named = []int{0, 1, 4, 30, 31, 32, 33, 34, 54, 55, 56, 57, 62, 63, 64, 65, 66, 119, 120, 127, 128, 129}

// text is so many bytes that all hang on the seed.
func text(seed int64, size int) string {
	laid := make([]byte, size)
	rand.New(rand.NewSource(seed)).Read(laid)
	return string(laid)
}

// unhex is the bytes that digits tell.
func unhex(t *testing.T, digits string) string {
	t.Helper()
	s, err := hex.DecodeString(digits)
	if err != nil {
		t.Fatal(err)
	}
	return string(s)
}

// model is what the chapter says of a double digest, by the library's digests.
func model(s string) string {
	once := sha256.Sum256([]byte(s))
	again := sha256.Sum256(once[:])
	return string(again[:])
}

// checkAll holds all three calls of a text against the model.
func checkAll(t *testing.T, s string) {
	t.Helper()
	want := model(s)
	if got := twice.Sum(s); got != want {
		t.Fatalf("Sum of %d bytes %.80q: %x, want %x", len(s), s, got, want)
	}
	if got := twice.Check(s); got != want[:4] {
		t.Fatalf("Check of %d bytes %.80q: %x, want %x", len(s), s, got, want[:4])
	}
	if !twice.Fits(s, want[:4]) {
		t.Fatalf("%x doesn't fit %d bytes %.80q", want[:4], len(s), s)
	}
}

// misfits are texts that aren't the checksum of s, though they come of it.
func misfits(s string) []string {
	whole := model(s)
	sum := whole[:4]
	once := sha256.Sum256([]byte(s))
	turned := []byte(sum)
	slices.Reverse(turned)
	all := []string{
		whole[:5], whole[:8], whole[:31], whole, whole + sum, sum + sum,
		" " + sum, sum + " ", "\x00" + sum, sum[:3] + "\x00", "\x00\x00\x00\x00",
		string(turned), string(once[:4]), string(once[:]), hex.EncodeToString([]byte(sum)),
		model(whole)[:4], model(s + "\x00")[:4],
	}
	// Each piece of the checksum, that of no byte too.
	for from := range 5 {
		for to := from; to <= 4; to++ {
			if to-from < 4 {
				all = append(all, sum[from:to])
			}
		}
	}
	// The double digest's other bytes in the checksum's place.
	for at := 1; at+4 <= len(whole); at++ {
		all = append(all, whole[at:at+4])
	}
	// Any one byte turned, and any one byte more, behind it or ahead.
	for b := range 256 {
		other := string([]byte{byte(b)})
		all = append(all, sum+other, other+sum)
		for at := range sum {
			if sum[at] != byte(b) {
				all = append(all, sum[:at]+other+sum[at+1:])
			}
		}
	}
	return all
}

// checkMisfits asks of all that isn't the checksum of s.
func checkMisfits(t *testing.T, s string) {
	t.Helper()
	sum := model(s)[:4]
	for _, wrong := range misfits(s) {
		// By chance one of them may be the checksum: of noughts, say.
		if twice.Fits(s, wrong) != (wrong == sum) {
			t.Fatalf("%x told to fit %d bytes %.80q, whose checksum is %x", wrong, len(s), s, sum)
		}
	}
}

// P6.1: double digests and checksums that are widely known.
func TestKnown(t *testing.T) {
	for s, digits := range map[string]string{
		"":               "5df6e0e2761359d30a8275058e299fcc0381534545f55cf43e41983f5d4c9456",
		"abc":            "4f8b42c22dd3729b519ba6f68d2da7cc5b2d606d05daed5ad5128cc03e6c6358",
		"hello":          "9595c9df90075148eb06860365df33584b75bff782a510c6cd4883a419833d50",
		unhex(t, header): "6fe28c0ab6f1b372c1a6a246ae63f74f931e8365e15a089c68d6190000000000",
	} {
		want := unhex(t, digits)
		if got := twice.Sum(s); got != want {
			t.Errorf("Sum(%q): %x, want %s", s, got, digits)
		}
		if got := twice.Check(s); got != want[:4] {
			t.Errorf("Check(%q): %x, want %s", s, got, digits[:8])
		}
		if !twice.Fits(s, want[:4]) {
			t.Errorf("%s doesn't fit %q", digits[:8], s)
		}
	}
}

// P6.1: the chapter's example.
func TestNoByte(t *testing.T) {
	if got := twice.Check(""); got != "\x5d\xf6\xe0\xe2" {
		t.Errorf("Check of no byte: %x", got)
	}
	if !twice.Fits("", "\x5d\xf6\xe0\xe2") {
		t.Error("5df6e0e2 doesn't fit no byte")
	}
	if twice.Fits("", "") {
		t.Error("no byte is told to fit no byte")
	}
}

// P6.1: texts of every size up to some blocks, and of the sizes at which the
// inner digest's padding changes.
func TestSizes(t *testing.T) {
	for size := range 321 {
		checkAll(t, strings.Repeat("\x00", size))
		checkAll(t, strings.Repeat("\xff", size))
		checkAll(t, text(int64(size), size))
	}
	for _, size := range named {
		for seed := range int64(20) {
			checkAll(t, text(seed, size))
		}
	}
	for _, size := range []int{4095, 65535, 65536, 65537, 1<<20 + 55} {
		checkAll(t, text(6, size))
	}
}

// P6.1: all texts of one and two bytes: letters, noughts, and bytes that
// aren't letters are alike.
func TestSmall(t *testing.T) {
	for a := range 256 {
		checkAll(t, string([]byte{byte(a)}))
		for b := range 256 {
			checkAll(t, string([]byte{byte(a), byte(b)}))
		}
	}
}

// P6.1: the double digest is the digest of the digest, by package sha; it isn't
// the digest, and not the digest of the text twice.
func TestDigestOfDigest(t *testing.T) {
	for _, size := range named {
		s := text(11, size)
		got := twice.Sum(s)
		if want := sha.Sum(sha.Sum(s)); got != want || len(got) != 32 {
			t.Errorf("Sum of %d bytes: %x, want %x", size, got, want)
		}
		if got == sha.Sum(s) || s != "" && got == sha.Sum(s+s) || got == sha.Sum(sha.Sum(sha.Sum(s))) {
			t.Errorf("Sum of %d bytes is another text's digest: %x", size, got)
		}
		if check := twice.Check(s); check != got[:4] {
			t.Errorf("Check of %d bytes: %x, want %x", size, check, got[:4])
		}
	}
}

// P6.1: nothing fits but the checksum itself, whole and alone.
func TestMisfits(t *testing.T) {
	for _, size := range named {
		for seed := range int64(4) {
			checkMisfits(t, text(seed, size))
		}
	}
	for _, s := range []string{"hello", "abc", unhex(t, header), "\x00", "\xff", strings.Repeat("\x00", 64)} {
		checkMisfits(t, s)
	}
}

// P6.1: a checksum fits no text that has another one, however near it is.
func TestOtherTexts(t *testing.T) {
	for _, size := range named {
		s := text(12, size)
		sum := model(s)[:4]
		others := []string{s + "\x00", "\x00" + s, s + s + "x", sum, sha.Sum(s), twice.Sum(s)}
		if size > 0 {
			others = append(others, s[1:], s[:size-1])
		}
		for bit := range 8 * size {
			laid := []byte(s)
			laid[bit/8] ^= 1 << (bit % 8)
			others = append(others, string(laid))
		}
		for _, other := range others {
			if twice.Fits(other, sum) {
				t.Errorf("the checksum %x of %d bytes is told to fit %x", sum, size, other)
			}
		}
	}
}

// P6.1: a checksum that begins, or ends, with noughts is of four bytes, too,
// and fits only with them.
func TestNoughts(t *testing.T) {
	var ahead, behind int
	for n := 0; ahead < 3 || behind < 3; n++ {
		s := string([]byte{byte(n), byte(n >> 8), byte(n >> 16)})
		sum := model(s)[:4]
		if sum[0] != 0 && sum[3] != 0 {
			continue
		}
		if sum[0] == 0 {
			ahead++
		}
		if sum[3] == 0 {
			behind++
		}
		checkAll(t, s)
		checkMisfits(t, s)
		if twice.Fits(s, strings.Trim(sum, "\x00")) {
			t.Errorf("%x is told to fit without its noughts", sum)
		}
	}
}

// P6.1: what is answered hangs on the text alone.
func TestAgain(t *testing.T) {
	for _, s := range []string{"", "hello", text(13, 64)} {
		sum, check := twice.Sum(s), twice.Check(s)
		twice.Sum("another")
		twice.Check("another")
		twice.Fits("another", check)
		if twice.Sum(s) != sum || twice.Check(s) != check || !twice.Fits(s, check) || twice.Fits(s, sum) {
			t.Errorf("%d bytes: another answer the second time", len(s))
		}
	}
}

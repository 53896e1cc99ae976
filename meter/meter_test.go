package meter_test

import (
	"math"
	"math/big"
	"testing"

	"hatchway/api"
	"hatchway/meter"
)

// counts are all that a meter tells.
type counts struct{ used, taken, top, most int }

// told are the counts of a meter.
func told(m *meter.Meter) counts {
	return counts{m.Used(), m.Taken(), m.Top(), m.Most()}
}

// stands fails if the meter doesn't tell those counts.
func stands(t *testing.T, m *meter.Meter, want counts) {
	t.Helper()
	if got := told(m); got != want {
		t.Errorf("used, taken, top, most: %v, want %v", got, want)
	}
}

// takes fails if Take of n answers another error.
func takes(t *testing.T, m *meter.Meter, n int, want api.Errno) {
	t.Helper()
	if e := m.Take(n); e != want {
		t.Errorf("Take(%d): %d, want %d", n, e, want)
	}
}

// gives fails if Give of n answers another error.
func gives(t *testing.T, m *meter.Meter, n int, want api.Errno) {
	t.Helper()
	if e := m.Give(n); e != want {
		t.Errorf("Give(%d): %d, want %d", n, e, want)
	}
}

// unmoved are four counts of which none is another one.
var unmoved = counts{3, 8, 6, 10}

// begun is a meter that stands at unmoved.
func begun(t *testing.T) *meter.Meter {
	t.Helper()
	m := meter.New(10)
	takes(t, m, 6, api.OK)
	gives(t, m, 5, api.OK)
	takes(t, m, 2, api.OK)
	stands(t, m, unmoved)
	return m
}

// answer is what a call of n answers, and the counts behind it.
type answer struct {
	n    int
	e    api.Errno
	want counts
}

// checkEach does each call to a meter of its own, that stands at unmoved.
func checkEach(t *testing.T, does func(*testing.T, *meter.Meter, int, api.Errno), all []answer) {
	t.Helper()
	for _, a := range all {
		m := begun(t)
		does(t, m, a.n, a.e)
		stands(t, m, a.want)
	}
}

// P7.1: of a new meter nothing is used; a most below 0 is 0.
func TestNew(t *testing.T) {
	for _, c := range []struct{ most, want int }{
		{math.MinInt, 0}, {math.MinInt + 1, 0}, {-2, 0}, {-1, 0}, {0, 0}, {1, 1}, {2, 2}, {10, 10},
		{math.MaxInt32, math.MaxInt32}, {math.MaxInt - 1, math.MaxInt - 1}, {math.MaxInt, math.MaxInt},
	} {
		m := meter.New(c.most)
		if m == nil {
			t.Fatalf("New(%d) is nil", c.most)
		}
		stands(t, m, counts{0, 0, 0, c.want})
	}
}

// P7.1, P7.2: the chapter's example.
func TestExample(t *testing.T) {
	m := meter.New(10)
	takes(t, m, 7, api.OK)
	takes(t, m, 4, api.ErrOver)
	gives(t, m, 2, api.OK)
	takes(t, m, 4, api.OK)
	stands(t, m, counts{9, 11, 9, 10})
}

// P7.1: Take lets n more be used, and counts them, or is refused and changes nothing.
func TestTake(t *testing.T) {
	checkEach(t, takes, []answer{
		{math.MinInt, api.ErrArg, unmoved},
		{math.MinInt + 1, api.ErrArg, unmoved},
		{-8, api.ErrArg, unmoved},
		{-3, api.ErrArg, unmoved},
		{-1, api.ErrArg, unmoved},
		{0, api.OK, counts{3, 8, 6, 10}},
		{1, api.OK, counts{4, 9, 6, 10}},
		{3, api.OK, counts{6, 11, 6, 10}},
		{4, api.OK, counts{7, 12, 7, 10}},
		{6, api.OK, counts{9, 14, 9, 10}},
		{7, api.OK, counts{10, 15, 10, 10}},
		{8, api.ErrOver, unmoved},
		{10, api.ErrOver, unmoved},
		{math.MaxInt - 3, api.ErrOver, unmoved},
		{math.MaxInt - 2, api.ErrOver, unmoved},
		{math.MaxInt, api.ErrOver, unmoved},
	})
}

// P7.1: what fits a new meter is just up to its most.
func TestTakeUpToMost(t *testing.T) {
	for _, most := range []int{1, 2, 10, 1 << 16, math.MaxInt32, math.MaxInt - 1} {
		m := meter.New(most)
		takes(t, m, most+1, api.ErrOver)
		stands(t, m, counts{0, 0, 0, most})
		takes(t, m, most, api.OK)
		stands(t, m, counts{most, most, most, most})
		takes(t, m, 1, api.ErrOver)
		takes(t, m, 0, api.OK)
		stands(t, m, counts{most, most, most, most})
	}
}

// P7.1: bytes that are given back may be taken again, just as many.
func TestTakeWhatWasGiven(t *testing.T) {
	m := meter.New(4)
	takes(t, m, 4, api.OK)
	gives(t, m, 3, api.OK)
	takes(t, m, 4, api.ErrOver)
	stands(t, m, counts{1, 4, 4, 4})
	takes(t, m, 3, api.OK)
	stands(t, m, counts{4, 7, 4, 4})
}

// P7.1: of a meter whose most is 0, or was below, no byte can be taken.
func TestMostOfNought(t *testing.T) {
	for _, most := range []int{math.MinInt, -1, 0} {
		m := meter.New(most)
		for _, n := range []int{math.MinInt, -1} {
			takes(t, m, n, api.ErrArg)
			gives(t, m, n, api.ErrArg)
		}
		takes(t, m, 0, api.OK)
		gives(t, m, 0, api.OK)
		for _, n := range []int{1, 2, math.MaxInt} {
			takes(t, m, n, api.ErrOver)
			gives(t, m, n, api.ErrArg)
		}
		m.Clear()
		stands(t, m, counts{0, 0, 0, 0})
	}
}

// P7.1: Give lets n fewer be used, or is refused and changes nothing; what was
// taken, and the top, stay.
func TestGive(t *testing.T) {
	checkEach(t, gives, []answer{
		{math.MinInt, api.ErrArg, unmoved},
		{math.MinInt + 1, api.ErrArg, unmoved},
		{-7, api.ErrArg, unmoved},
		{-1, api.ErrArg, unmoved},
		{0, api.OK, counts{3, 8, 6, 10}},
		{1, api.OK, counts{2, 8, 6, 10}},
		{2, api.OK, counts{1, 8, 6, 10}},
		{3, api.OK, counts{0, 8, 6, 10}},
		{4, api.ErrArg, unmoved},
		{6, api.ErrArg, unmoved},
		{8, api.ErrArg, unmoved},
		{10, api.ErrArg, unmoved},
		{math.MaxInt - 1, api.ErrArg, unmoved},
		{math.MaxInt, api.ErrArg, unmoved},
	})
}

// P7.1: nothing can be given back of a meter of which nothing is used.
func TestGiveOfNothing(t *testing.T) {
	m := meter.New(10)
	gives(t, m, 0, api.OK)
	gives(t, m, 1, api.ErrArg)
	takes(t, m, 5, api.OK)
	gives(t, m, 5, api.OK)
	gives(t, m, 1, api.ErrArg)
	stands(t, m, counts{0, 5, 5, 10})
}

// P7.1: of the greatest most, sums that would wrap round are refused.
func TestGreatestMost(t *testing.T) {
	const most = math.MaxInt
	m := meter.New(most)
	takes(t, m, most-1, api.OK)
	for _, n := range []int{2, 3, most - 1, most} {
		takes(t, m, n, api.ErrOver)
	}
	stands(t, m, counts{most - 1, most - 1, most - 1, most})
	takes(t, m, 1, api.OK)
	takes(t, m, 0, api.OK)
	takes(t, m, 1, api.ErrOver)
	takes(t, m, most, api.ErrOver)
	takes(t, m, math.MinInt, api.ErrArg)
	gives(t, m, math.MinInt, api.ErrArg)
	stands(t, m, counts{most, most, most, most})
	gives(t, m, most, api.OK)
	gives(t, m, 1, api.ErrArg)
	stands(t, m, counts{0, most, most, most})
}

// P7.1: taken goes just up to 2^63 - 1, however little is used; from there on
// only nought can be taken, until the meter is cleared.
func TestTakenUpToTheGreatest(t *testing.T) {
	const half, most = math.MaxInt / 2, math.MaxInt - 5
	m := meter.New(most)
	takes(t, m, half, api.OK)
	gives(t, m, half, api.OK)
	takes(t, m, half, api.OK)
	gives(t, m, half, api.OK)
	// 2^63 - 1 is odd: one more byte is left, and no two.
	takes(t, m, 2, api.ErrOver)
	takes(t, m, most, api.ErrOver)
	stands(t, m, counts{0, math.MaxInt - 1, half, most})
	takes(t, m, 1, api.OK)
	stands(t, m, counts{1, math.MaxInt, half, most})
	takes(t, m, 1, api.ErrOver)
	takes(t, m, most, api.ErrOver)
	takes(t, m, math.MaxInt, api.ErrOver)
	takes(t, m, 0, api.OK)
	takes(t, m, -1, api.ErrArg)
	gives(t, m, 2, api.ErrArg)
	stands(t, m, counts{1, math.MaxInt, half, most})
	gives(t, m, 1, api.OK)
	takes(t, m, 1, api.ErrOver)
	stands(t, m, counts{0, math.MaxInt, half, most})
	m.Clear()
	takes(t, m, most, api.OK)
	stands(t, m, counts{most, most, most, most})
}

// P7.1: what was taken is bounded for a small most, too.
func TestTakenOfASmallMost(t *testing.T) {
	m := meter.New(math.MaxInt / 1000)
	for range 1000 {
		takes(t, m, math.MaxInt/1000, api.OK)
		gives(t, m, math.MaxInt/1000, api.OK)
	}
	const left = math.MaxInt % 1000
	takes(t, m, left+1, api.ErrOver)
	takes(t, m, left, api.OK)
	takes(t, m, 1, api.ErrOver)
	stands(t, m, counts{left, math.MaxInt, math.MaxInt / 1000, math.MaxInt / 1000})
}

// P7.2: Clear counts what was taken, and the top, anew; what is used stays.
func TestClear(t *testing.T) {
	m := begun(t)
	for range 2 {
		m.Clear()
		stands(t, m, counts{3, 0, 3, 10})
	}
	takes(t, m, 8, api.ErrOver)
	takes(t, m, 7, api.OK)
	stands(t, m, counts{10, 7, 10, 10})
	gives(t, m, 10, api.OK)
	stands(t, m, counts{0, 7, 10, 10})
	m.Clear()
	stands(t, m, counts{0, 0, 0, 10})
	gives(t, m, 1, api.ErrArg)
	takes(t, m, 10, api.OK)
	stands(t, m, counts{10, 10, 10, 10})
}

// P7.2: Clear of a meter of which nothing is used, or was.
func TestClearOfNothing(t *testing.T) {
	m := meter.New(10)
	m.Clear()
	stands(t, m, counts{0, 0, 0, 10})
	takes(t, m, 10, api.OK)
	stands(t, m, counts{10, 10, 10, 10})
	m.Clear()
	stands(t, m, counts{10, 0, 10, 10})
	gives(t, m, 11, api.ErrArg)
	gives(t, m, 10, api.OK)
	stands(t, m, counts{0, 0, 10, 10})
}

// P7.2: the top stays above what is used, till more is used at once.
func TestTop(t *testing.T) {
	m := meter.New(10)
	for _, c := range []struct{ take, give, used, taken, top int }{
		{5, 0, 5, 5, 5}, {0, 4, 1, 5, 5}, {3, 0, 4, 8, 5}, {1, 0, 5, 9, 5}, {0, 5, 0, 9, 5},
		{6, 0, 6, 15, 6}, {0, 6, 0, 15, 6}, {2, 1, 1, 17, 6}, {9, 0, 10, 26, 10}, {0, 10, 0, 26, 10},
	} {
		takes(t, m, c.take, api.OK)
		gives(t, m, c.give, api.OK)
		stands(t, m, counts{c.used, c.taken, c.top, 10})
	}
}

// P7.2: what is asked for is told again and again, and changes nothing.
func TestAskingChangesNothing(t *testing.T) {
	m := begun(t)
	for range 3 {
		stands(t, m, unmoved)
	}
	takes(t, m, 7, api.OK)
	stands(t, m, counts{10, 15, 10, 10})
}

// P7.1, P7.2: of nil: ErrArg, 0.
func TestNil(t *testing.T) {
	var m *meter.Meter
	for _, n := range []int{math.MinInt, -1, 0, 1, math.MaxInt} {
		takes(t, m, n, api.ErrArg)
		gives(t, m, n, api.ErrArg)
	}
	m.Clear()
	stands(t, m, counts{})
}

// Rule 3: a meter that refused calls goes on as one that wasn't asked.
func TestRefusedCallsChangeNothing(t *testing.T) {
	asked, other := begun(t), begun(t)
	refused := func() {
		for _, n := range []int{math.MinInt, -1, 11, math.MaxInt} {
			takes(t, asked, n, map[bool]api.Errno{true: api.ErrArg, false: api.ErrOver}[n < 0])
			gives(t, asked, n, api.ErrArg)
		}
		stands(t, asked, told(other))
	}
	for _, n := range []int{1, -1, 6, -9, 10, -10, 0} {
		refused()
		for _, m := range []*meter.Meter{asked, other} {
			if n < 0 {
				gives(t, m, -n, api.OK)
			} else {
				takes(t, m, n, api.OK)
			}
		}
		refused()
	}
	asked.Clear()
	other.Clear()
	refused()
}

// Rule 6: two meters, of the same most or of others, count apart.
func TestMetersCountApart(t *testing.T) {
	for _, most := range []int{5, 10} {
		a, b := meter.New(most), meter.New(10)
		takes(t, a, 5, api.OK)
		stands(t, b, counts{0, 0, 0, 10})
		takes(t, b, 10, api.OK)
		gives(t, b, 3, api.OK)
		stands(t, a, counts{5, 5, 5, most})
		a.Clear()
		gives(t, a, 4, api.OK)
		stands(t, b, counts{7, 10, 10, 10})
		stands(t, a, counts{1, 0, 5, most})
		takes(t, a, most, api.ErrOver)
		takes(t, b, 3, api.OK)
		b.Clear()
		stands(t, a, counts{1, 0, 5, most})
	}
}

// model is what the chapter says of a meter, by numbers that don't wrap round.
type model struct{ used, taken, top, most *big.Int }

// number is n as a number of the model.
func number(n int) *big.Int {
	return big.NewInt(int64(n))
}

// newModel is the model of New(most).
func newModel(most int) *model {
	if most < 0 {
		most = 0
	}
	return &model{number(0), number(0), number(0), number(most)}
}

// take is what Take answers.
func (m *model) take(n int) api.Errno {
	if n < 0 {
		return api.ErrArg
	}
	used := new(big.Int).Add(m.used, number(n))
	taken := new(big.Int).Add(m.taken, number(n))
	if used.Cmp(m.most) > 0 || taken.Cmp(new(big.Int).Lsh(number(1), 63)) >= 0 {
		return api.ErrOver
	}
	m.used, m.taken = used, taken
	if used.Cmp(m.top) > 0 {
		m.top = used
	}
	return api.OK
}

// give is what Give answers.
func (m *model) give(n int) api.Errno {
	if n < 0 || m.used.Cmp(number(n)) < 0 {
		return api.ErrArg
	}
	m.used = new(big.Int).Sub(m.used, number(n))
	return api.OK
}

// clear is what Clear does.
func (m *model) clear() {
	m.taken, m.top = number(0), m.used
}

// alike tells whether the meter tells what the model does.
func (m *model) alike(c counts) bool {
	return m.used.Cmp(number(c.used)) == 0 && m.taken.Cmp(number(c.taken)) == 0 &&
		m.top.Cmp(number(c.top)) == 0 && m.most.Cmp(number(c.most)) == 0
}

// within tells what P7.3 says: never is more used than most, and the top is
// from what is used up to it.
func within(c counts) bool {
	return 0 <= c.used && c.used <= c.top && c.top <= c.most
}

// call does the same to both: Clear, or Take or Give of one of the sizes.
func call(which int, sizes []int, m *meter.Meter, want *model) (got, wanted api.Errno) {
	if which == 0 {
		m.Clear()
		want.clear()
		return api.OK, api.OK
	}
	n := sizes[(which-1)/2]
	if which%2 == 1 {
		return m.Take(n), want.take(n)
	}
	return m.Give(n), want.give(n)
}

// checkRows does every row of so many calls to a new meter and the model.
func checkRows(t *testing.T, most, long int, sizes []int) {
	t.Helper()
	ways := 1 + 2*len(sizes)
	rows := 1
	for range long {
		rows *= ways
	}
	for row := range rows {
		m, want := meter.New(most), newModel(most)
		for n, i := row, 0; i < long; n, i = n/ways, i+1 {
			got, wanted := call(n%ways, sizes, m, want)
			if c := told(m); got != wanted || !want.alike(c) || !within(c) {
				t.Fatalf("most %d, row %d, call %d: %d, want %d; %v, want %v", most, row, i, got, wanted, c, *want)
			}
		}
	}
}

// P7.1 to P7.3: every row of five calls of few bytes answers what the model does.
func TestEveryRowOfCalls(t *testing.T) {
	for _, most := range []int{-1, 0, 1, 2, 3, 5} {
		checkRows(t, most, 5, []int{-1, 1, 2, 3})
	}
}

// P7.1 to P7.3: every row of four calls at the greatest numbers, likewise.
func TestEveryRowOfGreatCalls(t *testing.T) {
	const greatest = math.MaxInt
	for _, most := range []int{1, greatest / 2, greatest - 1, greatest} {
		checkRows(t, most, 4, []int{math.MinInt, 0, 1, greatest / 2, greatest - 1, greatest})
	}
}

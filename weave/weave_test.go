package weave

import (
	"fmt"
	"math"
	"slices"
	"testing"

	"tartan/api"
	"tartan/pairs"
)

const least, most = math.MinInt, math.MaxInt

// of are pairs of an A and a B each, that are told one behind the other.
func of(numbers ...int) []api.Pair {
	var l []api.Pair
	for i := 0; i+1 < len(numbers); i += 2 {
		l = append(l, api.Pair{A: numbers[i], B: numbers[i+1]})
	}
	return l
}

// What follows, up to the first test, is a plain reading of the chapter.

// wantOrder is the woven list of pairs that may be: it asks of each gone one for itself where it stands.
func wantOrder(l []api.Pair, na, nb int) []api.Pair {
	var woven []api.Pair
	for b := range nb {
		p := pairOfB(l, b)
		if p.A >= 0 {
			woven = append(woven, goneAhead(l, na, p)...)
		}
		woven = append(woven, p)
	}
	return append(woven, goneAhead(l, na, api.Pair{A: -1, B: -1})...)
}

// pairOfB is the pair with that B, or a new one.
func pairOfB(l []api.Pair, b int) api.Pair {
	for _, p := range l {
		if p.B == b {
			return p
		}
	}
	return api.Pair{A: -1, B: b}
}

// goneAhead are the gone ones that stand ahead of a pair, or at the end.
func goneAhead(l []api.Pair, na int, p api.Pair) []api.Pair {
	var own []api.Pair
	for a := range na {
		isIt := func(q api.Pair) bool { return q.A == a }
		if !slices.ContainsFunc(l, isIt) && firstStill(l, a) == p {
			own = append(own, api.Pair{A: a, B: -1})
		}
	}
	return own
}

// firstStill is the first pair that is still whose A is more than a, or none.
func firstStill(l []api.Pair, a int) api.Pair {
	for _, at := range pairs.Still(l) {
		if l[at].A > a {
			return l[at]
		}
	}
	return api.Pair{A: -1, B: -1}
}

func wantSplit(l []api.Pair) (both []api.Pair, gone, fresh []int) {
	for _, p := range l {
		switch hasA, hasB := p.A > -1, p.B > -1; {
		case hasA && hasB:
			both = append(both, p)
		case hasA:
			gone = append(gone, p.A)
		case hasB:
			fresh = append(fresh, p.B)
		}
	}
	return both, gone, fresh
}

// askOrder holds what is woven against the plain reading.
func askOrder(t *testing.T, l []api.Pair, na, nb int) {
	t.Helper()
	got, errno := Order(l, na, nb)
	if want := pairs.Check(l, na, nb); errno != want {
		t.Errorf("Order(%v, %d, %d): %v, not %v", l, na, nb, errno, want)
	}
	var want []api.Pair
	if errno == api.OK {
		want = wantOrder(l, na, nb)
	}
	if !slices.Equal(got, want) {
		t.Errorf("Order(%v, %d, %d): %v, not %v", l, na, nb, got, want)
	}
}

// askSplit holds what is split against the plain reading.
func askSplit(t *testing.T, l []api.Pair) {
	t.Helper()
	p, a, b := Split(l)
	wantP, wantA, wantB := wantSplit(l)
	if !slices.Equal(p, wantP) || !slices.Equal(a, wantA) || !slices.Equal(b, wantB) {
		t.Errorf("Split(%v): %v, %v, %v, not %v, %v, %v", l, p, a, b, wantP, wantA, wantB)
	}
}

// lists are all lists of up to n of these.
func lists[T any](n int, of ...T) [][]T {
	all, from := [][]T{nil}, 0
	for range n {
		to := len(all)
		for _, l := range all[from:to] {
			for _, x := range of {
				all = append(all, append(slices.Clone(l), x))
			}
		}
		from = to
	}
	return all
}

// allOf are all pairs of these numbers.
func allOf(numbers ...int) []api.Pair {
	var all []api.Pair
	for _, a := range numbers {
		for _, b := range numbers {
			all = append(all, api.Pair{A: a, B: b})
		}
	}
	return all
}

// mayBe are all pairs that may be, of na of A's and nb of B's.
func mayBe(na, nb int) [][]api.Pair {
	all := [][]api.Pair{nil}
	for b := range nb {
		for _, l := range all[:len(all):len(all)] {
			for a := range na {
				if !slices.ContainsFunc(l, func(p api.Pair) bool { return p.A == a }) {
					all = append(all, append(slices.Clone(l), api.Pair{A: a, B: b}))
				}
			}
		}
	}
	return all
}

func TestOrderByHand(t *testing.T) {
	for _, x := range []struct {
		l      []api.Pair
		na, nb int
		want   []api.Pair
	}{
		// the chapter's example
		{of(0, 0, 2, 2), 3, 3, of(0, 0, -1, 1, 1, -1, 2, 2)},
		// no pairs
		{nil, 0, 0, nil},
		{[]api.Pair{}, 0, 0, nil},
		{nil, 1, 0, of(0, -1)},
		{nil, 0, 1, of(-1, 0)},
		{nil, 1, 1, of(-1, 0, 0, -1)},
		// all of A's are gone, all of B's are new, and both
		{nil, 3, 0, of(0, -1, 1, -1, 2, -1)},
		{nil, 0, 3, of(-1, 0, -1, 1, -1, 2)},
		{nil, 2, 2, of(-1, 0, -1, 1, 0, -1, 1, -1)},
		// none gone, none new
		{of(0, 0), 1, 1, of(0, 0)},
		{of(0, 0, 1, 1, 2, 2), 3, 3, of(0, 0, 1, 1, 2, 2)},
		{of(2, 0, 1, 1, 0, 2), 3, 3, of(2, 0, 1, 1, 0, 2)},
		{of(1, 0), 2, 1, of(0, -1, 1, 0)},
		{of(0, 1), 1, 2, of(-1, 0, 0, 1)},
		{of(0, 0), 1, 2, of(0, 0, -1, 1)},
		// gone ones ahead of the first still pair, between two, and behind the last one
		{of(2, 0), 3, 1, of(0, -1, 1, -1, 2, 0)},
		{of(0, 0, 3, 1), 4, 2, of(0, 0, 1, -1, 2, -1, 3, 1)},
		{of(0, 0), 3, 1, of(0, 0, 1, -1, 2, -1)},
		{of(1, 0, 3, 1), 5, 2, of(0, -1, 1, 0, 2, -1, 3, 1, 4, -1)},
		{of(2, 0, 5, 1), 7, 2, of(0, -1, 1, -1, 2, 0, 3, -1, 4, -1, 5, 1, 6, -1)},
		// new ones where gone ones stand: these stand behind them
		{of(1, 1), 2, 2, of(-1, 0, 0, -1, 1, 1)},
		{of(1, 2, 3, 5), 5, 7, of(-1, 0, -1, 1, 0, -1, 1, 2, -1, 3, -1, 4, 2, -1, 3, 5, -1, 6, 4, -1)},
		{of(0, 0), 2, 2, of(0, 0, -1, 1, 1, -1)},
		// a pair that is not still, whose A is more than the gone one's: it is passed
		{of(3, 0, 0, 1, 2, 2), 4, 4, of(3, 0, 0, 1, 1, -1, 2, 2, -1, 3)},
		{of(4, 0, 1, 1, 2, 2), 5, 3, of(4, 0, 0, -1, 1, 1, 2, 2, 3, -1)},
		{of(0, 0, 5, 1, 2, 2, 3, 3), 6, 4, of(0, 0, 5, 1, 1, -1, 2, 2, 3, 3, 4, -1)},
		// and one whose A is less: gone ones stand behind it
		{of(1, 0, 0, 1), 3, 2, of(1, 0, 0, 1, 2, -1)},
		{of(1, 0, 0, 1, 3, 2), 4, 3, of(1, 0, 0, 1, 2, -1, 3, 2)},
		{of(2, 0, 0, 1), 3, 2, of(1, -1, 2, 0, 0, 1)},
		{of(1, 0, 2, 1, 0, 2, 4, 3), 5, 4, of(1, 0, 2, 1, 0, 2, 3, -1, 4, 3)},
		// of several that fall the first one is still
		{of(3, 0, 2, 1, 1, 2), 5, 3, of(0, -1, 3, 0, 2, 1, 1, 2, 4, -1)},
		// all three in one gap: what has a B in order of it, gone ones behind
		{of(0, 0, 6, 2, 3, 4, 4, 5), 8, 6, of(0, 0, -1, 1, 6, 2, -1, 3, 1, -1, 2, -1, 3, 4, 4, 5, 5, -1, 7, -1)},
		{of(5, 1, 0, 2, 1, 4), 6, 6, of(-1, 0, 5, 1, 0, 2, -1, 3, 1, 4, -1, 5, 2, -1, 3, -1, 4, -1)},
	} {
		got, errno := Order(x.l, x.na, x.nb)
		if !slices.Equal(got, x.want) || errno != api.OK {
			t.Errorf("Order(%v, %d, %d): %v, %v, not %v", x.l, x.na, x.nb, got, errno, x.want)
		}
		if got := wantOrder(x.l, x.na, x.nb); !slices.Equal(got, x.want) {
			t.Errorf("the plain reading of %v, %d, %d: %v, not %v", x.l, x.na, x.nb, got, x.want)
		}
	}
}

func TestOrderErrors(t *testing.T) {
	for _, x := range []struct {
		l      []api.Pair
		na, nb int
		want   api.Errno
	}{
		// how many there are
		{nil, -1, 0, api.ErrArg},
		{nil, 0, -1, api.ErrArg},
		{nil, -1, -1, api.ErrArg},
		{nil, least, most, api.ErrArg},
		{nil, most, least, api.ErrArg},
		{of(0, 0), -1, 1, api.ErrArg},
		{of(0, 0), 1, -1, api.ErrArg},
		// places
		{of(0, 0), 0, 0, api.ErrPlace},
		{of(0, 0), 1, 0, api.ErrPlace},
		{of(0, 0), 0, 1, api.ErrPlace},
		{of(-1, 0), 2, 2, api.ErrPlace},
		{of(0, -1), 2, 2, api.ErrPlace},
		{of(2, 0), 2, 2, api.ErrPlace},
		{of(0, 2), 2, 2, api.ErrPlace},
		{of(0, 0, -1, 1), 2, 2, api.ErrPlace},
		{of(least, 0), most, most, api.ErrPlace},
		{of(0, most), most, most, api.ErrPlace},
		// two of the same
		{of(1, 0, 1, 1), 2, 2, api.ErrTwice},
		{of(0, 1, 1, 1), 2, 2, api.ErrTwice},
		{of(0, 0, 0, 0), 1, 1, api.ErrTwice},
		{of(0, 0, 1, 1, 0, 2), 3, 3, api.ErrTwice},
		// the order of Bs
		{of(0, 1, 1, 0), 2, 2, api.ErrOrder},
		{of(0, 0, 1, 2, 2, 1), 3, 3, api.ErrOrder},
		{of(0, 1, 1, 2, 2, 0), most, most, api.ErrOrder},
		// which comes first
		{of(9, 0, 9, 0), -1, 0, api.ErrArg},
		{of(0, 1, 0, 1, 0, 0), 1, -1, api.ErrArg},
		{of(0, 0, 0, 0, 9, 0), 2, 2, api.ErrPlace},
		{of(0, 1, 1, 0, 2, 2), 3, 2, api.ErrPlace},
		{of(0, 1, 1, 0, 1, 2), 3, 3, api.ErrTwice},
		{of(0, 1, 1, 0, 2, 0), 3, 3, api.ErrTwice},
		// what was woven is no list of pairs any more
		{of(0, 0, -1, 1, 1, -1, 2, 2), 3, 3, api.ErrPlace},
	} {
		if got, errno := Order(x.l, x.na, x.nb); len(got) != 0 || errno != x.want {
			t.Errorf("Order(%v, %d, %d): %v, %v, not none, %v", x.l, x.na, x.nb, got, errno, x.want)
		}
	}
}

func TestSplitByHand(t *testing.T) {
	for _, x := range []struct {
		l, both     []api.Pair
		gone, fresh []int
	}{
		{},
		{l: []api.Pair{}},
		// what was woven: the chapter's example, and others
		{of(0, 0, -1, 1, 1, -1, 2, 2), of(0, 0, 2, 2), []int{1}, []int{1}},
		{of(0, -1, 1, -1, 2, -1), nil, []int{0, 1, 2}, nil},
		{of(-1, 0, -1, 1, -1, 2), nil, nil, []int{0, 1, 2}},
		{of(1, 0, 0, 1), of(1, 0, 0, 1), nil, nil},
		// what was not: nought is an A and a B
		{of(0, 0), of(0, 0), nil, nil},
		{of(0, -1), nil, []int{0}, nil},
		{of(-1, 0), nil, nil, []int{0}},
		// any number below 0
		{of(7, -5), nil, []int{7}, nil},
		{of(-5, 7), nil, nil, []int{7}},
		{of(7, least), nil, []int{7}, nil},
		{of(least, 7), nil, nil, []int{7}},
		// neither
		{of(-1, -1), nil, nil, nil},
		{of(-1, -5, -5, -1, least, least), nil, nil, nil},
		{of(1, 2, -5, 3, 4, -1, -1, -1, 0, 0), of(1, 2, 0, 0), []int{4}, []int{3}},
		// as they stand, in no order of their own
		{of(2, 3, 5, 1, 0, 2), of(2, 3, 5, 1, 0, 2), nil, nil},
		{of(2, -1, -1, 4, 5, -1, -1, 1, 0, -2, -2, 2), nil, []int{2, 5, 0}, []int{4, 1, 2}},
		// that come twice
		{of(1, 1, 1, 1, 1, -1, 1, -1, -1, 1, -1, 1), of(1, 1, 1, 1), []int{1, 1}, []int{1, 1}},
		{of(3, 0, 3, 1, 4, 1), of(3, 0, 3, 1, 4, 1), nil, nil},
		// very large ones
		{of(most, most), of(most, most), nil, nil},
		{of(most, least, least, most, most, -1, -1, most), nil, []int{most, most}, []int{most, most}},
		{of(most, 0, 0, most), of(most, 0, 0, most), nil, nil},
	} {
		p, a, b := Split(x.l)
		if !slices.Equal(p, x.both) || !slices.Equal(a, x.gone) || !slices.Equal(b, x.fresh) {
			t.Errorf("Split(%v): %v, %v, %v, not %v, %v, %v", x.l, p, a, b, x.both, x.gone, x.fresh)
		}
	}
}

func TestOrderOfAnyPairs(t *testing.T) {
	for _, l := range lists(3, allOf(-1, 0, 1, 2)...) {
		for n := -1; n <= 3; n++ {
			askOrder(t, l, n, 2)
			askOrder(t, l, 2, n)
		}
	}
	for _, l := range lists(2, allOf(least, -1, 0, 3, most)...) {
		for _, na := range []int{least, -1, 0, 1, 5} {
			for _, nb := range []int{least, -1, 0, 1, 5} {
				askOrder(t, l, na, nb)
			}
		}
	}
}

func TestOrderOfAllThatMayBe(t *testing.T) {
	for na := range 7 {
		for nb := range 6 {
			if na == 6 && nb > 4 {
				continue
			}
			for _, l := range mayBe(na, nb) {
				if errno := pairs.Check(l, na, nb); errno != api.OK {
					t.Fatalf("Check(%v, %d, %d): %v", l, na, nb, errno)
				}
				askOrder(t, l, na, nb)
			}
		}
	}
}

func TestSplitOfAnyList(t *testing.T) {
	for _, l := range lists(4, allOf(-2, -1, 0, 1)...) {
		askSplit(t, l)
	}
	for _, l := range lists(3, allOf(least, -1, 0, most)...) {
		askSplit(t, l)
	}
}

// rises tells whether each number is more than the one ahead of it.
func rises(l []int) bool {
	for i := 1; i < len(l); i++ {
		if l[i] <= l[i-1] {
			return false
		}
	}
	return true
}

// upTo are the numbers from 0 to n - 1.
func upTo(n int) []int {
	var l []int
	for x := range n {
		l = append(l, x)
	}
	return l
}

// isWoven tells what does not hold of a woven list, by "What holds" and by the sentences of where gone ones stand.
func isWoven(woven, l []api.Pair, na, nb int) string {
	var as, bs, calm []int
	still := map[api.Pair]bool{}
	for _, at := range pairs.Still(l) {
		still[l[at]] = true
	}
	for i, p := range woven {
		if p.A != -1 {
			as = append(as, p.A)
		}
		if p.B != -1 {
			bs = append(bs, p.B)
		}
		if p.B == -1 || still[p] {
			calm = append(calm, p.A)
		}
		if p.B == -1 && i+1 < len(woven) && woven[i+1].B != -1 && !still[woven[i+1]] {
			return "a gone one is not behind all else that stands there"
		}
	}
	slices.Sort(as)
	switch {
	case !slices.Equal(as, upTo(na)):
		return "not each of A's once"
	case !slices.Equal(bs, upTo(nb)):
		return "not each of B's once, in order"
	case !rises(calm):
		return "what is gone is not in order among what is still"
	}
	return ""
}

// askWhatHolds asks for what holds of pairs that may be.
func askWhatHolds(t *testing.T, l []api.Pair, na, nb int) {
	t.Helper()
	woven, errno := Order(l, na, nb)
	if errno != api.OK {
		t.Fatalf("Order(%.100s, %d, %d): %v", fmt.Sprint(l), na, nb, errno)
	}
	if wrong := isWoven(woven, l, na, nb); wrong != "" {
		t.Errorf("Order(%.100s, %d, %d): %s: %.100s", fmt.Sprint(l), na, nb, wrong, fmt.Sprint(woven))
	}
	p, a, b := Split(woven)
	if !slices.Equal(p, l) || !slices.Equal(a, pairs.RestA(l, na)) || !slices.Equal(b, pairs.RestB(l, nb)) {
		t.Errorf("what is split is not what was woven of %.100s, %d, %d", fmt.Sprint(l), na, nb)
	}
}

func TestWhatHoldsOfAllThatMayBe(t *testing.T) {
	for na := range 6 {
		for nb := range 6 {
			for _, l := range mayBe(na, nb) {
				askWhatHolds(t, l, na, nb)
			}
		}
	}
}

// mixed are the numbers from 0 to n - 1 without an order, the same whenever asked.
func mixed(n int) []int {
	l := upTo(n)
	x := uint32(n)
	for i := n - 1; i > 0; i-- {
		x = x*1664525 + 1013904223
		k := int(x>>8) % (i + 1)
		l[i], l[k] = l[k], l[i]
	}
	return l
}

// some are pairs of n of A's and n of B's: moved as they stand in as, without each one that a step falls on.
func some(as []int, step int) []api.Pair {
	var l []api.Pair
	for b, a := range as {
		if step == 0 || (a+b)%step != 0 {
			l = append(l, api.Pair{A: a, B: b})
		}
	}
	return l
}

func TestLongLists(t *testing.T) {
	for _, n := range []int{40, 63, 64, 65, 129, 399, 400, 401, 1000} {
		near := upTo(n)
		for i := 0; i+5 < n; i += 7 {
			near[i], near[i+4] = near[i+4], near[i]
		}
		for step := range 5 {
			askWhatHolds(t, some(mixed(n), step), n, n)
			askWhatHolds(t, some(near, step), n, n)
			askWhatHolds(t, some(near, step), n+9, n+4)
		}
	}
	near := upTo(60)
	slices.Reverse(near[20:40])
	for step := range 6 {
		askOrder(t, some(mixed(60), step), 63, 61)
		askOrder(t, some(near, step), 61, 63)
	}
}

func TestVeryLongLists(t *testing.T) {
	const n = 200000
	rising, falling := upTo(n), upTo(n)
	slices.Reverse(falling)
	for step := range 4 {
		askWhatHolds(t, some(rising, step), n, n)
		askWhatHolds(t, some(falling, step), n, n)
		askWhatHolds(t, some(mixed(n), step), n+1, n+2)
	}
	askWhatHolds(t, nil, n, n)
	askWhatHolds(t, nil, 0, n)
	askWhatHolds(t, nil, n, 0)
	askWhatHolds(t, of(n-1, n-1), n, n)
}

// An answer of so many is beyond what the document promises: the call ends all the same.
func TestFarTooMany(t *testing.T) {
	for _, l := range [][]api.Pair{nil, of(0, 0), of(1, 0, 0, 1)} {
		for _, n := range []int{2, 5, math.MaxInt32, most - 1, most} {
			for _, far := range []int{math.MaxInt32 + 1, most - 2, most} {
				if _, errno := Order(l, n, far); errno != api.OK {
					t.Errorf("Order(%v, %d, %d): %v", l, n, far, errno)
				}
				if _, errno := Order(l, far, n); errno != api.OK {
					t.Errorf("Order(%v, %d, %d): %v", l, far, n, errno)
				}
			}
		}
	}
}

// roomy is a list with a few more behind it, that are not the list's.
func roomy(l []api.Pair) []api.Pair {
	own := slices.Grow(slices.Clone(l), 4)
	behind := own[len(l):cap(own)]
	for i := range behind {
		behind[i] = api.Pair{A: 3, B: 3}
	}
	return own
}

// spoil writes over a list, and over what stands behind it.
func spoil[T any](l []T, by T) {
	l = l[:cap(l)]
	for i := range l {
		l[i] = by
	}
}

// told is what both calls tell of a list.
type told struct {
	pairs  [3][]api.Pair
	places [2][]int
	errnos [2]api.Errno
}

func tell(l []api.Pair) told {
	var w told
	w.pairs[0], w.errnos[0] = Order(l, 5, 6)
	// of so many of A's and of B's that, if they may be pairs, none is gone or new
	w.pairs[1], w.errnos[1] = Order(l, len(l), len(l))
	w.pairs[2], w.places[0], w.places[1] = Split(l)
	return w
}

// spoil writes over the lists that are told, but for the one that is left.
func (w told) spoil(left int) {
	for i, l := range w.pairs {
		if i != left {
			spoil(l, api.Pair{A: -77, B: -78})
		}
	}
	for i, l := range w.places {
		if len(w.pairs)+i != left {
			spoil(l, -79)
		}
	}
}

// one is one of the lists that are told.
func (w told) one(i int) string {
	if i < len(w.pairs) {
		return fmt.Sprint(w.pairs[i])
	}
	return fmt.Sprint(w.places[i-len(w.pairs)])
}

func TestAnswersShareNothing(t *testing.T) {
	for _, l := range [][]api.Pair{
		nil,
		of(0, 0),
		of(0, 0, 1, 1, 2, 2, 3, 3, 4, 4),
		of(3, 1, 0, 2, 2, 5),
		of(0, 0, -1, 1, 1, -1, 2, 2, 3, -1, -1, 3),
		of(1, 1, 1, 1, -1, -1),
		of(4, -1, 2, -1, 0, -1),
		of(-1, 4, -1, 2, -1, 0),
	} {
		given := roomy(l)
		before := fmt.Sprint(given[:cap(given)])
		first, second := tell(given), tell(given)
		want := fmt.Sprint(second)
		first.spoil(-1)
		if now := fmt.Sprint(given[:cap(given)]); now != before {
			t.Errorf("the argument was %s, and is %s", before, now)
		}
		if now := fmt.Sprint(second); now != want {
			t.Errorf("answers were %s, and are %s", want, now)
		}
		// R4: the same again
		if now := fmt.Sprint(tell(given)); now != want {
			t.Errorf("told was %s, and then %s", want, now)
		}
		for left := range 5 {
			answer := tell(given)
			is := answer.one(left)
			answer.spoil(left)
			if now := answer.one(left); now != is {
				t.Errorf("list %d of %v was %s, and is %s, when the others are written over", left, l, is, now)
			}
		}
		spoil(given, api.Pair{A: -1, B: -1})
		if now := fmt.Sprint(second); now != want {
			t.Errorf("answers were %s, and are %s with another argument", want, now)
		}
	}
}

func TestTheSameAgain(t *testing.T) {
	l := some(mixed(300), 3)
	first, _ := Order(l, 300, 301)
	for range 20 {
		if again, _ := Order(l, 300, 301); !slices.Equal(again, first) {
			t.Fatalf("%.100s, and then %.100s", fmt.Sprint(first), fmt.Sprint(again))
		}
	}
}

// pairsOf are pairs of bytes, two each, that are small numbers, and a few that are far off.
func pairsOf(text string) []api.Pair {
	number := func(b byte) int {
		switch b {
		case 'm':
			return most
		case 'l':
			return least
		}
		return int(b%32) - 2
	}
	var l []api.Pair
	for i := 0; i+1 < len(text); i += 2 {
		l = append(l, api.Pair{A: number(text[i]), B: number(text[i+1])})
	}
	return l
}

// repaired are those of a list that may be, in order of their Bs, so that more than errors is woven.
func repaired(l []api.Pair, na, nb int) []api.Pair {
	var own []api.Pair
	for _, p := range l {
		if pairs.Check([]api.Pair{p}, na, nb) == api.OK && !slices.ContainsFunc(own, func(q api.Pair) bool { return p.A == q.A || p.B == q.B }) {
			own = append(own, p)
		}
	}
	slices.SortFunc(own, func(p, q api.Pair) int { return p.B - q.B })
	return own
}

func FuzzWeave(f *testing.F) {
	f.Add("", 0, 0)
	f.Add("223344", 3, 3)
	f.Add("ml22lm", -1, 4)
	f.Add("928374655647382922334455", 30, 31)
	f.Fuzz(func(t *testing.T, text string, na, nb int) {
		l := pairsOf(text)
		na, nb = na%50, nb%50
		askOrder(t, l, na, nb)
		askSplit(t, l)
		if na >= 0 && nb >= 0 {
			good := repaired(l, na, nb)
			askOrder(t, good, na, nb)
			askWhatHolds(t, good, na, nb)
		}
	})
}

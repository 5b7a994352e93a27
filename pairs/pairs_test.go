package pairs

import (
	"fmt"
	"math"
	"slices"
	"testing"

	"tartan/api"
)

// of are pairs with these As, and with Bs from 0 on.
func of(as ...int) []api.Pair {
	var l []api.Pair
	for b, a := range as {
		l = append(l, api.Pair{A: a, B: b})
	}
	return l
}

// both are pairs of an A and a B each.
func both(ab ...[2]int) []api.Pair {
	var l []api.Pair
	for _, x := range ab {
		l = append(l, api.Pair{A: x[0], B: x[1]})
	}
	return l
}

// What follows, up to the first test, is a plain reading of the chapter: each pair is held against each other one.

func wantCheck(l []api.Pair, na, nb int) api.Errno {
	if na < 0 || nb < 0 {
		return api.ErrArg
	}
	for _, p := range l {
		if p.A < 0 || p.B < 0 || p.A > na-1 || p.B > nb-1 {
			return api.ErrPlace
		}
	}
	for i, p := range l {
		for _, q := range l[:i] {
			if p.A == q.A || p.B == q.B {
				return api.ErrTwice
			}
		}
	}
	for i, p := range l {
		for _, ahead := range l[:i] {
			if p.B < ahead.B {
				return api.ErrOrder
			}
		}
	}
	return api.OK
}

// wantTurn puts each pair behind all that are to stand ahead of it.
func wantTurn(l []api.Pair) []api.Pair {
	own := make([]api.Pair, len(l))
	for i, p := range l {
		ahead := 0
		for k, q := range l {
			if q.A < p.A || q.A == p.A && k < i {
				ahead++
			}
		}
		own[ahead] = api.Pair{A: p.B, B: p.A}
	}
	return own
}

func wantThrough(x, y []api.Pair) []api.Pair {
	var own []api.Pair
	for _, q := range y {
		for _, p := range x {
			if p.B == q.A {
				own = append(own, api.Pair{A: p.A, B: q.B})
				break
			}
		}
	}
	return own
}

// wantStill tries all choices of a short list.
func wantStill(l []api.Pair) []int {
	var best []int
	for choice := range 1 << len(l) {
		var places []int
		for at := range l {
			if choice>>at&1 == 1 {
				places = append(places, at)
			}
		}
		if rises(l, places) && better(places, best) {
			best = places
		}
	}
	return best
}

// rises tells whether the As at these places do, and the places, too.
func rises(l []api.Pair, places []int) bool {
	for i := 1; i < len(places); i++ {
		if places[i] <= places[i-1] || l[places[i]].A <= l[places[i-1]].A {
			return false
		}
	}
	return true
}

// better tells whether a choice is longer than another one, or as long, with the lesser place where they are unlike first.
func better(a, b []int) bool {
	if len(a) != len(b) {
		return len(a) > len(b)
	}
	for i := range a {
		if a[i] != b[i] {
			return a[i] < b[i]
		}
	}
	return false
}

// slowStill asks of each place all that are behind it: so it does for lists that are too long for trying all choices.
func slowStill(l []api.Pair) []int {
	long, next := make([]int, len(l)), make([]int, len(l))
	first := -1
	for at := len(l) - 1; at >= 0; at-- {
		long[at], next[at] = 1, -1
		for k := len(l) - 1; k > at; k-- {
			if l[k].A > l[at].A && long[k]+1 >= long[at] {
				long[at], next[at] = long[k]+1, k
			}
		}
		if first < 0 || long[at] >= long[first] {
			first = at
		}
	}
	var own []int
	for at := first; at >= 0; at = next[at] {
		own = append(own, at)
	}
	return own
}

func wantRest(taken []int, n int) []int {
	var own []int
	for x := 0; x < n; x++ {
		if !slices.Contains(taken, x) {
			own = append(own, x)
		}
	}
	return own
}

func asOf(l []api.Pair) []int {
	var own []int
	for _, p := range l {
		own = append(own, p.A)
	}
	return own
}

func bsOf(l []api.Pair) []int {
	var own []int
	for _, p := range l {
		own = append(own, p.B)
	}
	return own
}

func wantSame(a, b []api.Pair) bool {
	return slices.Equal(asOf(a), asOf(b)) && slices.Equal(bsOf(a), bsOf(b))
}

// lists are all lists of up to n of these.
func lists[T any](n int, of ...T) [][]T {
	all, from := [][]T{nil}, 0
	for range n {
		to := len(all)
		for _, l := range all[from:to] {
			for _, x := range of {
				all = append(all, append(slices.Clone(l), x))
			}
		}
		from = to
	}
	return all
}

// allOf are all pairs of these numbers.
func allOf(numbers ...int) []api.Pair {
	var all []api.Pair
	for _, a := range numbers {
		for _, b := range numbers {
			all = append(all, api.Pair{A: a, B: b})
		}
	}
	return all
}

// orders are all orders of the numbers from 0 to n - 1.
func orders(n int) [][]int {
	if n == 0 {
		return [][]int{nil}
	}
	var all [][]int
	for _, l := range orders(n - 1) {
		for at := 0; at <= len(l); at++ {
			all = append(all, slices.Insert(slices.Clone(l), at, n-1))
		}
	}
	return all
}

// mixed are n numbers from 0 to below - 1 without an order, the same ones whenever asked.
func mixed(n, below int) []int {
	var l []int
	x := uint32(n)*31 + uint32(below)
	for range n {
		x = x*1664525 + 1013904223
		l = append(l, int(x>>8)%below)
	}
	return l
}

// askAll holds all that is told of pairs, and of those with themselves, against the plain reading.
func askAll(t *testing.T, l []api.Pair, na, nb int) {
	t.Helper()
	if got, want := Check(l, na, nb), wantCheck(l, na, nb); got != want {
		t.Errorf("Check(%v, %d, %d): %v, not %v", l, na, nb, got, want)
	}
	if got, want := Turn(l), wantTurn(l); !slices.Equal(got, want) {
		t.Errorf("Turn(%v): %v, not %v", l, got, want)
	}
	if got, want := Still(l), wantStill(l); !slices.Equal(got, want) {
		t.Errorf("Still(%v): %v, not %v", l, got, want)
	}
	if got, want := RestA(l, na), wantRest(asOf(l), na); !slices.Equal(got, want) {
		t.Errorf("RestA(%v, %d): %v, not %v", l, na, got, want)
	}
	if got, want := RestB(l, nb), wantRest(bsOf(l), nb); !slices.Equal(got, want) {
		t.Errorf("RestB(%v, %d): %v, not %v", l, nb, got, want)
	}
	askTwo(t, l, l)
}

// askTwo holds all that is told of two lists against the plain reading.
func askTwo(t *testing.T, x, y []api.Pair) {
	t.Helper()
	if got, want := Through(x, y), wantThrough(x, y); !slices.Equal(got, want) {
		t.Errorf("Through(%v, %v): %v, not %v", x, y, got, want)
	}
	if got, want := Same(x, y), wantSame(x, y); got != want {
		t.Errorf("Same(%v, %v): %v, not %v", x, y, got, want)
	}
}

func TestCheckByHand(t *testing.T) {
	const least, most = math.MinInt, math.MaxInt
	for _, x := range []struct {
		l      []api.Pair
		na, nb int
		want   api.Errno
	}{
		// none at all
		{nil, 0, 0, api.OK},
		{[]api.Pair{}, 1, 1, api.OK},
		{nil, most, most, api.OK},
		{nil, 0, 7, api.OK},
		{nil, 7, 0, api.OK},
		// how many there are
		{nil, -1, 0, api.ErrArg},
		{nil, 0, -1, api.ErrArg},
		{nil, -1, -1, api.ErrArg},
		{nil, least, most, api.ErrArg},
		{nil, most, least, api.ErrArg},
		{of(0), 0, 0, api.ErrPlace},
		{of(0), 1, 0, api.ErrPlace},
		{of(0), 0, 1, api.ErrPlace},
		{of(0), 1, 1, api.OK},
		// the first one, the last one, and those beyond
		{both([2]int{-1, 0}), 3, 3, api.ErrPlace},
		{both([2]int{0, -1}), 3, 3, api.ErrPlace},
		{both([2]int{2, 0}), 3, 3, api.OK},
		{both([2]int{3, 0}), 3, 3, api.ErrPlace},
		{both([2]int{0, 2}), 3, 3, api.OK},
		{both([2]int{0, 3}), 3, 3, api.ErrPlace},
		{both([2]int{1, 4}), 2, 5, api.OK},
		{both([2]int{4, 1}), 2, 5, api.ErrPlace},
		{both([2]int{4, 1}), 5, 2, api.OK},
		{both([2]int{0, 0}, [2]int{1, 1}, [2]int{2, 3}), 3, 3, api.ErrPlace},
		{both([2]int{least, 0}), most, most, api.ErrPlace},
		{both([2]int{0, least}), most, most, api.ErrPlace},
		{both([2]int{most, 0}), most, most, api.ErrPlace},
		{both([2]int{0, most}), most, most, api.ErrPlace},
		{both([2]int{most - 1, most - 1}), most, most, api.OK},
		// two of the same
		{both([2]int{1, 0}, [2]int{1, 1}), 2, 2, api.ErrTwice},
		{both([2]int{0, 1}, [2]int{1, 1}), 2, 2, api.ErrTwice},
		{both([2]int{1, 1}, [2]int{1, 1}), 2, 2, api.ErrTwice},
		{both([2]int{1, 0}, [2]int{0, 1}), 2, 2, api.OK},
		{both([2]int{0, 0}, [2]int{2, 1}, [2]int{1, 2}, [2]int{0, 3}), 4, 4, api.ErrTwice},
		{both([2]int{0, 0}, [2]int{2, 1}, [2]int{1, 2}, [2]int{3, 0}), 4, 4, api.ErrTwice},
		// the order of Bs
		{of(2, 0, 1), 3, 3, api.OK},
		{both([2]int{0, 1}, [2]int{1, 0}), 2, 2, api.ErrOrder},
		{both([2]int{0, 0}, [2]int{1, 2}, [2]int{2, 1}), 3, 3, api.ErrOrder},
		{both([2]int{0, 1}, [2]int{1, 2}, [2]int{2, 0}), 3, 3, api.ErrOrder},
		{both([2]int{0, 1}, [2]int{1, 5}, [2]int{2, 9}), 3, 10, api.OK},
		// which comes first
		{both([2]int{-1, 0}, [2]int{-1, 0}), -1, 0, api.ErrArg},
		{both([2]int{0, 0}, [2]int{0, 0}), 1, -1, api.ErrArg},
		{both([2]int{0, 0}, [2]int{0, 0}, [2]int{9, 0}), 2, 2, api.ErrPlace},
		{both([2]int{0, 1}, [2]int{1, 0}, [2]int{2, 2}), 3, 2, api.ErrPlace},
		{both([2]int{0, 1}, [2]int{1, 0}, [2]int{-1, 2}), 3, 3, api.ErrPlace},
		{both([2]int{0, 1}, [2]int{1, 0}, [2]int{1, 2}), 3, 3, api.ErrTwice},
		{both([2]int{0, 1}, [2]int{1, 0}, [2]int{2, 0}), 3, 3, api.ErrTwice},
	} {
		if got := Check(x.l, x.na, x.nb); got != x.want {
			t.Errorf("Check(%v, %d, %d): %v, not %v", x.l, x.na, x.nb, got, x.want)
		}
		if got := wantCheck(x.l, x.na, x.nb); got != x.want {
			t.Errorf("the plain reading of %v, %d, %d: %v, not %v", x.l, x.na, x.nb, got, x.want)
		}
	}
}

func TestTurnByHand(t *testing.T) {
	const least, most = math.MinInt, math.MaxInt
	for _, x := range []struct{ l, want []api.Pair }{
		{nil, nil},
		{[]api.Pair{}, nil},
		{both([2]int{3, 5}), both([2]int{5, 3})},
		{both([2]int{2, 0}, [2]int{0, 1}), both([2]int{1, 0}, [2]int{0, 2})},
		{of(2, 0, 1), both([2]int{1, 0}, [2]int{2, 1}, [2]int{0, 2})},
		// of the same A, as they stood
		{both([2]int{1, 7}, [2]int{0, 8}, [2]int{1, 6}), both([2]int{8, 0}, [2]int{7, 1}, [2]int{6, 1})},
		{both([2]int{4, 2}, [2]int{4, 1}, [2]int{4, 2}, [2]int{4, 0}), both([2]int{2, 4}, [2]int{1, 4}, [2]int{2, 4}, [2]int{0, 4})},
		{both([2]int{1, 1}, [2]int{1, 1}), both([2]int{1, 1}, [2]int{1, 1})},
		// that may not be
		{both([2]int{0, -9}, [2]int{-9, 0}), both([2]int{0, -9}, [2]int{-9, 0})},
		{both([2]int{most, least}, [2]int{0, 0}, [2]int{least, most}), both([2]int{most, least}, [2]int{0, 0}, [2]int{least, most})},
		{both([2]int{1, 1}, [2]int{most, 2}, [2]int{least, 3}, [2]int{-1, 4}), both([2]int{3, least}, [2]int{4, -1}, [2]int{1, 1}, [2]int{2, most})},
	} {
		if got := Turn(x.l); !slices.Equal(got, x.want) {
			t.Errorf("Turn(%v): %v, not %v", x.l, got, x.want)
		}
	}
}

func TestThroughByHand(t *testing.T) {
	const least, most = math.MinInt, math.MaxInt
	for _, x := range []struct{ x, y, want []api.Pair }{
		{nil, nil, nil},
		{of(0, 1), nil, nil},
		{nil, of(0, 1), nil},
		{of(5, 6), both([2]int{1, 9}, [2]int{0, 7}), both([2]int{6, 9}, [2]int{5, 7})},
		// that no pair of x has
		{of(5, 6), both([2]int{1, 9}, [2]int{4, 8}, [2]int{0, 7}), both([2]int{6, 9}, [2]int{5, 7})},
		{of(5, 6), both([2]int{5, 0}, [2]int{6, 1}), nil},
		{of(0), both([2]int{-1, 0}), nil},
		// that several have
		{both([2]int{3, 1}, [2]int{4, 1}, [2]int{2, 1}), both([2]int{1, 0}), both([2]int{3, 0})},
		{both([2]int{9, 0}, [2]int{3, 1}, [2]int{4, 1}), both([2]int{1, 5}, [2]int{1, 5}, [2]int{0, 2}), both([2]int{3, 5}, [2]int{3, 5}, [2]int{9, 2})},
		// that comes from a nought
		{both([2]int{0, 7}, [2]int{1, 7}), both([2]int{7, 0}), both([2]int{0, 0})},
		// several of y that are alike
		{of(5), both([2]int{0, 2}, [2]int{0, 1}, [2]int{0, 2}), both([2]int{5, 2}, [2]int{5, 1}, [2]int{5, 2})},
		// that may not be
		{both([2]int{least, most}, [2]int{most, least}), both([2]int{least, least}, [2]int{most, most}, [2]int{-1, 0}), both([2]int{most, least}, [2]int{least, most})},
	} {
		if got := Through(x.x, x.y); !slices.Equal(got, x.want) {
			t.Errorf("Through(%v, %v): %v, not %v", x.x, x.y, got, x.want)
		}
	}
}

func TestStillByHand(t *testing.T) {
	const least, most = math.MinInt, math.MaxInt
	for _, x := range []struct{ as, want []int }{
		{nil, nil},
		{[]int{}, nil},
		{[]int{7}, []int{0}},
		{[]int{-7}, []int{0}},
		{[]int{0, 1, 2}, []int{0, 1, 2}},
		{[]int{2, 0, 1, 3}, []int{1, 2, 3}},
		// as long: the one whose first place is least, and the second one, and so on
		{[]int{1, 0}, []int{0}},
		{[]int{1, 0, 2}, []int{0, 2}},
		{[]int{1, 2, 0, 1}, []int{0, 1}},
		{[]int{0, 3, 1, 4, 2, 5}, []int{0, 1, 3, 5}},
		{[]int{0, 2, 1, 3}, []int{0, 1, 3}},
		{[]int{1, 0, 3, 2, 5, 4}, []int{0, 2, 4}},
		{[]int{2, 3, 0, 1}, []int{0, 1}},
		// the longer one begins later
		{[]int{9, 1, 2}, []int{1, 2}},
		{[]int{3, 4, 0, 1, 2}, []int{2, 3, 4}},
		// As that fall
		{[]int{4, 3, 2, 1}, []int{0}},
		// As that are alike
		{[]int{5, 5}, []int{0}},
		{[]int{5, 5, 5, 5}, []int{0}},
		{[]int{5, 5, 6}, []int{0, 2}},
		{[]int{5, 6, 6}, []int{0, 1}},
		{[]int{6, 5, 5, 6, 6}, []int{1, 3}},
		{[]int{1, 2, 1, 2, 3}, []int{0, 1, 4}},
		// very large and very small ones
		{[]int{least, 0, most}, []int{0, 1, 2}},
		{[]int{most, 0, least}, []int{0}},
		{[]int{least, least, most, most}, []int{0, 2}},
		{[]int{most, least, -1, least}, []int{1, 2}},
		{[]int{least, -1}, []int{0, 1}},
	} {
		if got := Still(of(x.as...)); !slices.Equal(got, x.want) {
			t.Errorf("Still of the As %v: %v, not %v", x.as, got, x.want)
		}
	}
}

func TestStillAsksNoBs(t *testing.T) {
	l := both([2]int{2, 9}, [2]int{0, 9}, [2]int{1, -4}, [2]int{3, math.MinInt})
	if got := Still(l); !slices.Equal(got, []int{1, 2, 3}) {
		t.Error(got)
	}
}

func TestRestByHand(t *testing.T) {
	const least, most = math.MinInt, math.MaxInt
	for _, x := range []struct {
		taken []int
		n     int
		want  []int
	}{
		{nil, 0, nil},
		{nil, -1, nil},
		{nil, least, nil},
		{nil, 1, []int{0}},
		{nil, 3, []int{0, 1, 2}},
		{[]int{0}, 1, nil},
		{[]int{0}, 0, nil},
		{[]int{0}, -1, nil},
		{[]int{-1}, -1, nil},
		{[]int{2, 0}, 4, []int{1, 3}},
		{[]int{3}, 4, []int{0, 1, 2}},
		{[]int{4}, 4, []int{0, 1, 2, 3}},
		{[]int{-1, 0}, 2, []int{1}},
		{[]int{1, 1, 1}, 3, []int{0, 2}},
		{[]int{2, 1, 0}, 3, nil},
		{[]int{least, most, -3}, 2, []int{0, 1}},
		{[]int{least, most, 1}, least, nil},
	} {
		as, bs := of(x.taken...), []api.Pair(nil)
		for _, b := range x.taken {
			bs = append(bs, api.Pair{A: -5, B: b})
		}
		if got := RestA(as, x.n); !slices.Equal(got, x.want) {
			t.Errorf("RestA(%v, %d): %v, not %v", as, x.n, got, x.want)
		}
		if got := RestB(bs, x.n); !slices.Equal(got, x.want) {
			t.Errorf("RestB(%v, %d): %v, not %v", bs, x.n, got, x.want)
		}
	}
}

func TestSameByHand(t *testing.T) {
	for _, x := range []struct {
		a, b []api.Pair
		want bool
	}{
		{nil, nil, true},
		{nil, []api.Pair{}, true},
		{of(0), nil, false},
		{nil, of(0), false},
		{of(0, 1), of(0), false},
		{of(0), of(0, 1), false},
		{of(2, 0), of(2, 0), true},
		{of(2, 0), of(2, 1), false},
		{of(1, 0), of(2, 0), false},
		{both([2]int{1, 2}), both([2]int{1, 3}), false},
		{both([2]int{1, 2}), both([2]int{2, 1}), false},
		{both([2]int{0, 0}, [2]int{1, 1}), both([2]int{1, 1}, [2]int{0, 0}), false},
		{both([2]int{math.MinInt, math.MaxInt}), both([2]int{math.MinInt, math.MaxInt}), true},
		{both([2]int{math.MinInt, math.MaxInt}), both([2]int{math.MaxInt, math.MinInt}), false},
	} {
		if got := Same(x.a, x.b); got != x.want {
			t.Errorf("Same(%v, %v): %v", x.a, x.b, got)
		}
	}
}

func TestAnyPairs(t *testing.T) {
	for _, l := range lists(3, allOf(-1, 0, 1, 2)...) {
		for n := -1; n <= 3; n++ {
			askAll(t, l, n, 2)
			askAll(t, l, 2, n)
		}
	}
}

func TestAnyPairsOfFarNumbers(t *testing.T) {
	for _, l := range lists(3, allOf(math.MinInt, -1, 0, math.MaxInt)...) {
		askAll(t, l, 1, 2)
		for _, n := range []int{math.MinInt, 0, math.MaxInt} {
			if got, want := Check(l, n, math.MaxInt), wantCheck(l, n, math.MaxInt); got != want {
				t.Errorf("Check(%v, %d, the most): %v, not %v", l, n, got, want)
			}
		}
	}
}

func TestAnyTwoLists(t *testing.T) {
	all := lists(2, allOf(-1, 0, 1)...)
	for _, x := range all {
		for _, y := range all {
			askTwo(t, x, y)
		}
	}
	for _, x := range lists(4, allOf(0, 1)...) {
		askTwo(t, x, of(1, 0, 1, 2))
		askTwo(t, of(2, 0), x)
	}
}

func TestStillOfAllChoices(t *testing.T) {
	var all [][]int
	all = append(all, lists(6, -1, 0, 1, 2)...)
	for n := range 8 {
		all = append(all, orders(n)...)
	}
	for _, as := range all {
		l := of(as...)
		want := wantStill(l)
		if got := Still(l); !slices.Equal(got, want) {
			t.Errorf("Still of the As %v: %v, not %v", as, got, want)
		}
		if slow := slowStill(l); !slices.Equal(slow, want) {
			t.Errorf("the slow one, of the As %v: %v, not %v", as, slow, want)
		}
	}
}

func TestStillOfLongLists(t *testing.T) {
	for _, n := range []int{40, 63, 64, 65, 128, 399, 400, 401, 512, 1000, 1025, 2049} {
		for _, below := range []int{2, 7, n/2 + 1, n, 1 << 20} {
			l := of(mixed(n, below)...)
			if got, want := Still(l), slowStill(l); !slices.Equal(got, want) {
				t.Errorf("of %d As below %d: %.60s, not %.60s", n, below, fmt.Sprint(got), fmt.Sprint(want))
			}
		}
	}
}

// Long lists, as the library sorts short ones by another way, by which those of the same A stay as they stood.
func TestTurnOfLongLists(t *testing.T) {
	for _, n := range []int{13, 50, 401, 1500} {
		for _, below := range []int{2, 7, n} {
			l := of(mixed(n, below)...)
			if got, want := Turn(l), wantTurn(l); !Same(got, want) {
				t.Errorf("of %d As below %d: %.60s, not %.60s", n, below, fmt.Sprint(got), fmt.Sprint(want))
			}
		}
	}
}

func TestVeryLongLists(t *testing.T) {
	const n = 200000
	var rising, falling, alike []int
	for i := range n {
		rising, falling, alike = append(rising, i), append(falling, n-1-i), append(alike, 3)
	}
	for _, x := range []struct {
		as   []int
		want []int
	}{{rising, rising}, {falling, []int{0}}, {alike, []int{0}}} {
		l := of(x.as...)
		if got := Still(l); !slices.Equal(got, x.want) {
			t.Errorf("%d are still, not %d", len(got), len(x.want))
		}
	}
	down := of(falling...)
	if got := Check(down, n, n); got != api.OK {
		t.Error(got)
	}
	if got := Check(down, n, n-1); got != api.ErrPlace {
		t.Error(got)
	}
	if got := Check(of(alike...), n, n); got != api.ErrTwice {
		t.Error(got)
	}
	if !Same(Turn(down), down) {
		t.Error("those that fall are not as they were when they are turned")
	}
	if turned := Turn(of(alike...)); len(turned) != n || !slices.Equal(asOf(turned), rising) || !slices.Equal(bsOf(turned), alike) {
		t.Error("those that are alike do not stay as they stood")
	}
	if got := Through(down, down); !Same(got, of(rising...)) {
		t.Error("the way back does not lead back")
	}
	if a, b := RestA(down, 2*n), RestB(down, 2*n); len(a) != n || a[0] != n || a[n-1] != 2*n-1 || !slices.Equal(a, b) {
		t.Error(len(a), len(b))
	}
}

// An answer of so many is beyond what the document promises: the call ends all the same.
func TestRestOfFarTooMany(t *testing.T) {
	for _, l := range [][]api.Pair{nil, of(2, 0, 1), both([2]int{math.MaxInt, math.MaxInt}, [2]int{math.MaxInt - 1, 0})} {
		RestA(l, math.MaxInt)
		RestB(l, math.MaxInt)
	}
}

// mayBe are all pairs that may be, of up to so many of A's and of B's.
func mayBe(most int) [][]api.Pair {
	var all [][]api.Pair
	for n := range most + 1 {
		for _, as := range orders(n) {
			for hidden := range 1 << n {
				var l []api.Pair
				for b, a := range as {
					if hidden>>b&1 == 0 {
						l = append(l, api.Pair{A: a, B: b})
					}
				}
				all = append(all, l)
			}
		}
	}
	return all
}

func TestTurnedTwice(t *testing.T) {
	for _, l := range mayBe(5) {
		if errno := Check(l, 5, 5); errno != api.OK {
			t.Fatalf("Check(%v, 5, 5): %v", l, errno)
		}
		turned := Turn(l)
		if errno := Check(turned, 5, 5); errno != api.OK {
			t.Errorf("Check(Turn(%v), 5, 5): %v", l, errno)
		}
		if again := Turn(turned); !Same(again, l) {
			t.Errorf("Turn(Turn(%v)): %v", l, again)
		}
		if !slices.Equal(RestA(l, 5), RestB(turned, 5)) || !slices.Equal(RestB(l, 5), RestA(turned, 5)) {
			t.Errorf("what is left of %v is not what is left of it turned", l)
		}
	}
}

func TestNoOtherChoiceIsLonger(t *testing.T) {
	for _, l := range mayBe(6) {
		still := Still(l)
		if want := wantStill(l); len(still) != len(want) || !rises(l, still) {
			t.Errorf("Still(%v): %v, while %v rises, too", l, still, want)
		}
	}
}

func TestThereAndBack(t *testing.T) {
	for _, l := range mayBe(4) {
		var stay []api.Pair
		for _, b := range bsOf(l) {
			stay = append(stay, api.Pair{A: b, B: b})
		}
		if got := Through(Turn(l), l); !Same(got, stay) {
			t.Errorf("there and back by %v: %v", l, got)
		}
	}
}

// roomy is a list with a few more behind it, that are not the list's.
func roomy(l []api.Pair, behind api.Pair) []api.Pair {
	own := make([]api.Pair, 0, len(l)+4)
	own = append(own, l...)
	for range 4 {
		own = append(own, behind)
	}
	return own[:len(l)]
}

// spoil writes over a list, and over what stands behind it.
func spoil[T any](l []T, by T) {
	l = l[:cap(l)]
	for i := range l {
		l[i] = by
	}
}

// told is what all calls tell of two lists.
type told struct {
	pairs  [][]api.Pair
	places [][]int
	others string
}

func tell(x, y []api.Pair) told {
	return told{
		[][]api.Pair{Turn(x), Turn(y), Through(x, y), Through(y, x)},
		[][]int{Still(x), Still(y), RestA(x, 4), RestB(x, 4), RestA(y, 6), RestB(y, 6)},
		fmt.Sprint(Check(x, 5, 5), Check(y, 5, 5), Same(x, y), Same(x, x)),
	}
}

func (w told) spoil() {
	for _, l := range w.pairs {
		spoil(l, api.Pair{A: -77, B: -78})
	}
	for _, l := range w.places {
		spoil(l, -79)
	}
}

func TestAnswersShareNothing(t *testing.T) {
	behind := api.Pair{A: 3, B: 3}
	for _, x := range [][]api.Pair{nil, of(0, 1, 2), of(2, 0, 1), of(1, 1), both([2]int{1, 1}, [2]int{0, 0}), of(-1, 9)} {
		for _, y := range [][]api.Pair{nil, of(0, 1, 2), of(1, 0), both([2]int{2, 4}, [2]int{2, 1})} {
			a, b := roomy(x, behind), roomy(y, behind)
			before := fmt.Sprint(a[:cap(a)], b[:cap(b)])
			first, second := tell(a, b), tell(a, b)
			want := fmt.Sprint(second)
			first.spoil()
			if now := fmt.Sprint(a[:cap(a)], b[:cap(b)]); now != before {
				t.Errorf("arguments were %s, and are %s", before, now)
			}
			if now := fmt.Sprint(second); now != want {
				t.Errorf("answers were %s, and are %s", want, now)
			}
			// R4: the same again
			if now := fmt.Sprint(tell(a, b)); now != want {
				t.Errorf("told was %s, and then %s", want, now)
			}
			spoil(a, api.Pair{A: -1, B: -1})
			spoil(b, api.Pair{A: -1, B: -1})
			if now := fmt.Sprint(second); now != want {
				t.Errorf("answers were %s, and are %s with other arguments", want, now)
			}
		}
	}
}

func TestListsOfAnswersShareNothing(t *testing.T) {
	x, y := of(2, 0, 1), of(1, 0)
	want := fmt.Sprint(tell(x, y))
	for at := range tell(x, y).pairs {
		got, others := tell(x, y), tell(x, y)
		spoil(got.pairs[at], api.Pair{A: -77, B: -77})
		got.pairs[at] = others.pairs[at]
		if now := fmt.Sprint(got); now != want {
			t.Errorf("%d: %s, not %s", at, now, want)
		}
	}
	for at := range tell(x, y).places {
		got, others := tell(x, y), tell(x, y)
		spoil(got.places[at], -77)
		got.places[at] = others.places[at]
		if now := fmt.Sprint(got); now != want {
			t.Errorf("%d: %s, not %s", at, now, want)
		}
	}
}

func TestTheSameAgain(t *testing.T) {
	l := of(mixed(500, 300)...)
	want := fmt.Sprint(tell(l, Turn(l)))
	for range 20 {
		if got := fmt.Sprint(tell(l, Turn(l))); got != want {
			t.Fatalf("%.100s, and then %.100s", want, got)
		}
	}
}

// pairsOf are pairs of bytes, two each, that are small numbers, and a few that are far off.
func pairsOf(text string) []api.Pair {
	number := func(b byte) int {
		switch b {
		case 'm':
			return math.MaxInt
		case 'l':
			return math.MinInt
		}
		return int(b%16) - 2
	}
	var l []api.Pair
	for i := 0; i+1 < len(text) && len(l) < 11; i += 2 {
		l = append(l, api.Pair{A: number(text[i]), B: number(text[i+1])})
	}
	return l
}

func FuzzPairs(f *testing.F) {
	f.Add("", "", 0, 0)
	f.Add("423344", "332244", 3, 3)
	f.Add("ml22lm", "l2m3", -1, 4)
	f.Add("9283746556473829", "2233445566", 12, 14)
	f.Fuzz(func(t *testing.T, one, other string, na, nb int) {
		x, y := pairsOf(one), pairsOf(other)
		if got, want := Check(x, na, nb), wantCheck(x, na, nb); got != want {
			t.Errorf("Check(%v, %d, %d): %v, not %v", x, na, nb, got, want)
		}
		na, nb = na%50, nb%50
		askAll(t, x, na, nb)
		askTwo(t, x, y)
		if Check(x, na, nb) == api.OK && !Same(Turn(Turn(x)), x) {
			t.Errorf("%v, turned twice, is %v", x, Turn(Turn(x)))
		}
	})
}

package greedy

import (
	"fmt"
	"math"
	"slices"
	"testing"

	"tartan/api"
)

// of are choices of an A, a B and a score each.
func of(abs ...[3]int) []api.Scored {
	var l []api.Scored
	for _, x := range abs {
		l = append(l, api.Scored{A: x[0], B: x[1], Score: x[2]})
	}
	return l
}

// both are pairs of an A and a B each.
func both(ab ...[2]int) []api.Pair {
	var l []api.Pair
	for _, x := range ab {
		l = append(l, api.Pair{A: x[0], B: x[1]})
	}
	return l
}

// What follows, up to the first test, is a plain reading of the chapter.

func wantBetter(a, b api.Scored) bool {
	if a.Score != b.Score {
		return a.Score > b.Score
	}
	if a.A != b.A {
		return a.A < b.A
	}
	return a.B < b.B
}

// wantPick looks for the best one of those that are left, takes it, leaves out what gives way to it, and looks again.
func wantPick(l []api.Scored) []api.Pair {
	var left []api.Scored
	for _, c := range l {
		if c.A >= 0 && c.B >= 0 {
			left = append(left, c)
		}
	}
	var own []api.Pair
	for len(left) > 0 {
		best := left[0]
		for _, c := range left {
			if wantBetter(c, best) {
				best = c
			}
		}
		own = append(own, api.Pair{A: best.A, B: best.B})
		left = slices.DeleteFunc(left, func(c api.Scored) bool { return c.A == best.A || c.B == best.B })
	}
	slices.SortFunc(own, func(p, q api.Pair) int {
		if p.B < q.B {
			return -1
		}
		return 1
	})
	return own
}

// short is the beginning of what may be long.
func short(x any) string {
	return fmt.Sprintf("%.300s", fmt.Sprint(x))
}

func askPick(t *testing.T, l []api.Scored, want []api.Pair) {
	t.Helper()
	if got := Pick(l); !slices.Equal(got, want) {
		t.Errorf("Pick(%s): %s, not %s", short(l), short(got), short(want))
	}
}

func askBetter(t *testing.T, a, b api.Scored, want bool) {
	t.Helper()
	if got := Better(a, b); got != want {
		t.Errorf("Better(%v, %v): %t, not %t", a, b, got, want)
	}
}

// bests are the pairs that may be taken, each with the best choice of it.
func bests(l []api.Scored) map[api.Pair]api.Scored {
	best := map[api.Pair]api.Scored{}
	for _, c := range l {
		p := api.Pair{A: c.A, B: c.B}
		if old, known := best[p]; c.A >= 0 && c.B >= 0 && (!known || Better(c, old)) {
			best[p] = c
		}
	}
	return best
}

// askPairs asks whether each pair was a choice, each A and each B is taken once, and the Bs rise.
func askPairs(t *testing.T, l []api.Scored, best map[api.Pair]api.Scored, picked []api.Pair) {
	t.Helper()
	as := map[int]bool{}
	for i, p := range picked {
		_, was := best[p]
		switch {
		case !was:
			t.Fatalf("Pick(%s): %v was no choice that may be taken", short(l), p)
		case as[p.A]:
			t.Fatalf("Pick(%s): the A of %v is taken twice", short(l), p)
		case i > 0 && p.B <= picked[i-1].B:
			t.Fatalf("Pick(%s): %v stands behind %v", short(l), p, picked[i-1])
		}
		as[p.A] = true
	}
}

// askHolds asks what holds of the pairs that are taken, whichever they are.
func askHolds(t *testing.T, l []api.Scored) {
	t.Helper()
	picked, best := Pick(l), bests(l)
	askPairs(t, l, best, picked)
	// the choices that were taken, by their As and by their Bs
	byA, byB := map[int]api.Scored{}, map[int]api.Scored{}
	for _, p := range picked {
		byA[p.A], byB[p.B] = best[p], best[p]
	}
	for _, c := range best {
		first, isA := byA[c.A]
		second, isB := byB[c.B]
		isTaken := isA && first == c
		givesWay := isA && Better(first, c) || isB && Better(second, c)
		if isTaken == givesWay {
			t.Fatalf("Pick(%s): %v, taken: %t; gives way to a better one: %t", short(l), c, isTaken, givesWay)
		}
	}
}

// ask holds Pick against the plain reading, and asks what holds.
func ask(t *testing.T, l []api.Scored) {
	t.Helper()
	askPick(t, l, wantPick(l))
	askHolds(t, l)
}

// orders are all orders of a list.
func orders[T any](l []T) [][]T {
	if len(l) == 0 {
		return [][]T{nil}
	}
	var all [][]T
	for _, rest := range orders(l[1:]) {
		for at := range len(l) {
			all = append(all, slices.Insert(slices.Clone(rest), at, l[0]))
		}
	}
	return all
}

// grid are all choices of these As, these Bs and these scores.
func grid(as, bs, scores []int) []api.Scored {
	var l []api.Scored
	for _, a := range as {
		for _, b := range bs {
			for _, score := range scores {
				l = append(l, api.Scored{A: a, B: b, Score: score})
			}
		}
	}
	return l
}

// far are numbers whose differences are not told by an int.
var far = []int{math.MinInt, math.MinInt + 1, -1, 0, 1, math.MaxInt - 1, math.MaxInt}

func TestExamples(t *testing.T) {
	askPick(t, of([3]int{0, 0, 2}, [3]int{0, 1, 3}, [3]int{1, 1, 3}), both([2]int{0, 1}))
	askPick(t, of([3]int{0, 0, 2}, [3]int{1, 1, 3}), both([2]int{0, 0}, [2]int{1, 1}))
}

func TestBetterByHand(t *testing.T) {
	for _, x := range []struct {
		a, b [3]int
		want bool
	}{
		// by the score, whatever A and B are
		{[3]int{0, 0, 3}, [3]int{0, 0, 2}, true},
		{[3]int{0, 0, 2}, [3]int{0, 0, 3}, false},
		{[3]int{9, 9, 3}, [3]int{0, 0, 2}, true},
		{[3]int{0, 0, 2}, [3]int{9, 9, 3}, false},
		{[3]int{9, 0, 3}, [3]int{0, 9, 2}, true},
		// by the A, whatever B is
		{[3]int{1, 0, 2}, [3]int{2, 0, 2}, true},
		{[3]int{2, 0, 2}, [3]int{1, 0, 2}, false},
		{[3]int{1, 9, 2}, [3]int{2, 0, 2}, true},
		{[3]int{2, 0, 2}, [3]int{1, 9, 2}, false},
		// by the B
		{[3]int{1, 0, 2}, [3]int{1, 1, 2}, true},
		{[3]int{1, 1, 2}, [3]int{1, 0, 2}, false},
		// alike in all three
		{[3]int{0, 0, 0}, [3]int{0, 0, 0}, false},
		{[3]int{1, 2, 3}, [3]int{1, 2, 3}, false},
		{[3]int{-1, -2, -3}, [3]int{-1, -2, -3}, false},
		// 0 and below it: of the scores, of the As, of the Bs
		{[3]int{5, 5, 0}, [3]int{0, 0, -1}, true},
		{[3]int{0, 0, -1}, [3]int{5, 5, 0}, false},
		{[3]int{5, 5, -1}, [3]int{0, 0, -2}, true},
		{[3]int{5, 5, 1}, [3]int{0, 0, -9}, true},
		{[3]int{-1, 5, 2}, [3]int{0, 0, 2}, true},
		{[3]int{-1, 0, 2}, [3]int{-2, 5, 2}, false},
		{[3]int{-2, 5, 2}, [3]int{-1, 0, 2}, true},
		{[3]int{0, -1, 2}, [3]int{0, 0, 2}, true},
		{[3]int{0, 0, 2}, [3]int{0, -1, 2}, false},
		// as far from each other as may be
		{[3]int{0, 0, math.MaxInt}, [3]int{0, 0, math.MinInt}, true},
		{[3]int{0, 0, math.MinInt}, [3]int{0, 0, math.MaxInt}, false},
		{[3]int{0, 0, 1}, [3]int{0, 0, math.MinInt}, true},
		{[3]int{math.MinInt, 0, 2}, [3]int{math.MaxInt, 0, 2}, true},
		{[3]int{math.MaxInt, 0, 2}, [3]int{math.MinInt, 0, 2}, false},
		{[3]int{0, math.MinInt, 2}, [3]int{0, math.MaxInt, 2}, true},
		{[3]int{0, math.MaxInt, 2}, [3]int{0, math.MinInt, 2}, false},
	} {
		a, b := of(x.a)[0], of(x.b)[0]
		askBetter(t, a, b, x.want)
		if wantBetter(a, b) != x.want {
			t.Errorf("the plain reading of %v and %v differs", a, b)
		}
	}
}

// Of two that are not alike just one is better, of two that are none; and better than a better one is better.
func TestBetterIsAnOrder(t *testing.T) {
	for _, all := range [][]api.Scored{
		grid([]int{-1, 0, 1}, []int{-1, 0, 1}, []int{-1, 0, 1}),
		grid([]int{0, 1, 2, 3}, []int{0, 1, 2, 3}, []int{0, 1, 2, 3}),
		grid([]int{math.MinInt, 0, math.MaxInt}, far, far),
	} {
		for _, a := range all {
			for _, b := range all {
				ahead, behind := Better(a, b), Better(b, a)
				if a == b && (ahead || behind) || a != b && ahead == behind {
					t.Fatalf("of %v and %v: %t and %t", a, b, ahead, behind)
				}
				askBetter(t, a, b, wantBetter(a, b))
				if !ahead {
					continue
				}
				for _, c := range all {
					if Better(b, c) && !Better(a, c) {
						t.Fatalf("%v is better than %v, that one than %v, but not the first than the last", a, b, c)
					}
				}
			}
		}
	}
}

func TestPickByHand(t *testing.T) {
	for _, x := range []struct {
		l    [][3]int
		want [][2]int
	}{
		// no choices, and one
		{nil, nil},
		{[][3]int{}, nil},
		{[][3]int{{0, 0, 1}}, [][2]int{{0, 0}}},
		{[][3]int{{7, 3, 1}}, [][2]int{{7, 3}}},
		{[][3]int{{-1, 0, 1}}, nil},
		{[][3]int{{0, -1, 1}}, nil},
		{[][3]int{{-1, -1, 1}}, nil},
		// ordinary ones: none gives way, and the Bs rise, whatever the As, the scores and the order are
		{[][3]int{{0, 2, 9}, {1, 0, 5}, {2, 1, 7}}, [][2]int{{1, 0}, {2, 1}, {0, 2}}},
		{[][3]int{{3, 30, 1}, {2, 20, 2}, {1, 10, 3}}, [][2]int{{1, 10}, {2, 20}, {3, 30}}},
		{[][3]int{{1, 10, 3}, {2, 9, 3}, {3, 100, 3}}, [][2]int{{2, 9}, {1, 10}, {3, 100}}},
		// three by three
		{[][3]int{{0, 0, 5}, {0, 1, 9}, {0, 2, 1}, {1, 0, 4}, {1, 1, 8}, {1, 2, 3}, {2, 0, 2}, {2, 1, 7}, {2, 2, 6}}, [][2]int{{1, 0}, {0, 1}, {2, 2}}},
		{[][3]int{{0, 0, 9}, {0, 1, 8}, {1, 0, 8}, {1, 1, 1}}, [][2]int{{0, 0}, {1, 1}}},
		// alike in all three
		{[][3]int{{3, 4, 1}, {3, 4, 1}}, [][2]int{{3, 4}}},
		{[][3]int{{0, 0, 0}, {0, 0, 0}, {0, 0, 0}}, [][2]int{{0, 0}}},
		{[][3]int{{1, 1, 2}, {0, 0, 2}, {1, 1, 2}, {0, 0, 2}}, [][2]int{{0, 0}, {1, 1}}},
		{[][3]int{{-1, 0, 2}, {-1, 0, 2}}, nil},
		// alike but for the score
		{[][3]int{{3, 4, 1}, {3, 4, 2}}, [][2]int{{3, 4}}},
		{[][3]int{{3, 4, 2}, {3, 4, 1}, {3, 5, 2}}, [][2]int{{3, 4}}},
		{[][3]int{{3, 4, 1}, {3, 4, 9}, {3, 5, 8}}, [][2]int{{3, 4}}},
		// A, B or both are below 0: left out, and nothing gives way to them
		{[][3]int{{-1, 0, 9}, {0, 0, 1}}, [][2]int{{0, 0}}},
		{[][3]int{{0, -1, 9}, {0, 0, 1}}, [][2]int{{0, 0}}},
		{[][3]int{{-1, -1, 9}, {0, 0, 1}}, [][2]int{{0, 0}}},
		{[][3]int{{-1, 0, 9}, {0, -1, 9}, {-1, -1, 9}}, nil},
		{[][3]int{{-1, 1, 9}, {2, 1, 3}, {2, -5, 8}, {2, 0, 2}, {3, 0, 1}}, [][2]int{{3, 0}, {2, 1}}},
		{[][3]int{{math.MinInt, 0, 9}, {0, math.MinInt, 9}, {0, 0, -9}}, [][2]int{{0, 0}}},
		// as good, with another A
		{[][3]int{{1, 0, 2}, {0, 0, 2}}, [][2]int{{0, 0}}},
		{[][3]int{{0, 0, 2}, {1, 0, 2}}, [][2]int{{0, 0}}},
		{[][3]int{{2, 5, 2}, {1, 5, 2}, {3, 5, 2}}, [][2]int{{1, 5}}},
		{[][3]int{{1, 0, 2}, {0, 1, 2}, {1, 1, 2}}, [][2]int{{1, 0}, {0, 1}}},
		// as good, with the same A and another B
		{[][3]int{{0, 1, 2}, {0, 0, 2}}, [][2]int{{0, 0}}},
		{[][3]int{{0, 0, 2}, {0, 1, 2}}, [][2]int{{0, 0}}},
		{[][3]int{{4, 9, 2}, {4, 7, 2}, {4, 8, 2}}, [][2]int{{4, 7}}},
		// as good: the A is asked ahead of the B
		{[][3]int{{1, 0, 2}, {0, 5, 2}, {1, 5, 2}, {0, 0, 1}}, [][2]int{{1, 0}, {0, 5}}},
		{[][3]int{{1, 0, 2}, {0, 1, 2}, {0, 0, 2}, {1, 1, 2}}, [][2]int{{0, 0}, {1, 1}}},
		{[][3]int{{1, 3, 2}, {0, 3, 2}, {0, 4, 2}, {1, 4, 2}}, [][2]int{{0, 3}, {1, 4}}},
		// scores that are 0 or below it: taken like any other one
		{[][3]int{{0, 0, 0}}, [][2]int{{0, 0}}},
		{[][3]int{{0, 0, -5}}, [][2]int{{0, 0}}},
		{[][3]int{{0, 0, -5}, {0, 1, 0}}, [][2]int{{0, 1}}},
		{[][3]int{{0, 0, -2}, {0, 1, -1}, {1, 1, -3}, {1, 0, -9}}, [][2]int{{1, 0}, {0, 1}}},
		{[][3]int{{0, 0, math.MinInt}, {1, 0, math.MaxInt}, {0, 1, -1}, {2, 1, 1}}, [][2]int{{1, 0}, {2, 1}}},
		{[][3]int{{0, 0, math.MinInt}}, [][2]int{{0, 0}}},
		// gives way by its A, by its B, by both (of one that is taken, or of two)
		{[][3]int{{0, 0, 2}, {0, 1, 3}}, [][2]int{{0, 1}}},
		{[][3]int{{0, 0, 2}, {1, 0, 3}}, [][2]int{{1, 0}}},
		{[][3]int{{0, 0, 2}, {0, 0, 3}}, [][2]int{{0, 0}}},
		{[][3]int{{0, 1, 2}, {0, 0, 3}, {1, 1, 4}}, [][2]int{{0, 0}, {1, 1}}},
		{[][3]int{{0, 1, 2}, {1, 0, 1}, {0, 0, 3}, {1, 1, 4}}, [][2]int{{0, 0}, {1, 1}}},
		// what gave way to a better one makes room for a third one
		{[][3]int{{0, 0, 1}, {0, 1, 2}, {1, 1, 3}}, [][2]int{{0, 0}, {1, 1}}},
		{[][3]int{{0, 0, 1}, {1, 0, 2}, {1, 1, 3}}, [][2]int{{0, 0}, {1, 1}}},
		{[][3]int{{1, 0, 1}, {1, 1, 2}, {0, 1, 2}}, [][2]int{{1, 0}, {0, 1}}},
		{[][3]int{{0, 0, 1}, {0, 1, 2}, {1, 1, 3}, {1, 2, 4}}, [][2]int{{0, 1}, {1, 2}}},
		{[][3]int{{0, 0, 1}, {0, 1, 5}, {2, 1, 4}, {2, 0, 0}}, [][2]int{{2, 0}, {0, 1}}},
		// far numbers
		{[][3]int{{math.MaxInt, 0, 1}, {0, math.MaxInt, 1}, {math.MaxInt, math.MaxInt, 1}}, [][2]int{{math.MaxInt, 0}, {0, math.MaxInt}}},
		{[][3]int{{math.MaxInt, math.MaxInt, 1}, {math.MaxInt, 1 << 32, 1}, {0, 0, -1}}, [][2]int{{0, 0}, {math.MaxInt, 1 << 32}}},
		{[][3]int{{1 << 32, 0, 1}, {0, 1 << 32, 1}, {0, 0, 0}}, [][2]int{{1 << 32, 0}, {0, 1 << 32}}},
	} {
		l, want := of(x.l...), both(x.want...)
		askPick(t, l, want)
		back := slices.Clone(l)
		slices.Reverse(back)
		askPick(t, back, want)
		ask(t, l)
	}
}

// askAll asks all lists of up to n of these choices.
func askAll(t *testing.T, n int, from []api.Scored) {
	l := make([]api.Scored, 0, n)
	var more func()
	more = func() {
		ask(t, l)
		if len(l) == n || t.Failed() {
			return
		}
		for _, c := range from {
			l = append(l, c)
			more()
			l = l[:len(l)-1]
		}
	}
	more()
}

func TestAllShortLists(t *testing.T) {
	askAll(t, 3, grid([]int{-1, 0, 1}, []int{-1, 0, 1}, []int{-1, 0, 1}))
	askAll(t, 4, grid([]int{0, 1}, []int{0, 1, 2}, []int{1, 2}))
	askAll(t, 5, grid([]int{0, 1}, []int{0, 1}, []int{1, 2}))
	askAll(t, 2, grid(far, far, []int{math.MinInt, 0, math.MaxInt}))
}

// All that two or three As and Bs may score: each of these choices is there.
func TestAllScores(t *testing.T) {
	for _, x := range []struct{ as, bs, below int }{{2, 2, 5}, {2, 3, 4}, {3, 2, 4}, {3, 3, 3}} {
		n := 1
		for range x.as * x.bs {
			n *= x.below
		}
		for number := range n {
			var l []api.Scored
			for a := range x.as {
				for b := range x.bs {
					l = append(l, api.Scored{A: a, B: b, Score: number % x.below})
					number /= x.below
				}
			}
			ask(t, l)
		}
	}
}

func TestOrderIsNotAsked(t *testing.T) {
	for _, l := range [][]api.Scored{
		of([3]int{0, 0, 2}, [3]int{0, 1, 3}, [3]int{1, 1, 3}),
		of([3]int{0, 0, 1}, [3]int{0, 1, 2}, [3]int{1, 1, 3}, [3]int{1, 2, 4}, [3]int{2, 2, 5}, [3]int{3, 3, 0}),
		of([3]int{0, 0, 1}, [3]int{0, 1, 1}, [3]int{1, 0, 1}, [3]int{1, 1, 1}, [3]int{2, 0, 1}, [3]int{0, 2, 1}, [3]int{2, 2, 1}),
		of([3]int{5, 5, 0}, [3]int{5, 5, 0}, [3]int{5, 4, 0}, [3]int{4, 5, 0}, [3]int{-1, 5, 7}, [3]int{5, -1, 7}, [3]int{4, 4, -1}),
		of([3]int{0, 1, 3}, [3]int{0, 1, 2}, [3]int{0, 1, 1}, [3]int{1, 0, 3}, [3]int{1, 1, 2}, [3]int{0, 0, 2}, [3]int{1, 0, 3}),
	} {
		want := wantPick(l)
		for _, ordered := range orders(l) {
			askPick(t, ordered, want)
		}
	}
}

// mixed are n choices of so many As, Bs and scores, without an order, the same whenever asked.
func mixed(n, as, bs, scores int, from uint32) []api.Scored {
	next := func(below int) int {
		from = from*1664525 + 1013904223
		return int(from>>8) % below
	}
	l := make([]api.Scored, n)
	for i := range l {
		l[i] = api.Scored{A: next(as), B: next(bs), Score: next(scores) - scores/2}
	}
	return l
}

// shuffled is a list in another order, the same whenever asked.
func shuffled(l []api.Scored, from uint32) []api.Scored {
	own := slices.Clone(l)
	for i := len(own) - 1; i > 0; i-- {
		from = from*1664525 + 1013904223
		j := int(from>>8) % (i + 1)
		own[i], own[j] = own[j], own[i]
	}
	return own
}

func TestLongerLists(t *testing.T) {
	for _, n := range []int{7, 11, 12, 13, 20, 49, 50, 51, 100, 400, 1000} {
		for k, scores := range []int{1, 2, 7, 1000, 1 << 20} {
			for _, x := range [][2]int{{3, 3}, {40, 40}, {1, 400}, {400, 2}, {4000, 5000}} {
				l := mixed(n, x[0], x[1], scores, uint32(n+k))
				for i := range l {
					switch {
					case i%11 == 3:
						l[i].A -= x[0]
					case i%13 == 5:
						l[i].B = -1
					}
				}
				ask(t, l)
				askPick(t, shuffled(l, uint32(n)), Pick(l))
			}
		}
	}
}

// As many choices as two tables may have, each row or each column with each other one.
func TestAllOfTwoTables(t *testing.T) {
	for _, n := range []int{api.MaxCols - 1, api.MaxCols, api.MaxCols + 1, api.MaxRows - 1, api.MaxRows, api.MaxRows + 1} {
		// each has one of its own on the other side, as 11 divides none of these numbers: the nearer to that one, the better
		var l []api.Scored
		want := make([]api.Pair, n)
		for i := range n {
			to := (i*11 + n/2) % n
			want[to] = api.Pair{A: i, B: to}
			for j := range n {
				l = append(l, api.Scored{A: i, B: j, Score: -max(to-j, j-to)})
			}
		}
		askPick(t, l, want)
		askPick(t, shuffled(l, uint32(n)), want)
		// all as good: each with the one at its own place
		for i := range l {
			l[i].Score = 3
		}
		for i := range want {
			want[i] = api.Pair{A: i, B: i}
		}
		askPick(t, l, want)
		askPick(t, shuffled(l, uint32(n)), want)
	}
}

func TestVeryLongLists(t *testing.T) {
	const n = 400000
	// each one but the first shares its A with the one ahead, or its B, and is worse: every second one is taken
	var chain []api.Scored
	var want []api.Pair
	for i := range n {
		chain = append(chain, api.Scored{A: (i + 1) / 2, B: i / 2, Score: -i})
		if i%2 == 0 {
			want = append(want, api.Pair{A: i / 2, B: i / 2})
		}
	}
	askPick(t, chain, want)
	slices.Reverse(chain)
	askPick(t, chain, want)
	askPick(t, shuffled(chain, 9), want)
	// alike in all three, all of them
	askPick(t, slices.Repeat(of([3]int{4, 2, 1}), n), both([2]int{4, 2}))
	// all left out
	askPick(t, slices.Repeat(of([3]int{4, -2, 1}, [3]int{-4, 2, 1}), n/2), nil)
	// without an order
	for _, x := range [][2]int{{n, n}, {1000, 1000}, {1, n}} {
		l := mixed(n, x[0], x[1], 50, 5)
		picked := Pick(l)
		askPick(t, shuffled(l, 3), picked)
		if x[0]*x[1] <= 1000*1000 {
			askHolds(t, l)
		}
	}
}

// roomy is a list with a few more behind it, that are not the list's, and better than all.
func roomy(l []api.Scored) []api.Scored {
	own := slices.Grow(slices.Clone(l), 4)
	behind := own[len(l):cap(own)]
	for i := range behind {
		behind[i] = api.Scored{A: i, B: i, Score: math.MaxInt}
	}
	return own
}

// spoil writes over a list, and over what stands behind it.
func spoil[T any](l []T, by T) {
	l = l[:cap(l)]
	for i := range l {
		l[i] = by
	}
}

func TestArgumentsStayAndAnswersShareNothing(t *testing.T) {
	for _, l := range [][]api.Scored{
		nil,
		of([3]int{1, 2, 3}),
		of([3]int{-1, 2, 3}, [3]int{2, -1, 3}),
		of([3]int{0, 0, 2}, [3]int{0, 1, 3}, [3]int{1, 1, 3}),
		of([3]int{0, 0, 1}, [3]int{1, 1, 2}, [3]int{2, 2, 3}, [3]int{2, 2, 3}),
		mixed(60, 9, 9, 5, 1),
	} {
		own := roomy(l)
		before := fmt.Sprint(own[:cap(own)])
		first, second := Pick(own), Pick(own)
		want := wantPick(l)
		spoil(first, api.Pair{A: -77, B: -78})
		if now := fmt.Sprint(own[:cap(own)]); now != before {
			t.Errorf("the argument was %s, and is %s", short(before), short(now))
		}
		if !slices.Equal(second, want) {
			t.Errorf("an answer is %s, not %s, with another one spoilt", short(second), short(want))
		}
		// R4: the same again
		askPick(t, own, want)
		spoil(own, api.Scored{A: 5, B: 5, Score: 5})
		if !slices.Equal(second, want) {
			t.Errorf("an answer is %s, not %s, with its argument spoilt", short(second), short(want))
		}
		askPick(t, own[:min(1, len(own))], both([2]int{5, 5})[:min(1, len(own))])
	}
}

// However its maps are gone through, a call tells the same again; and what one call took is free in another one.
func TestTheSameAgain(t *testing.T) {
	l := mixed(700, 90, 80, 4, 7)
	want := wantPick(l)
	for range 50 {
		askPick(t, l, want)
		askPick(t, l[:350], wantPick(l[:350]))
	}
}

func FuzzGreedy(f *testing.F) {
	f.Add([]byte{}, uint32(1))
	f.Add([]byte{0, 0, 2, 0, 1, 3, 1, 1, 3}, uint32(2))
	f.Add([]byte{0, 0, 2, 1, 1, 3}, uint32(3))
	f.Add([]byte{255, 0, 9, 0, 255, 9, 0, 0, 129}, uint32(4))
	f.Fuzz(func(t *testing.T, text []byte, from uint32) {
		const most = 300
		var l []api.Scored
		for c := range slices.Chunk(text[:min(len(text), most)], 3) {
			if len(c) == 3 {
				l = append(l, api.Scored{A: int(int8(c[0])), B: int(int8(c[1])), Score: int(int8(c[2]))})
			}
		}
		ask(t, l)
		askPick(t, shuffled(l, from), wantPick(l))
		for i := range l {
			a, b := l[i], l[len(l)-1-i]
			askBetter(t, a, b, wantBetter(a, b))
		}
	})
}

package rows

import (
	"fmt"
	"slices"
	"strconv"
	"strings"
	"testing"

	"tartan/api"
	"tartan/edit"
)

// list is a list as it is written here: texts with commas between; a stroke upwards alone is a list without texts.
func list(s string) []string {
	if s == "^" {
		return nil
	}
	return strings.Split(s, ",")
}

// of is a table as it is written here: the head and the rows, with strokes between.
func of(s string) api.Table {
	var t api.Table
	for i, line := range strings.Split(s, "|") {
		if i == 0 {
			t.Head = list(line)
			continue
		}
		t.Rows = append(t.Rows, list(line))
	}
	return t
}

// ofPairs are pairs as they are written here: the places of both with a colon between, with commas between pairs.
func ofPairs(s string) []api.Pair {
	var own []api.Pair
	for _, text := range list(s) {
		a, b, _ := strings.Cut(text, ":")
		own = append(own, api.Pair{A: number(a), B: number(b)})
	}
	return own
}

func number(s string) int {
	n, err := strconv.Atoi(s)
	if err != nil {
		panic(err)
	}
	return n
}

// upTo are all lists of up to n of these.
func upTo[T any](n int, of ...T) [][]T {
	lists, from := [][]T{nil}, 0
	for range n {
		to := len(lists)
		for _, l := range lists[from:to] {
			for _, x := range of {
				lists = append(lists, append(slices.Clone(l), x))
			}
		}
		from = to
	}
	return lists
}

// orders are all orders of the numbers from 0 on, less than n.
func orders(n int) [][]int {
	if n == 0 {
		return [][]int{nil}
	}
	var own [][]int
	for _, l := range orders(n - 1) {
		for at := range n {
			own = append(own, slices.Insert(slices.Clone(l), at, n-1))
		}
	}
	return own
}

// each is each of so many, paired with itself.
func each(n int) []api.Pair {
	own := make([]api.Pair, n)
	for i := range own {
		own[i] = api.Pair{A: i, B: i}
	}
	return own
}

// byB are pairs in order of their Bs.
func byB(l []api.Pair) []api.Pair {
	own := slices.Clone(l)
	slices.SortFunc(own, func(p, q api.Pair) int { return p.B - q.B })
	return own
}

// turned are pairs with As and Bs changed about.
func turned(l []api.Pair) []api.Pair {
	own := slices.Clone(l)
	for i, p := range own {
		own[i] = api.Pair{A: p.B, B: p.A}
	}
	return byB(own)
}

// short is the beginning of what may be long.
func short(x any) string {
	return fmt.Sprintf("%.300s", fmt.Sprintf("%q", x))
}

// few is the beginning of pairs of which there may be many.
func few(l []api.Pair) string {
	return fmt.Sprint(len(l), " ", l[:min(len(l), 40)])
}

// What follows, up to the first asking function, is a plain reading of the chapter, and of what it takes from those ahead of it.

func wantCheck(t api.Table) api.Errno {
	if len(t.Head) == 0 {
		return api.ErrEmpty
	}
	for _, row := range t.Rows {
		if len(row) != len(t.Head) {
			return api.ErrWidth
		}
	}
	for i, name := range t.Head {
		if slices.Contains(t.Head[:i], name) {
			return api.ErrTwice
		}
	}
	total := 0
	for _, line := range append([][]string{t.Head}, t.Rows...) {
		for _, text := range line {
			if len(text) > 1000 {
				return api.ErrLarge
			}
			total += len(text)
		}
	}
	if len(t.Head) > 40 || len(t.Rows) > 400 || total > 40000 {
		return api.ErrLarge
	}
	return api.OK
}

func wantPairsCheck(l []api.Pair, na, nb int) api.Errno {
	for _, p := range l {
		if p.A < 0 || p.A >= na || p.B < 0 || p.B >= nb {
			return api.ErrPlace
		}
	}
	for i, p := range l {
		for _, q := range l[:i] {
			if p.A == q.A || p.B == q.B {
				return api.ErrTwice
			}
		}
	}
	for i := 1; i < len(l); i++ {
		if l[i].B < l[i-1].B {
			return api.ErrOrder
		}
	}
	return api.OK
}

func wantCell(t api.Table, row, col int) string {
	if col >= len(t.Rows[row]) {
		return ""
	}
	return t.Rows[row][col]
}

// wantCount is at how many of these columns a row of a and one of b have the same cells.
func wantCount(a, b api.Table, i, k int, cols []api.Pair) int {
	n := 0
	for _, p := range cols {
		if wantCell(a, i, p.A) == wantCell(b, k, p.B) {
			n++
		}
	}
	return n
}

// wantKey are the columns of names in both heads; false, if one is not in both.
func wantKey(a, b api.Table, names []string) ([]api.Pair, bool) {
	var own []api.Pair
	for _, name := range names {
		p, q := slices.Index(a.Head, name), slices.Index(b.Head, name)
		if p < 0 || q < 0 {
			return nil, false
		}
		own = append(own, api.Pair{A: p, B: q})
	}
	return own, true
}

// wantUsable holds each row against all ahead of it.
func wantUsable(t api.Table, names []string) bool {
	key, known := wantKey(t, t, names)
	if !known || len(names) == 0 {
		return false
	}
	for i, name := range names {
		if slices.Contains(names[:i], name) {
			return false
		}
	}
	for i := range t.Rows {
		for k := range i {
			if wantCount(t, t, i, k, key) == len(key) {
				return false
			}
		}
	}
	return true
}

func wantByKey(a, b api.Table, names []string) []api.Pair {
	if !wantUsable(a, names) || !wantUsable(b, names) {
		return nil
	}
	key, _ := wantKey(a, b, names)
	var own []api.Pair
	for k := range b.Rows {
		for i := range a.Rows {
			if wantCount(a, b, i, k, key) == len(key) {
				own = append(own, api.Pair{A: i, B: k})
			}
		}
	}
	return own
}

// wantCommon is the longest common row of two tables' rows, of which it is known which ones are alike.
func wantCommon(na, nb int, alike func(i, k int) bool) []api.Pair {
	long := make([][]int, na+1)
	for i := na; i >= 0; i-- {
		long[i] = make([]int, nb+1)
		for k := nb; k >= 0; k-- {
			switch {
			case i == na || k == nb:
			case alike(i, k):
				long[i][k] = 1 + long[i+1][k+1]
			default:
				long[i][k] = max(long[i+1][k], long[i][k+1])
			}
		}
	}
	var own []api.Pair
	i, k := 0, 0
	for i < na && k < nb {
		if alike(i, k) {
			own = append(own, api.Pair{A: i, B: k})
			i++
			k++
		} else if long[i+1][k] >= long[i][k+1] {
			i++
		} else {
			k++
		}
	}
	return own
}

// wantBest is the place of the choice that is taken of these: as they stand in order of their As, and of the same A in order of their Bs, it is the first one of those with the highest score.
func wantBest(l []api.Scored) int {
	best := 0
	for i, c := range l {
		if c.Score > l[best].Score {
			best = i
		}
	}
	return best
}

func wantByLook(a, b api.Table, cols []api.Pair) []api.Pair {
	if len(cols) == 0 || wantPairsCheck(cols, len(a.Head), len(b.Head)) != api.OK {
		return nil
	}
	own := wantCommon(len(a.Rows), len(b.Rows), func(i, k int) bool { return wantCount(a, b, i, k, cols) == len(cols) })
	goneA, goneB := map[int]bool{}, map[int]bool{}
	for _, p := range own {
		goneA[p.A], goneB[p.B] = true, true
	}
	var l []api.Scored
	for i := range a.Rows {
		for k := range b.Rows {
			score := wantCount(a, b, i, k, cols)
			if !goneA[i] && !goneB[k] && score+score > len(cols) {
				l = append(l, api.Scored{A: i, B: k, Score: score})
			}
		}
	}
	for len(l) > 0 {
		taken := l[wantBest(l)]
		own = append(own, api.Pair{A: taken.A, B: taken.B})
		l = slices.DeleteFunc(l, func(c api.Scored) bool { return c.A == taken.A || c.B == taken.B })
	}
	return byB(own)
}

func wantAlign(a, b api.Table, cols []api.Pair, names []string) ([]api.Pair, api.Errno) {
	for _, errno := range []api.Errno{wantCheck(a), wantCheck(b), wantPairsCheck(cols, len(a.Head), len(b.Head))} {
		if errno != api.OK {
			return nil, errno
		}
	}
	if !wantUsable(a, names) || !wantUsable(b, names) {
		return wantByLook(a, b, cols), api.OK
	}
	key, _ := wantKey(a, b, names)
	for _, p := range key {
		if !slices.Contains(cols, p) {
			return wantByLook(a, b, cols), api.OK
		}
	}
	return wantByKey(a, b, names), api.OK
}

func askByKey(t *testing.T, a, b api.Table, names []string, want []api.Pair) {
	t.Helper()
	if got := ByKey(a, b, names); !slices.Equal(got, want) {
		t.Errorf("ByKey(%s, %s, %s): %s, not %s", short(a), short(b), short(names), few(got), few(want))
	}
}

func askByLook(t *testing.T, a, b api.Table, cols []api.Pair, want []api.Pair) {
	t.Helper()
	if got := ByLook(a, b, cols); !slices.Equal(got, want) {
		t.Errorf("ByLook(%s, %s, %s): %s, not %s", short(a), short(b), few(cols), few(got), few(want))
	}
}

func askAlign(t *testing.T, a, b api.Table, cols []api.Pair, names []string, want []api.Pair, errno api.Errno) {
	t.Helper()
	if got, gotErrno := Align(a, b, cols, names); !slices.Equal(got, want) || gotErrno != errno {
		t.Errorf("Align(%s, %s, %s, %s): %s %d, not %s %d", short(a), short(b), few(cols), short(names), few(got), gotErrno, few(want), errno)
	}
}

// ask asks all calls of two tables, and holds them against the plain reading.
func ask(t *testing.T, a, b api.Table, cols []api.Pair, names []string) {
	t.Helper()
	askByKey(t, a, b, names, wantByKey(a, b, names))
	askByLook(t, a, b, cols, wantByLook(a, b, cols))
	want, errno := wantAlign(a, b, cols, names)
	askAlign(t, a, b, cols, names, want, errno)
}

// askOrder asks that pairs are of rows that there are, stand in order of their Bs, and have each row once.
func askOrder(t *testing.T, a, b api.Table, l []api.Pair) {
	t.Helper()
	as := map[int]bool{}
	for at, p := range l {
		if p.A < 0 || p.A >= len(a.Rows) || p.B < 0 || p.B >= len(b.Rows) {
			t.Fatalf("of %s and %s: %v is of no rows", short(a), short(b), p)
		}
		if as[p.A] || at > 0 && l[at-1].B >= p.B {
			t.Errorf("of %s and %s: %s has a row twice, or is in no order", short(a), short(b), few(l))
		}
		as[p.A] = true
	}
}

// askKeyed asks what holds of rows by a key that is usable of both: the same just if their keys are, whichever table is asked first.
func askKeyed(t *testing.T, a, b api.Table, names []string) {
	t.Helper()
	l := ByKey(a, b, names)
	askOrder(t, a, b, l)
	key, _ := wantKey(a, b, names)
	for i := range a.Rows {
		for k := range b.Rows {
			told, same := slices.Contains(l, api.Pair{A: i, B: k}), wantCount(a, b, i, k, key) == len(key)
			if told != same {
				t.Errorf("of %s and %s by %s: (%d, %d) is told: %t", short(a), short(b), short(names), i, k, told)
			}
		}
	}
	askByKey(t, b, a, names, turned(l))
	askByKey(t, a, a, names, each(len(a.Rows)))
}

// askLooked asks what holds of rows by look, for cols that may be: each pair has most cells in common, no two rows that are left over do, and of those that are alike at all of cols none is left over on both sides, nor goes with another one.
func askLooked(t *testing.T, a, b api.Table, cols []api.Pair) {
	t.Helper()
	l := ByLook(a, b, cols)
	askOrder(t, a, b, l)
	otherA, otherB := map[int]bool{}, map[int]bool{}
	for i := range a.Rows {
		otherA[i] = true
	}
	for k := range b.Rows {
		otherB[k] = true
	}
	for _, p := range l {
		n := wantCount(a, b, p.A, p.B, cols)
		if 2*n <= len(cols) {
			t.Errorf("of %s and %s at %s: %v is told", short(a), short(b), few(cols), p)
		}
		if n == len(cols) {
			delete(otherA, p.A)
			delete(otherB, p.B)
		}
	}
	for i := range a.Rows {
		for k := range b.Rows {
			n := wantCount(a, b, i, k, cols)
			if n == len(cols) && otherA[i] && otherB[k] {
				t.Errorf("of %s and %s at %s: %d and %d are alike, and not told with such", short(a), short(b), few(cols), i, k)
			}
			takenA := slices.ContainsFunc(l, func(p api.Pair) bool { return p.A == i })
			takenB := slices.ContainsFunc(l, func(p api.Pair) bool { return p.B == k })
			if 2*n > len(cols) && !takenA && !takenB {
				t.Errorf("of %s and %s at %s: %d and %d are left over", short(a), short(b), few(cols), i, k)
			}
		}
	}
}

// askSelf asks that each row of a table that may be is the same as itself, by look and by each key that is usable.
func askSelf(t *testing.T, x api.Table) {
	t.Helper()
	all := each(len(x.Head))
	for from := range all {
		askByLook(t, x, x, all[from:], each(len(x.Rows)))
		askByLook(t, x, x, all[:from+1], each(len(x.Rows)))
		askAlign(t, x, x, all[from:], nil, each(len(x.Rows)), api.OK)
		for to := from + 1; to <= len(all); to++ {
			askAlign(t, x, x, all, x.Head[from:to], each(len(x.Rows)), api.OK)
		}
	}
	askAlign(t, x, x, nil, x.Head, nil, api.OK)
}

// askOtherCols asks that it makes no difference where b's columns stand, nor which names they have, as long as cols tell.
func askOtherCols(t *testing.T, a, b api.Table, cols []api.Pair, order []int) {
	t.Helper()
	other := api.Table{Head: make([]string, len(order))}
	var moved []api.Pair
	for to, from := range order {
		other.Head[to] = "other " + strconv.Itoa(to)
		for _, p := range cols {
			if p.B == from {
				moved = append(moved, api.Pair{A: p.A, B: to})
			}
		}
	}
	for k := range b.Rows {
		row := make([]string, len(order))
		for to, from := range order {
			row[to] = wantCell(b, k, from)
		}
		other.Rows = append(other.Rows, row)
	}
	askByLook(t, a, other, moved, ByLook(a, b, cols))
}

func TestExamples(t *testing.T) {
	a, b := of("k,v|1,x|2,y"), of("k,v|2,z|1,x")
	askByKey(t, a, b, list("k"), ofPairs("1:0,0:1"))
	askAlign(t, a, b, each(2), list("k"), ofPairs("1:0,0:1"), api.OK)
	askByLook(t, a, b, each(2), ofPairs("0:1"))
	askAlign(t, a, b, each(2), nil, ofPairs("0:1"), api.OK)
}

func TestByKeyByHand(t *testing.T) {
	for _, x := range []struct{ a, b, names, want string }{
		// ordinary ones
		{"k,v|1,x|2,y|3,z", "k,v|1,x|2,y|3,z", "k", "0:0,1:1,2:2"},
		{"k,v|1,x|2,y|3,z", "k,v|3,p|1,q|2,r", "k", "2:0,0:1,1:2"},
		{"k,v|1,x|2,x", "k,v|2,x|1,x", "k", "1:0,0:1"},
		{"k,v|1,x|2,x", "v,k|x,2|x,1", "k", "1:0,0:1"},
		{"k,v|10,x|9,y|9a,z", "w,k|x,9a|y,10|z,9", "k", "2:0,0:1,1:2"},
		// of two names
		{"k,l,v|1,1,x|1,2,y|2,1,z", "k,l,v|2,1,x|1,1,y|2,2,z|1,2,x", "k,l", "2:0,0:1,1:3"},
		{"k,l|1,2|2,1", "k,l|2,1|1,2", "k,l", "1:0,0:1"},
		{"k,l|1,2|2,1", "l,k|2,1|1,2", "k,l", "0:0,1:1"},
		// in another order than the head's
		{"k,l|1,2|2,1", "k,l|2,1|1,2", "l,k", "1:0,0:1"},
		{"k,l|1,2|2,1", "l,k|2,1|1,2", "l,k", "0:0,1:1"},
		{"a,b,c,d|1,2,3,4|4,3,2,1", "d,b,a,c|1,3,4,2|4,2,1,3", "d,a,c,b", "1:0,0:1"},
		// a row of a alone, of b alone
		{"k|1|2|3", "k|2", "k", "1:0"},
		{"k|2", "k|1|2|3", "k", "0:1"},
		{"k|1|2", "k|3|4", "k", "^"},
		{"k|1|2|3", "k|4|3|5|1", "k", "2:1,0:3"},
		// in both at other places
		{"k|1|2|3|4", "k|4|3|2|1", "k", "3:0,2:1,1:2,0:3"},
		{"k|1|2|3|4", "k|2|3|4|1", "k", "1:0,2:1,3:2,0:3"},
		// not usable of a, of b, of neither
		{"k|1|1", "k|1|2", "k", "^"},
		{"k|1|2", "k|1|1", "k", "^"},
		{"k|1|1", "k|1|1", "k", "^"},
		{"k|1|2|3|1", "k|2|3", "k", "^"},
		{"k|1", "v|1", "k", "^"},
		{"k|1", "v|1", "v", "^"},
		{"k|1", "v|1", "w", "^"},
		{"k,v|1,x", "k|1", "k,v", "^"},
		{"k|1", "k,v|1,x", "k,v", "^"},
		{"k,v|1,x|1,x", "k,v|1,x", "k,v", "^"},
		{"k,v|1,x|1,y", "k,v|1,x|1,y", "k", "^"},
		{"k,v|1,x|1,y", "k,v|1,y|1,x", "v", "1:0,0:1"},
		// no names; a name twice
		{"k|1", "k|1", "^", "^"},
		{"k|1", "k|1", "k,k", "^"},
		{"k,v|1,x", "k,v|1,x", "k,v,k", "^"},
		{"k,v|1,x", "k,v|1,x", "k,v,v", "^"},
		// no rows on one side, on both
		{"k", "k|1", "k", "^"},
		{"k|1", "k", "k", "^"},
		{"k", "k", "k", "^"},
		// cells that are one text if they are put one behind the other
		{"k,l|1,23|12,3", "k,l|12,3|1,23", "k,l", "1:0,0:1"},
		{"k,l|1,23", "k,l|12,3|123,|,123", "k,l", "^"},
		{"k,l|,x|x,", "k,l|x,|,x", "k,l", "1:0,0:1"},
		// the cells are what they are, not what they look like
		{"k|1|01|1.0| 1", "k| 1|01|+1", "k", "3:0,1:1"},
		{"k|a|A", "k|A|b", "k", "1:0"},
		{"k|\xff|\xfe", "k|\xfe|\ufffd", "k", "1:0"},
		{"k|\u00e9", "k|e\u0301", "k", "^"},
		{"k|", "k|", "k", "0:0"},
		{"|x", "|x", "", "0:0"},
		// rows that are shorter than the head: what is not there is empty
		{"k,l|1|1,2", "k,l|1,|1,2", "k,l", "0:0,1:1"},
		{"k,l|1|1,2", "k,l|1,|1", "k,l", "^"},
		{"k,l|1|2", "l,k|,2|,1", "k,l", "1:0,0:1"},
		{"k,l|^|x", "k,l|,x|,", "k,l", "0:1"},
		{"k|^|1", "k|1|", "k", "1:0,0:1"},
		{"k,l|1|2", "k,l|1|2", "l", "^"},
		{"k,l|1,x|2", "k,l|1|2,x", "l", "1:0,0:1"},
		// rows that are longer: what is beyond the head makes no difference
		{"k|1,x|2,y", "k|2,x|1,y,z", "k", "1:0,0:1"},
		{"k|1,x|1,y", "k|1,x", "k", "^"},
		// heads that may not be
		{"^|1", "^|1", "k", "^"},
		{"^", "k|1", "k", "^"},
		{"k,k|1,x|2,x", "v,k,k|x,2,1|x,1,2", "k", "1:0,0:1"},
		{"k,k|1,x|1,y", "k|1", "k", "^"},
		{"k,k|1,x|2,x", "k|2|1", "k", "1:0,0:1"},
	} {
		a, b, names := of(x.a), of(x.b), list(x.names)
		askByKey(t, a, b, names, ofPairs(x.want))
		if want := wantByKey(a, b, names); !slices.Equal(want, ofPairs(x.want)) {
			t.Errorf("the plain reading of %s, %s and %s is %s", x.a, x.b, x.names, few(want))
		}
		askByKey(t, b, a, names, turned(ofPairs(x.want)))
		if wantUsable(a, names) && wantUsable(b, names) {
			askKeyed(t, a, b, names)
		}
	}
}

func TestByLookByHand(t *testing.T) {
	for _, x := range []struct{ a, b, cols, want string }{
		// ordinary ones
		{"k,v|1,x|2,y", "k,v|1,x|2,y", "0:0,1:1", "0:0,1:1"},
		{"k,v,w|1,x,p|2,y,q|3,z,r", "k,v,w|2,y,q|1,x,p|3,z,s", "0:0,1:1,2:2", "1:0,0:1,2:2"},
		{"k,v,w|1,x,p|2,y,q", "k,v,w|0,o,o|1,x,q|2,y,q", "0:0,1:1,2:2", "0:1,1:2"},
		{"k,v|1,x|2,y", "k,v|3,x|2,z", "0:0,1:1", "^"},
		// no cols, and cols that may not be, of each kind
		{"k,v|1,x", "k,v|1,x", "^", "^"},
		{"k,v|1,x", "k,v|1,x", "2:0", "^"},
		{"k,v|1,x", "k,v|1,x", "0:2", "^"},
		{"k,v|1,x", "k,v|1,x", "-1:0", "^"},
		{"k,v|1,x", "k,v|1,x", "0:-1", "^"},
		{"k,v|1,x", "k,v|1,x", "0:0,1:2", "^"},
		{"k,v|1,1", "k,v|1,1", "0:0,0:1", "^"},
		{"k,v|1,1", "k,v|1,1", "0:0,1:0", "^"},
		{"k,v|1,x", "k,v|1,x", "0:0,0:0", "^"},
		{"k,v|1,x", "k,v|1,x", "1:1,0:0", "^"},
		{"k|1", "k,v|1,x", "0:0,1:1", "^"},
		{"k,v|1,x", "k|1", "0:0,1:1", "^"},
		{"^|1", "^|1", "0:0", "^"},
		{"^|^", "^|^", "^", "^"},
		// cols that name not all columns
		{"k,v|1,x|2,y", "k,v|2,x|1,y", "0:0", "1:0,0:1"},
		{"k,v|1,x|2,y", "k,v|2,x|1,y", "1:1", "0:0,1:1"},
		{"k,v,w|1,x,p|2,y,q", "k,v,w|2,x,q|1,y,p", "0:0,2:2", "1:0,0:1"},
		{"k,v|1,x", "k,v|1,y", "0:0", "0:0"},
		{"k,v|1,x", "k,v|1,y", "1:1", "^"},
		// columns of other names, at other places
		{"k,v|1,x|2,y", "p,q|1,x|2,y", "0:0,1:1", "0:0,1:1"},
		{"k,v|1,x|2,y", "v,k|1,x|2,y", "0:0,1:1", "0:0,1:1"},
		{"k,v|1,x|2,y", "v,k|y,2|x,1", "1:0,0:1", "1:0,0:1"},
		{"k,v|1,x|2,y", "v,k|y,2|x,1", "0:0,1:1", "^"},
		{"k,v,w|1,x,p|2,y,q", "p,q,r,s|0,p,1,x|0,q,2,y", "2:1,0:2,1:3", "0:0,1:1"},
		{"a,b,c,d|1,2,3,4", "p|3", "2:0", "0:0"},
		{"p|3", "a,b,c,d|1,2,3,4", "0:2", "0:0"},
		// no rows on one side, on both
		{"k", "k|1", "0:0", "^"},
		{"k|1", "k", "0:0", "^"},
		{"k", "k", "0:0", "^"},
		// rows more than once on either side
		{"k|1|1", "k|1", "0:0", "0:0"},
		{"k|1", "k|1|1", "0:0", "0:0"},
		{"k|1|1|1", "k|1|1", "0:0", "0:0,1:1"},
		{"k|1|1", "k|1|1", "0:0", "0:0,1:1"},
		{"k|1|2|1", "k|1|1|2", "0:0", "0:0,2:1,1:2"},
		{"k|2|1|1", "k|1|2|1", "0:0", "1:0,0:1,2:2"},
		{"k|1|2|1|2", "k|2|1", "0:0", "1:0,2:1"},
		{"k|1|2", "k|2|1|2|1", "0:0", "0:1,1:2"},
		// rows that are alike, in another order: those of the longest common row first, then the others
		{"k|1|2", "k|2|1", "0:0", "1:0,0:1"},
		{"k|1|2|3", "k|3|2|1", "0:0", "2:0,1:1,0:2"},
		{"k|1|2|3|4", "k|2|3|4|1", "0:0", "1:0,2:1,3:2,0:3"},
		{"k|1|2|3|1", "k|3|1|1|2", "0:0", "2:0,3:1,0:2,1:3"},
		{"k|1|1|2|3", "k|2|3|1", "0:0", "2:0,3:1,0:2"},
		// cells that are one text if they are put one behind the other
		{"k,v|1,23", "k,v|12,3", "0:0,1:1", "^"},
		{"k,v|12,3", "k,v|1,23|12,3|123,", "0:0,1:1", "0:1"},
		{"k,v|,x", "k,v|x,", "0:0,1:1", "^"},
		{"k,v|1,", "k,v|,1|1,", "0:0,1:1", "0:1"},
		{"k,v|\",\"\"", "k,v|\"\",\"|\",\"\"", "0:0,1:1", "0:1"},
		{"k,v,w|1,2,|,1,2|1,,2", "k,v,w|1,,2|1,2,|,1,2", "0:0,1:1,2:2", "2:0,0:1,1:2"},
		{"k,v|0\n1,x", "k,v|0\n,1x|0,\n1x|0\n1,x", "0:0,1:1", "0:2"},
		// just half of cols, and one more
		{"a,b|1,2", "a,b|1,3", "0:0,1:1", "^"},
		{"a,b,c|1,2,3", "a,b,c|1,4,5", "0:0,1:1,2:2", "^"},
		{"a,b,c|1,2,3", "a,b,c|1,2,5", "0:0,1:1,2:2", "0:0"},
		{"a,b,c,d|1,2,3,4", "a,b,c,d|1,2,5,6", "0:0,1:1,2:2,3:3", "^"},
		{"a,b,c,d|1,2,3,4", "a,b,c,d|1,2,3,6", "0:0,1:1,2:2,3:3", "0:0"},
		{"a,b,c,d|1,2,3,4", "a,b,c,d|0,2,3,4", "0:0,1:1,2:2,3:3", "0:0"},
		{"a,b,c,d|1,2,3,4", "a,b,c,d|1,2,5,6", "0:0,1:1,3:3", "0:0"},
		{"a,b,c,d|1,2,3,4", "a,b,c,d|1,2,5,6", "1:1,2:2", "^"},
		{"a,b,c,d,e|1,2,3,4,5", "a,b,c,d,e|1,0,0,4,5", "0:0,1:1,2:2,3:3,4:4", "0:0"},
		{"a,b,c,d,e|1,2,3,4,5", "a,b,c,d,e|1,0,0,0,5", "0:0,1:1,2:2,3:3,4:4", "^"},
		// cells that are empty are the same, too
		{"a,b,c|,,1", "a,b,c|,,2", "0:0,1:1,2:2", "0:0"},
		{"a,b,c|,,1", "a,b,c|,1,", "0:0,1:1,2:2", "^"},
		{"a,b,c,d|,1,,", "a,b,c,d|,,,2", "0:0,1:1,2:2,3:3", "^"},
		{"a,b,c,d|,1,,", "a,b,c,d|,2,,", "0:0,1:1,2:2,3:3", "0:0"},
		// two rows that would do for one: the one with the higher score, wherever it stands
		{"a,b,c,d|1,2,3,0|1,2,3,9", "a,b,c,d|1,2,3,9", "0:0,1:1,2:2,3:3", "1:0"},
		{"a,b,c,d,e|1,2,3,0,0|1,2,3,4,0", "a,b,c,d,e|1,2,3,4,5", "0:0,1:1,2:2,3:3,4:4", "1:0"},
		{"a,b,c,d,e|1,2,3,4,0|1,2,3,0,0", "a,b,c,d,e|1,2,3,4,5", "0:0,1:1,2:2,3:3,4:4", "0:0"},
		{"a,b,c,d,e|1,2,3,4,5", "a,b,c,d,e|1,2,3,0,0|1,2,3,4,0", "0:0,1:1,2:2,3:3,4:4", "0:1"},
		{"a,b,c,d,e|1,2,3,4,5", "a,b,c,d,e|1,2,3,4,0|1,2,3,0,0", "0:0,1:1,2:2,3:3,4:4", "0:0"},
		// what is left goes with the one that is left, if it may
		{"a,b,c,d,e|1,2,3,0,0|1,2,3,4,0", "a,b,c,d,e|1,2,3,4,5|1,2,3,6,6", "0:0,1:1,2:2,3:3,4:4", "1:0,0:1"},
		{"a,b,c|1,2,0|1,2,3", "a,b,c|1,2,3|9,9,9", "0:0,1:1,2:2", "1:0"},
		// scores that are alike: the lesser A, and then the lesser B
		{"a,b,c|1,2,3|1,2,4", "a,b,c|1,2,5", "0:0,1:1,2:2", "0:0"},
		{"a,b,c|1,2,3", "a,b,c|1,2,5|1,2,6", "0:0,1:1,2:2", "0:0"},
		{"a,b,c|1,2,3|1,2,4", "a,b,c|1,2,5|1,2,6", "0:0,1:1,2:2", "0:0,1:1"},
		{"a,b,c|1,2,3|1,0,4", "a,b,c|1,0,3|1,2,4", "0:0,1:1,2:2", "0:0,1:1"},
		// a row that is in a pair of the longest common row is in no choice any more
		{"a,b,c|1,2,3|1,2,4", "a,b,c|1,2,3|1,2,3", "0:0,1:1,2:2", "0:0,1:1"},
		{"a,b,c|1,2,4|1,2,3", "a,b,c|1,2,3|1,2,3", "0:0,1:1,2:2", "1:0,0:1"},
		{"a,b,c|1,2,4|1,2,3", "a,b,c|1,2,3", "0:0,1:1,2:2", "1:0"},
		{"a,b,c|1,2,3|7,8,9|1,2,4", "a,b,c|7,8,9|1,2,4|1,2,5", "0:0,1:1,2:2", "1:0,2:1,0:2"},
		// rows that are alike at all of cols, but not beside these
		{"a,b,c|1,2,3|1,2,4", "a,b,c|1,2,4|1,2,3", "0:0,1:1", "0:0,1:1"},
		// pairs stand in order of their Bs, those that are alike and others
		{"a,b,c|1,1,1|2,2,2|3,3,3|4,4,4", "a,b,c|4,4,0|1,1,1|3,0,3|2,2,2", "0:0,1:1,2:2", "3:0,0:1,2:2,1:3"},
		{"a,b,c|1,1,1|2,2,2|3,3,3", "a,b,c|3,3,0|2,2,0|1,1,0", "0:0,1:1,2:2", "2:0,1:1,0:2"},
		// rows that are shorter than the head: what is not there is empty
		{"a,b|1", "a,b|1,", "0:0,1:1", "0:0"},
		{"a,b|^|1", "a,b|1|^", "0:0,1:1", "1:0,0:1"},
		{"a,b|^", "a,b|,", "0:0,1:1", "0:0"},
		{"a,b,c|1", "a,b,c|1,,2", "0:0,1:1,2:2", "0:0"},
		{"a,b,c|1", "a,b,c|,1,", "0:0,1:1,2:2", "^"},
		{"a,b,c|1", "a,b,c|2", "0:0,1:1,2:2", "0:0"},
		{"a,b|1", "a,b|2", "0:0,1:1", "^"},
		{"a,b|1", "a,b|2", "1:1", "0:0"},
		{"a,b|1|2", "a,b|,2|,1", "0:1", "1:0,0:1"},
		{"a,b|1|2", "a,b|,2|,1", "0:1,1:0", "^"},
		{"a,b|1|2", "a,b|,2|,1", "1:0,0:1", "1:0,0:1"},
		// rows that are longer: what is beyond the head makes no difference
		{"a|1,x|2,y", "a|2,x|1,y,z", "0:0", "1:0,0:1"},
		{"a|1,x", "a|2,x", "0:0", "^"},
		{"a|1,x", "a|1,x", "0:0,1:1", "^"},
		// a name twice in a head: cols tell by places
		{"a,a|1,2|2,1", "a,a|2,1|1,2", "0:0,1:1", "1:0,0:1"},
		{"a,a|1,2|2,1", "a,a|2,1|1,2", "1:0,0:1", "0:0,1:1"},
		// the cells are what they are, not what they look like
		{"k|1|A|\xff", "k|01|a|\xfe", "0:0", "^"},
		{"k|\xff|\xfe|\x00", "k|\x00|\xfe|\xff", "0:0", "2:0,1:1,0:2"},
		{"k,v|a;b,c", "k,v|a,b;c", "0:0,1:1", "^"},
	} {
		a, b, cols := of(x.a), of(x.b), ofPairs(x.cols)
		askByLook(t, a, b, cols, ofPairs(x.want))
		if want := wantByLook(a, b, cols); !slices.Equal(want, ofPairs(x.want)) {
			t.Errorf("the plain reading of %s, %s and %s is %s", x.a, x.b, x.cols, few(want))
		}
		if wantPairsCheck(cols, len(a.Head), len(b.Head)) == api.OK && len(cols) > 0 {
			askLooked(t, a, b, cols)
			askLooked(t, b, a, turned(cols))
		}
	}
}

func TestAlignByHand(t *testing.T) {
	const one, other = "k,v,w|1,x,p|2,y,q|3,z,r", "k,v,w|3,y,q|2,x,p|4,z,r"
	for _, x := range []struct{ a, b, cols, names, want string }{
		// by key, if names are usable and cols have the pair of each
		{one, other, "0:0,1:1,2:2", "k", "2:0,1:1"},
		{one, other, "0:0,1:1,2:2", "v", "1:0,0:1,2:2"},
		{one, other, "0:0,1:1,2:2", "k,v", "^"},
		{one, other, "0:0,1:1,2:2", "w,v", "1:0,0:1,2:2"},
		{one, other, "0:0", "k", "2:0,1:1"},
		{one, other, "0:0,1:1", "k", "2:0,1:1"},
		{one, other, "1:1,2:2", "w,v", "1:0,0:1,2:2"},
		{"k,v|1,x|2,y", "v,k|x,2|y,1", "1:0,0:1", "k", "1:0,0:1"},
		{"k,v|1,x|2,y", "v,k|x,2|y,1", "0:1", "k", "1:0,0:1"},
		{"k,v|1,x|2,y", "p,k|x,2|y,1", "1:0,0:1", "k", "1:0,0:1"},
		{"k|1|2", "k|3", "0:0", "k", "^"},
		{"k|1|2", "k", "0:0", "k", "^"},
		{"k", "k|1", "0:0", "k", "^"},
		{"k", "k", "0:0", "k", "^"},
		// by look, if there are no names, or they are not usable of a, of b, of neither
		{one, other, "0:0,1:1,2:2", "^", "1:0,0:1,2:2"},
		{one, other, "0:0,1:1,2:2", "k,k", "1:0,0:1,2:2"},
		{one, other, "0:0,1:1,2:2", "u", "1:0,0:1,2:2"},
		{one, other, "0:0,1:1,2:2", "k,u", "1:0,0:1,2:2"},
		{"k,v|1,x|1,y", "k,v|1,y|2,x", "0:0,1:1", "k", "1:0"},
		{"k,v|1,y|2,x", "k,v|1,x|1,y", "0:0,1:1", "k", "0:1"},
		{"k,v|1,x|1,y", "k,v|1,y|1,x", "0:0,1:1", "k", "1:0,0:1"},
		{"k,v|1,x|1,x", "k,v|1,x|1,x", "0:0,1:1", "k,v", "0:0,1:1"},
		{"k,v|1,x", "p,v|1,x", "0:0,1:1", "k", "0:0"},
		{"p,v|1,x", "k,v|1,x", "0:0,1:1", "k", "0:0"},
		// by look, if cols have not the pair of their columns
		{one, other, "1:1,2:2", "k", "1:0,0:1,2:2"},
		{one, other, "1:1,2:2", "k,v", "1:0,0:1,2:2"},
		{one, other, "1:1,2:2", "v,k", "1:0,0:1,2:2"},
		{one, other, "1:1", "w,v", "1:0,0:1,2:2"},
		{one, other, "0:0,2:2", "w,v", "^"},
		{one, other, "^", "k", "^"},
		{one, one, "^", "k", "^"},
		{one, one, "^", "^", "^"},
		// by look, if cols have one of their columns with another one
		{"k,v|1,2|2,3", "k,v|2,1|3,2", "1:0", "k", "0:0,1:1"},
		{"k,v|1,2|2,3", "k,v|2,1|3,2", "1:0,0:1", "k", "0:0,1:1"},
		{"k,v|1,2|2,3", "k,v|2,1|3,2", "0:1", "k", "0:0,1:1"},
		{"k,v|1,2|2,3", "k,v|2,1|3,2", "1:0,0:1", "v", "0:0,1:1"},
		{"k,v|1,2|2,3", "k,v|2,1|3,2", "1:0,0:1", "k,v", "0:0,1:1"},
		{"k,v|1,2|2,3", "v,k|2,1|3,2", "0:0,1:1", "k", "^"},
		{"k,v,w|1,2,0|2,3,0", "k,v,w|2,1,0|3,2,0", "1:0,0:1,2:2", "w,k", "0:0,1:1"},
	} {
		a, b, cols, names := of(x.a), of(x.b), ofPairs(x.cols), list(x.names)
		askAlign(t, a, b, cols, names, ofPairs(x.want), api.OK)
		if want, errno := wantAlign(a, b, cols, names); !slices.Equal(want, ofPairs(x.want)) || errno != api.OK {
			t.Errorf("the plain reading of %s, %s, %s and %s is %s %d", x.a, x.b, x.cols, x.names, few(want), errno)
		}
		askSelf(t, a)
		askSelf(t, b)
	}
}

// wide is a table of so many columns and rows, of cells that are all the same but those of its first column.
func wide(cols, rows int, cell string) api.Table {
	x := api.Table{Head: make([]string, cols)}
	for i := range x.Head {
		x.Head[i] = "c" + strconv.Itoa(i)
	}
	for row := range rows {
		cells := slices.Repeat([]string{cell}, cols)
		cells[0] = strconv.Itoa(row)
		x.Rows = append(x.Rows, cells)
	}
	return x
}

// Each error on either side, and on both: the first one's is told, that of cols last.
func TestErrors(t *testing.T) {
	const long = api.MaxCell
	type faulty struct {
		x     api.Table
		errno api.Errno
	}
	all := []faulty{
		{of("^"), api.ErrEmpty},
		{of("^|^"), api.ErrEmpty},
		{of("^|1"), api.ErrEmpty},
		{of("a|1|^"), api.ErrWidth},
		{of("a,b|1"), api.ErrWidth},
		{of("a|1|1,2"), api.ErrWidth},
		{of("a,a|1,2|1"), api.ErrWidth},
		{of("a,a"), api.ErrTwice},
		{of("a,b,a|1,2,3"), api.ErrTwice},
		{of("a,a|" + strings.Repeat("x", long+1) + ",y"), api.ErrTwice},
		{wide(api.MaxCols+1, 1, "x"), api.ErrLarge},
		{wide(1, api.MaxRows+1, "x"), api.ErrLarge},
		{of("a|" + strings.Repeat("x", long+1)), api.ErrLarge},
		{of(strings.Repeat("x", long+1)), api.ErrLarge},
		{wide(40, 400, "xxx"), api.ErrLarge},
	}
	fine := []api.Table{of("a"), of("a,b|1,2"), of("c0|0"), of("a|" + strings.Repeat("x", long)), wide(api.MaxCols, api.MaxRows, "x")}
	for _, bad := range all {
		if errno := wantCheck(bad.x); errno != bad.errno {
			t.Errorf("the plain reading of %s is %d", short(bad.x), errno)
		}
		for _, l := range []struct{ cols, names string }{{"0:0", "a"}, {"99:0", "^"}, {"1:1,0:0", "c0"}} {
			cols, names := ofPairs(l.cols), list(l.names)
			for _, x := range fine {
				askAlign(t, bad.x, x, cols, names, nil, bad.errno)
				askAlign(t, x, bad.x, cols, names, nil, bad.errno)
			}
			for _, other := range all {
				askAlign(t, bad.x, other.x, cols, names, nil, bad.errno)
			}
		}
	}
	for _, x := range fine[:4] {
		askSelf(t, x)
	}
	all40 := each(api.MaxCols)
	askAlign(t, fine[4], fine[4], all40, nil, each(api.MaxRows), api.OK)
	askAlign(t, fine[4], fine[4], all40, list("c0"), each(api.MaxRows), api.OK)
}

// What is wrong of cols, of each kind: Align's error, and no pairs by look.
func TestColsErrors(t *testing.T) {
	a, b := of("a,b|1,1|2,2"), of("b,c,a|1,1,1|2,2,2")
	for _, x := range []struct {
		cols  string
		errno api.Errno
	}{
		{"2:0", api.ErrPlace},
		{"0:3", api.ErrPlace},
		{"-1:0", api.ErrPlace},
		{"0:-1", api.ErrPlace},
		{"0:0,1:3", api.ErrPlace},
		{"0:0,0:1", api.ErrTwice},
		{"0:0,1:0", api.ErrTwice},
		{"0:0,0:0", api.ErrTwice},
		{"1:1,0:0", api.ErrOrder},
		{"0:2,1:0", api.ErrOrder},
		// a place ahead of what is there twice, and that ahead of the order
		{"0:1,0:0,9:2", api.ErrPlace},
		{"0:1,1:0,0:2", api.ErrTwice},
		{"1:2,1:0", api.ErrTwice},
	} {
		cols := ofPairs(x.cols)
		if errno := wantPairsCheck(cols, 2, 3); errno != x.errno {
			t.Errorf("the plain reading of %s is %d", x.cols, errno)
		}
		askByLook(t, a, b, cols, nil)
		for _, names := range []string{"^", "a", "b,a", "c", "a,a"} {
			askAlign(t, a, b, cols, list(names), nil, x.errno)
			askAlign(t, of("a,b"), of("b,c,a"), cols, list(names), nil, x.errno)
			askAlign(t, a, of("b,c,a|1"), cols, list(names), nil, api.ErrWidth)
			askAlign(t, of("a,a"), b, cols, list(names), nil, api.ErrTwice)
		}
	}
}

// All short lists of pairs as cols, of places within and without, of tables of a column more on one side: errors of each kind, and none beside them.
func TestAllCols(t *testing.T) {
	var all []api.Pair
	for p := -1; p <= 3; p++ {
		for q := -1; q <= 3; q++ {
			all = append(all, api.Pair{A: p, B: q})
		}
	}
	tables := []api.Table{of("a,b|1,2|2,1|1,1"), of("b,c,a|1,2,1|2,2,1|1,1,2")}
	seen := map[api.Errno]int{}
	for _, cols := range upTo(3, all...) {
		for _, a := range tables {
			for _, b := range tables {
				for _, names := range [][]string{nil, {"a", "b"}} {
					ask(t, a, b, cols, names)
				}
				seen[wantPairsCheck(cols, len(a.Head), len(b.Head))]++
			}
		}
		if t.Failed() {
			return
		}
	}
	for _, errno := range []api.Errno{api.OK, api.ErrPlace, api.ErrTwice, api.ErrOrder} {
		if seen[errno] == 0 {
			t.Errorf("%d was never told", errno)
		}
	}
}

// All tables of two columns with up to three rows, two by two.
func TestAllSmallTables(t *testing.T) {
	all := upTo(3, list("1,1"), list("1,2"), list("2,1"), list(",2"))
	for _, one := range all {
		a := api.Table{Head: list("a,b"), Rows: one}
		for _, other := range all {
			for _, b := range []api.Table{{Head: list("a,b"), Rows: other}, {Head: list("b,c"), Rows: other}} {
				for _, cols := range []string{"0:0,1:1", "1:0,0:1", "1:0"} {
					askByLook(t, a, b, ofPairs(cols), wantByLook(a, b, ofPairs(cols)))
					askLooked(t, a, b, ofPairs(cols))
				}
				for _, names := range []string{"a", "b", "b,a"} {
					ask(t, a, b, ofPairs("1:0"), list(names))
					ask(t, a, b, ofPairs("0:0,1:1"), list(names))
					if wantUsable(a, list(names)) && wantUsable(b, list(names)) {
						askKeyed(t, a, b, list(names))
					}
				}
			}
		}
		askSelf(t, a)
		if t.Failed() {
			return
		}
	}
}

// All tables of three columns with up to two rows, and of four with one and two, so that rows are alike in part.
func TestAlikeInPart(t *testing.T) {
	for _, x := range []struct{ cols, rows int }{{3, 2}, {4, 1}} {
		var cells [][]string
		for n := range 1 << x.cols {
			cells = append(cells, strings.Split(fmt.Sprintf("%0*b", x.cols, n), ""))
		}
		head := list("a,b,c,d")[:x.cols]
		for _, one := range upTo(x.rows, cells...) {
			for _, other := range upTo(2, cells...) {
				a, b := api.Table{Head: head, Rows: one}, api.Table{Head: head, Rows: other}
				ask(t, a, b, each(x.cols), list("b"))
				askLooked(t, a, b, each(x.cols))
				askByLook(t, b, a, each(x.cols), wantByLook(b, a, each(x.cols)))
			}
			if t.Failed() {
				return
			}
		}
	}
}

// Rows that are shorter, or longer, than the head, of all kinds: ByKey and ByLook of them, and Align's error.
func TestRaggedRows(t *testing.T) {
	all := upTo(2, upTo(3, "1", "")...)
	for _, head := range []string{"a,b", "b", "a,a", "b,c,a"} {
		for n, one := range all {
			a := api.Table{Head: list("a,b"), Rows: one}
			for at := n % 5; at < len(all); at += 5 {
				b := api.Table{Head: list(head), Rows: all[at]}
				for _, cols := range []string{"0:0,1:1", "0:0", "1:0"} {
					ask(t, a, b, ofPairs(cols), list("b,a"))
				}
				ask(t, b, a, ofPairs("0:1"), list("b"))
				ask(t, a, b, ofPairs("1:0,0:1"), list("a"))
			}
			if t.Failed() {
				return
			}
		}
	}
}

// At how many of cols two rows are the same, held against how many cols there are: each that can be.
func TestScores(t *testing.T) {
	for n := 1; n <= api.MaxCols; n++ {
		for same := range n + 1 {
			a, b := wide(n+1, 0, ""), wide(n+1, 0, "")
			one, other := make([]string, n+1), make([]string, n+1)
			var cols []api.Pair
			for at := range n {
				// B's columns stand the other way round, and one column of each is not in cols.
				p, q := n-at, at
				cols = append(cols, api.Pair{A: p, B: q})
				one[p] = strconv.Itoa(at)
				if other[q] = one[p]; at >= same {
					other[q] = "x"
				}
				if at%3 == 0 && at < same {
					one[p], other[q] = "", ""
				}
			}
			a.Rows, b.Rows = [][]string{one}, [][]string{other}
			var want []api.Pair
			if 2*same > n {
				want = each(1)
			}
			askByLook(t, a, b, cols, want)
			askByLook(t, b, a, turned(cols), want)
		}
	}
}

// Of two rows that would do for one, one cell more decides, however many cols there are; if there is none, the one that stands ahead is taken.
func TestOneCellMore(t *testing.T) {
	for _, n := range []int{1, 2, 3, 4, 9, 10, api.MaxCols} {
		for first := range n {
			for second := max(0, first-1); second <= min(n-1, first+1); second++ {
				askOneOfTwo(t, n, first, second)
			}
		}
	}
}

// askOneOfTwo asks of a row against two others, that have so many of n cells in common with it, and not all, either way round.
func askOneOfTwo(t *testing.T, n, first, second int) {
	t.Helper()
	one, two := wide(n, 1, "x"), wide(n, 2, "x")
	for i, common := range []int{first, second} {
		for col := range n {
			if two.Rows[i][col] = one.Rows[0][col]; (col+3)%n >= common {
				two.Rows[i][col] = "y" + strconv.Itoa(i)
			}
		}
	}
	best := 0
	if second > first {
		best = 1
	}
	var there, back []api.Pair
	if 2*max(first, second) > n {
		there, back = []api.Pair{{A: 0, B: best}}, []api.Pair{{A: best, B: 0}}
	}
	askByLook(t, one, two, each(n), there)
	askByLook(t, two, one, each(n), back)
}

// Rows that are told apart are the same in each order, by look and by key.
func TestAllOrders(t *testing.T) {
	for n := range 7 {
		for _, order := range orders(n) {
			a, b := of("k,v,w"), of("k,v,w")
			var want []api.Pair
			for k, i := range order {
				a.Rows = append(a.Rows, []string{strconv.Itoa(k), strconv.Itoa(k / 2), "x"})
				b.Rows = append(b.Rows, []string{strconv.Itoa(i), strconv.Itoa(i / 2), "x"})
				want = append(want, api.Pair{A: i, B: k})
			}
			askByKey(t, a, b, list("k"), want)
			askByKey(t, a, b, list("w,k,v"), want)
			askByLook(t, a, b, each(3), want)
			askByLook(t, a, b, each(1), want)
			askAlign(t, a, b, each(3), list("k"), want, api.OK)
			askAlign(t, a, b, each(3), list("v"), want, api.OK)
		}
	}
}

// askBack asks of a table whose rows are told apart by all columns, and of one with its rows the other way round: each row is the same as itself, and as no other one.
func askBack(t *testing.T, a api.Table) {
	t.Helper()
	b := api.Table{Head: a.Head, Rows: slices.Clone(a.Rows)}
	slices.Reverse(b.Rows)
	var want []api.Pair
	for k := range b.Rows {
		want = append(want, api.Pair{A: len(b.Rows) - 1 - k, B: k})
	}
	askByKey(t, a, b, a.Head, want)
	askByLook(t, a, b, each(len(a.Head)), want)
}

// Rows that are not the same, but would be one text, if cells were put one behind the other, with a byte between or without, or with their columns' numbers.
func TestNotOneText(t *testing.T) {
	for n := range 256 {
		sep := string([]byte{byte(n)})
		cells := []string{"", "a", "b", "1", "ab", sep, sep + sep, "a" + sep, sep + "b", "a" + sep + "b", "a" + sep + "1" + sep + "b", "0" + sep + "a", sep + "1" + sep}
		// A byte may make one of the other cells.
		slices.Sort(cells)
		cells = slices.Compact(cells)
		a := api.Table{Head: list("k,v")}
		for _, one := range cells {
			for _, other := range cells {
				a.Rows = append(a.Rows, []string{one, other})
			}
		}
		askBack(t, a)
	}
	// Of many columns each row has one cell that is not empty.
	x := wide(api.MaxCols, 0, "")
	for col := range x.Head {
		for _, cell := range list("x,0x,1x,2x,3x,4x,5x,6x,7x,8x") {
			row := make([]string, api.MaxCols)
			row[col] = cell
			x.Rows = append(x.Rows, row)
		}
	}
	askBack(t, x)
}

// A row that was moved, added, deleted or changed in part leaves all others the same.
func TestEdits(t *testing.T) {
	x := of("k,v,w,u|1,a,b,c|2,d,e,f|3,g,h,i|4,j,k,l|5,m,n,o")
	for from := range x.Rows {
		for to := range x.Rows {
			moved, errno := edit.MoveRow(x, from, to)
			if errno != api.OK {
				t.Fatal(from, to, errno)
			}
			want := each(len(x.Rows))
			was := slices.Insert(slices.Delete([]int{0, 1, 2, 3, 4}, from, from+1), to, from)
			for k, i := range was {
				want[k].A = i
			}
			askBoth(t, x, moved, want)
			// with a cell that is another one, too
			for col := 1; col < 4; col++ {
				set, errno := edit.Set(moved, to, col, "other")
				if errno != api.OK {
					t.Fatal(to, col, errno)
				}
				askBoth(t, x, set, want)
			}
			less, errno := edit.DeleteRow(moved, to)
			if errno != api.OK {
				t.Fatal(to, errno)
			}
			want = slices.Delete(want, to, to+1)
			for k := to; k < len(want); k++ {
				want[k].B--
			}
			askBoth(t, x, less, want)
			askBoth(t, less, x, turned(want))
		}
	}
}

// askBoth asks by look and by key of the first column.
func askBoth(t *testing.T, a, b api.Table, want []api.Pair) {
	t.Helper()
	askByLook(t, a, b, each(len(a.Head)), want)
	askByKey(t, a, b, a.Head[:1], want)
	askAlign(t, a, b, each(len(a.Head)), nil, want, api.OK)
	askAlign(t, a, b, each(len(a.Head)), a.Head[:1], want, api.OK)
}

// mixed is a table of so many columns and rows, without an order, the same whenever asked: its cells are of so many.
func mixed(cols, rows, cells int, from uint32) api.Table {
	next := func(below int) int {
		from = from*1664525 + 1013904223
		return int(from>>8) % below
	}
	x := api.Table{Head: wide(cols, 0, "").Head}
	for at := range x.Head {
		other := next(cols)
		x.Head[at], x.Head[other] = x.Head[other], x.Head[at]
	}
	for range rows {
		row := make([]string, cols)
		for i := range row {
			if k := next(cells); k > 0 {
				row[i] = strings.Repeat("\"", k%3) + strconv.Itoa(k/3)
			}
		}
		x.Rows = append(x.Rows, row)
	}
	return x
}

// changed is a table with rows in another order, and with some cells that are other ones.
func changed(x api.Table, from uint32) api.Table {
	y := mixed(len(x.Head), len(x.Rows), 9, from)
	own := api.Table{Head: x.Head}
	for row := range x.Rows {
		cells := slices.Clone(x.Rows[(row*7+int(from))%len(x.Rows)])
		for col := range cells {
			if y.Rows[row][col] == "" {
				cells[col] = "other"
			}
		}
		own.Rows = append(own.Rows, cells)
	}
	return own
}

func TestMixedTables(t *testing.T) {
	for n := range uint32(400) {
		cols, rows, cells := 1+int(n%9), int(n/3%17), 2+int(n%5)
		a := mixed(cols, rows, cells, n)
		b := mixed(1+int(n/2%9), int(n/4%19), cells, n+7)
		var same []api.Pair
		for q, name := range b.Head {
			if p := slices.Index(a.Head, name); p >= 0 {
				same = append(same, api.Pair{A: p, B: q})
			}
		}
		for _, names := range [][]string{nil, a.Head[:1], a.Head[:min(2, cols)], a.Head} {
			for _, pairs := range [][]api.Pair{same, same[1:], same[:len(same)-1]} {
				ask(t, a, b, pairs, names)
				ask(t, b, a, turned(pairs), names)
			}
			if wantUsable(a, names) && wantUsable(b, names) {
				askKeyed(t, a, b, names)
			}
		}
		askSelf(t, a)
		askLooked(t, a, b, same)
		other := changed(a, n)
		ask(t, a, other, each(cols), a.Head)
		ask(t, other, a, each(cols), a.Head)
		askLooked(t, a, other, each(cols))
		for i, order := range orders(min(cols, 4)) {
			if i%5 == 0 {
				for col := len(order); col < cols; col++ {
					order = append(order, col)
				}
				askOtherCols(t, a, other, each(cols), order)
			}
		}
		if t.Failed() {
			return
		}
	}
}

// As many columns and rows as there may be: by key and by look, rows the other way round, alike, in part, and just not in part.
func TestLargest(t *testing.T) {
	const cols, rows = api.MaxCols, api.MaxRows
	var want []api.Pair
	for k := range rows {
		want = append(want, api.Pair{A: rows - 1 - k, B: k})
	}
	for _, unlike := range []int{0, 1, cols/2 - 1, cols / 2} {
		a, b := wide(cols, 0, ""), wide(cols, 0, "")
		for row := range rows {
			one, other := make([]string, cols), make([]string, cols)
			for col := range one {
				// A byte for each cell and one more for some: all texts together are not too large. No two rows have many in common.
				one[col] = string([]byte{byte(row*(col+1) + row/200*col*col), byte(row)})[:1+col%2]
				if other[col] = one[col]; (col+row)%cols < unlike {
					other[col] = ""
				}
			}
			a.Rows, b.Rows = append(a.Rows, one), append(b.Rows, other)
		}
		slices.Reverse(b.Rows)
		look := want
		if 2*(cols-unlike) <= cols {
			look = wantByLook(a, b, each(cols))
		}
		askByLook(t, a, b, each(cols), look)
		askAlign(t, a, b, each(cols), nil, look, api.OK)
	}
	a, b := wide(cols, rows, "x"), wide(cols, rows, "y")
	slices.Reverse(b.Rows)
	askByKey(t, a, b, list("c0"), want)
	askByKey(t, a, b, a.Head, nil)
	askAlign(t, a, b, each(cols), list("c0"), want, api.OK)
	askAlign(t, a, b, each(cols), list("c1"), nil, api.OK)
	// All rows alike but at one column: each one would do for each other one.
	c := wide(cols, rows, "x")
	for row := range c.Rows {
		c.Rows[row][0] = "z"
	}
	askAlign(t, a, c, each(cols), list("c0"), each(rows), api.OK)
	askAlign(t, c, a, each(cols), list("c0"), each(rows), api.OK)
	askAlign(t, c, c, each(cols), list("c0"), each(rows), api.OK)
	askSelf(t, api.Table{Head: c.Head[:3], Rows: wide(3, rows, "x").Rows})
}

// P1: what is far beyond the limits has an end, too.
func TestHuge(t *testing.T) {
	const n = 1 << 15
	// many rows, by key
	a, b := wide(2, n, "x"), wide(2, n, "y")
	slices.Reverse(b.Rows)
	var back []api.Pair
	for k := range n {
		back = append(back, api.Pair{A: n - 1 - k, B: k})
	}
	askByKey(t, a, b, list("c0"), back)
	askByKey(t, a, b, list("c0,c1"), nil)
	askByKey(t, a, b, list("c1"), nil)
	askByKey(t, a, b, slices.Repeat([]string{"c0"}, n), nil)
	askAlign(t, a, b, each(2), list("c0"), nil, api.ErrLarge)
	// many rows on one side, by look
	few := wide(2, 3, "x")
	askByLook(t, a, few, each(2), each(3))
	askByLook(t, few, a, each(2), each(3))
	// rows that all are alike in part with each other one
	c, d := wide(3, 1000, "x"), wide(3, 1000, "x")
	for row := range d.Rows {
		d.Rows[row][0] = "z"
	}
	askByLook(t, c, d, each(3), each(1000))
	// very many columns, and rows that are short, or of which one is as long
	e, f := wide(n, 0, ""), wide(n, 0, "")
	for row := range 1000 {
		e.Rows = append(e.Rows, []string{strconv.Itoa(row), "x"})
		f.Rows = append(f.Rows, []string{strconv.Itoa(row), "y", strconv.Itoa(row)})
	}
	askByLook(t, e, f, each(n), each(1000))
	askByLook(t, e, f, each(4), nil)
	askByLook(t, e, f, each(5), each(1000))
	askByLook(t, e, f, slices.Repeat(each(n), 2), nil)
	askAlign(t, e, f, each(n), nil, nil, api.ErrWidth)
	e.Rows, f.Rows = e.Rows[:100], f.Rows[:100]
	askByKey(t, e, f, e.Head, nil)
	askByKey(t, e, f, append([]string{e.Head[n-1]}, e.Head[:n-1]...), nil)
	f.Rows[7], e.Rows[9] = f.Head, f.Head
	askByLook(t, e, f, each(n), append(append(each(7), api.Pair{A: 9, B: 7}, api.Pair{A: 8, B: 8}, api.Pair{A: 7, B: 9}), each(100)[10:]...))
	askByKey(t, e, f, e.Head, []api.Pair{{A: 9, B: 7}})
	// very long cells, alike up to their end
	long := strings.Repeat("x", 1<<22)
	g, h := api.Table{Head: list("a,b")}, api.Table{Head: list("b,a")}
	for _, end := range []string{"p", "q", "r"} {
		g.Rows = append(g.Rows, []string{long + end, "1"})
		h.Rows = append(h.Rows, []string{"2", long + end})
	}
	slices.Reverse(h.Rows)
	askByKey(t, g, h, list("a"), ofPairs("2:0,1:1,0:2"))
	askByLook(t, g, h, ofPairs("0:1"), ofPairs("2:0,1:1,0:2"))
	askByLook(t, g, h, ofPairs("1:0,0:1"), nil)
}

// Rows that are alike in part are told one by one, and no more of them than are asked for.
func TestLeftEarly(t *testing.T) {
	x, y := looks(of("a,b,c|1,2,3|1,2,4"), of("a,b,c|1,2,5|1,2,6"), each(3))
	for most := 1; most <= 4; most++ {
		var told []api.Pair
		for p, score := range inPart(x, y, nil, 3) {
			told = append(told, p)
			if score != 2 {
				t.Errorf("%v has the score %d", p, score)
			}
			if len(told) == most {
				break
			}
		}
		if want := ofPairs("0:0,0:1,1:0,1:1")[:most]; !slices.Equal(told, want) {
			t.Errorf("%s are told, not %s", few(told), few(want))
		}
	}
}

// roomy is a list with more behind it, that is not the list's.
func roomy[T any](l []T, behind T) []T {
	own := slices.Clone(l)
	own = append(own, behind, behind, behind)
	return own[:len(l)]
}

// roomyTable is a table like this one, whose lists all have more behind them.
func roomyTable(x api.Table) api.Table {
	var rows [][]string
	for _, row := range x.Rows {
		rows = append(rows, roomy(row, "behind"))
	}
	return api.Table{Head: roomy(x.Head, "behind"), Rows: roomy(rows, []string{"behind"})}
}

// whole is all that a table holds, and what stands behind its lists.
func whole(x api.Table) string {
	var b strings.Builder
	fmt.Fprintf(&b, "%q;", x.Head[:cap(x.Head)])
	for _, row := range x.Rows[:cap(x.Rows)] {
		fmt.Fprintf(&b, "%q;", row[:cap(row)])
	}
	return b.String()
}

// R3: an argument stays, and what stands behind it.
func TestArgumentsStay(t *testing.T) {
	all := []string{"^", "a,b", "a,b,c|2,x,3|1,y,1|3,x,2", "b,a,c|y,1,1|x,3,2|x,2,3", "c,b,a|1,x,2|3,y,1", "a,b|2|^|1,x,3|", "behind|x", "a,a|1,1"}
	for _, one := range all {
		for _, other := range all {
			for _, l := range []string{"^", "0:0", "0:0,1:1", "1:0,0:1,2:2", "1:1,0:0", "9:9"} {
				for _, texts := range []string{"^", "a", "b,a", "a,a"} {
					a, b := roomyTable(of(one)), roomyTable(of(other))
					cols, names := roomy(ofPairs(l), api.Pair{A: 5, B: 5}), roomy(list(texts), "behind")
					tell := func() string {
						return fmt.Sprint(whole(a), whole(b), cols[:cap(cols)], names[:cap(names)])
					}
					before := tell()
					ByKey(a, b, names)
					ByLook(a, b, cols)
					Align(a, b, cols, names)
					Align(a, a, cols, names)
					if after := tell(); after != before {
						t.Errorf("%s is now %s", before, after)
					}
				}
			}
		}
	}
}

// spoil writes over a list, and over what stands behind it.
func spoil[T any](l []T, by T) {
	l = l[:cap(l)]
	for i := range l {
		l[i] = by
	}
}

// R3: an answer shares no memory with another one, nor with an argument.
func TestAnswersShareNothing(t *testing.T) {
	a, b := of("k,v,w|1,x,p|2,y,q|3,z,r"), of("k,v,w|3,z,r|4,o,o|1,x,s")
	cols, same := each(3), each(3)
	for _, x := range []struct {
		call func() []api.Pair
		want []api.Pair
	}{
		{func() []api.Pair { return ByKey(a, b, list("k")) }, ofPairs("2:0,0:2")},
		{func() []api.Pair { return ByLook(a, b, cols) }, ofPairs("2:0,0:2")},
		{func() []api.Pair { return ByLook(a, a, cols) }, each(3)},
		{func() []api.Pair { l, _ := Align(a, b, cols, list("k")); return l }, ofPairs("2:0,0:2")},
		{func() []api.Pair { l, _ := Align(a, b, cols, nil); return l }, ofPairs("2:0,0:2")},
		{func() []api.Pair { l, _ := Align(a, a, cols, nil); return l }, each(3)},
	} {
		first, second := x.call(), x.call()
		spoil(first, api.Pair{A: -7, B: -7})
		if !slices.Equal(second, x.want) || !slices.Equal(x.call(), x.want) || !slices.Equal(cols, same) {
			t.Errorf("%v is now %v, and cols are %v", x.want, second, cols)
		}
	}
}

// R4: however maps are gone through, and whatever was asked before, a call tells the same.
func TestTheSameAgain(t *testing.T) {
	a := mixed(8, 40, 3, 3)
	b := changed(a, 5)
	b.Rows = b.Rows[:35]
	names := a.Head[:7]
	keyed, looked := wantByKey(a, b, names), wantByLook(a, b, each(8))
	if len(keyed) == 0 || len(looked) <= len(keyed) {
		t.Fatal("too few rows are the same:", few(keyed), few(looked))
	}
	for range 30 {
		askByKey(t, a, b, names, keyed)
		askByLook(t, a, b, each(8), looked)
		askAlign(t, a, b, each(8), names, keyed, api.OK)
		askAlign(t, a, b, each(7), a.Head, wantByLook(a, b, each(7)), api.OK)
	}
}

func FuzzRows(f *testing.F) {
	f.Add("k,v|1,x|2,y", "k,v|2,z|1,x", "\x01\x01\x02\x02", "k")
	f.Add("a,b,c|1,2,3|1,2,4|2,1,3", "c,a,b|3,1,2|4,1,3", "\x03\x01\x01\x02\x02\x03", "b,a")
	f.Add("a,b,c|1,2,0|1,2,3", "a,b,c|1,2,3|1,2,3|^", "\x01\x01\x02\x02\x03\x03", "^")
	f.Add("a,a|1,2|2", "a|1|2|^", "\x02\x01", "a")
	f.Add("a,b|\xff,|\",\"\"|\n,", "a,b|,\xff|\"\",\"|,\n", "\x00\x01", ",")
	f.Fuzz(func(t *testing.T, one, other, places, texts string) {
		const most = 300
		a, b := of(one[:min(len(one), most)]), of(other[:min(len(other), most)])
		var cols []api.Pair
		for at := 0; at+1 < min(len(places), 40); at += 2 {
			cols = append(cols, api.Pair{A: int(places[at])%16 - 1, B: int(places[at+1])%16 - 1})
		}
		names := list(texts)
		for range 2 {
			ask(t, a, b, cols, names)
			ask(t, b, a, turned(cols), names)
			all := each(min(len(a.Head), len(b.Head)))
			ask(t, a, b, all, names)
			if len(all) > 0 {
				askLooked(t, a, b, all)
			}
			if wantUsable(a, names) && wantUsable(b, names) {
				askKeyed(t, a, b, names)
			}
			if wantCheck(a) == api.OK {
				askSelf(t, a)
			}
			// Once more, with rows that are as long as the head, so that they may be tables more often.
			a, b = even(a), even(b)
		}
	})
}

// even is a table with rows that have as many cells as the head has names.
func even(x api.Table) api.Table {
	own := api.Table{Head: x.Head}
	for _, row := range x.Rows {
		own.Rows = append(own.Rows, append(slices.Clone(row), x.Head...)[:len(x.Head)])
	}
	return own
}

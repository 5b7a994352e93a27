package keys

import (
	"fmt"
	"math"
	"math/bits"
	"slices"
	"strconv"
	"strings"
	"testing"
	"unsafe"

	"tartan/api"
)

// list is a list as it is written here: texts with commas between; a stroke upwards alone is a list without texts.
func list(s string) []string {
	if s == "^" {
		return nil
	}
	return strings.Split(s, ",")
}

// of is a table as it is written here: the head and the rows, with strokes between.
func of(s string) api.Table {
	var t api.Table
	for i, line := range strings.Split(s, "|") {
		if i == 0 {
			t.Head = list(line)
			continue
		}
		t.Rows = append(t.Rows, list(line))
	}
	return t
}

// all are tables as they are written here.
func all(texts ...string) []api.Table {
	var l []api.Table
	for _, s := range texts {
		l = append(l, of(s))
	}
	return l
}

// upTo are all lists of up to n of these.
func upTo[T any](n int, of ...T) [][]T {
	lists, from := [][]T{nil}, 0
	for range n {
		to := len(lists)
		for _, l := range lists[from:to] {
			for _, x := range of {
				lists = append(lists, append(slices.Clone(l), x))
			}
		}
		from = to
	}
	return lists
}

// short is the beginning of what may be long.
func short(x any) string {
	return fmt.Sprintf("%.300s", fmt.Sprintf("%q", x))
}

// What follows, up to the first asking function, is a plain reading of the chapter.

func wantCell(t api.Table, row, col int) string {
	for k, cell := range t.Rows[row] {
		if k == col {
			return cell
		}
	}
	return ""
}

func wantAlike(t api.Table, i, k int, cols []int) bool {
	for _, col := range cols {
		if wantCell(t, i, col) != wantCell(t, k, col) {
			return false
		}
	}
	return true
}

func wantUnique(t api.Table, cols []int) bool {
	for _, col := range cols {
		if col < 0 || col > len(t.Head)-1 {
			return false
		}
	}
	for k := range t.Rows {
		for i := range k {
			if wantAlike(t, i, k, cols) {
				return false
			}
		}
	}
	return len(cols) > 0
}

func wantPlaces(t api.Table, names []string) ([]int, bool) {
	var own []int
	for _, name := range names {
		at := 0
		for at < len(t.Head) && t.Head[at] != name {
			at++
		}
		if at == len(t.Head) {
			return nil, false
		}
		own = append(own, at)
	}
	return own, true
}

func wantUsable(l []api.Table, names []string) bool {
	for k := range names {
		for i := range k {
			if names[i] == names[k] {
				return false
			}
		}
	}
	for _, t := range l {
		cols, ok := wantPlaces(t, names)
		if !ok || !wantUnique(t, cols) {
			return false
		}
	}
	return len(names) > 0
}

func wantCandidates(l []api.Table, names []string) []string {
	var own []string
	for _, name := range names {
		in := !slices.Contains(own, name)
		for _, t := range l {
			in = in && slices.Contains(t.Head, name)
		}
		if in {
			own = append(own, name)
		}
	}
	return own
}

// wantAll are all choices of up to three of few candidates, whichever they are, in no order: by their places.
func wantAll(n int) [][]int {
	var own [][]int
	for set := range uint(1) << n {
		if ones := bits.OnesCount(set); ones < 1 || ones > 3 {
			continue
		}
		var choice []int
		for i := range n {
			if set>>i&1 == 1 {
				choice = append(choice, i)
			}
		}
		own = append(own, choice)
	}
	return own
}

// wantAhead tells whether one of two choices is shorter, or stands ahead.
func wantAhead(a, b []int) bool {
	if len(a) != len(b) {
		return len(a) < len(b)
	}
	return slices.Compare(a, b) < 0
}

// wantNames are the candidates of a choice.
func wantNames(from []string, choice []int) []string {
	var own []string
	for _, i := range choice {
		own = append(own, from[i])
	}
	return own
}

// wantInfer looks at all choices, and keeps the one that no other one that is usable is ahead of.
func wantInfer(l []api.Table, names []string) []string {
	from := wantCandidates(l, names)
	var best []int
	for _, choice := range wantAll(len(from)) {
		if wantUsable(l, wantNames(from, choice)) && (best == nil || wantAhead(choice, best)) {
			best = choice
		}
	}
	return wantNames(from, best)
}

func wantOf(l []api.Table, names []string) []string {
	if wantUsable(l, names) {
		return names
	}
	if len(l) > 0 {
		return wantInfer(l, l[0].Head)
	}
	return nil
}

func askUnique(t *testing.T, x api.Table, cols []int, want bool) {
	t.Helper()
	if got := Unique(x, cols); got != want {
		t.Errorf("Unique(%s, %v): %t, not %t", short(x), cols, got, want)
	}
}

func askPlaces(t *testing.T, x api.Table, names []string, want []int, ok bool) {
	t.Helper()
	if got, gotOK := Places(x, names); gotOK != ok || !slices.Equal(got, want) {
		t.Errorf("Places(%s, %s): %v %t, not %v %t", short(x), short(names), got, gotOK, want, ok)
	}
}

func askUsable(t *testing.T, l []api.Table, names []string, want bool) {
	t.Helper()
	if got := Usable(l, names); got != want {
		t.Errorf("Usable(%s, %s): %t, not %t", short(l), short(names), got, want)
	}
}

func askInfer(t *testing.T, l []api.Table, names, want []string) {
	t.Helper()
	if got := Infer(l, names); !slices.Equal(got, want) {
		t.Errorf("Infer(%s, %s): %s, not %s", short(l), short(names), short(got), short(want))
	}
}

func askOf(t *testing.T, l []api.Table, names, want []string) {
	t.Helper()
	if got := Of(l, names); !slices.Equal(got, want) {
		t.Errorf("Of(%s, %s): %s, not %s", short(l), short(names), short(got), short(want))
	}
}

// ask asks all that takes tables and names.
func ask(t *testing.T, l []api.Table, names []string) {
	t.Helper()
	askUsable(t, l, names, wantUsable(l, names))
	askInfer(t, l, names, wantInfer(l, names))
	askOf(t, l, names, wantOf(l, names))
	for _, x := range l {
		want, ok := wantPlaces(x, names)
		askPlaces(t, x, names, want, ok)
	}
}

// askLeast asks what holds of what is inferred, by the calls alone.
func askLeast(t *testing.T, l []api.Table, names []string) {
	t.Helper()
	from := wantCandidates(l, names)
	got := Infer(l, names)
	if len(got) > 0 && !Usable(l, got) {
		t.Errorf("Infer(%s, %s): %s is not usable", short(l), short(names), short(got))
	}
	for _, choice := range wantAll(len(from)) {
		other := wantNames(from, choice)
		if !Usable(l, other) {
			continue
		}
		if len(got) == 0 {
			t.Errorf("Infer(%s, %s): none, but %s is usable", short(l), short(names), short(other))
			return
		}
		if at, ok := wantPlaces(api.Table{Head: from}, got); !ok || wantAhead(choice, at) {
			t.Errorf("Infer(%s, %s): %s, but %s is usable", short(l), short(names), short(got), short(other))
			return
		}
	}
}

// askMore asks whether what tells rows apart does so with more columns, wherever they are put in.
func askMore(t *testing.T, x api.Table, cols []int) {
	t.Helper()
	if !Unique(x, cols) {
		return
	}
	for col := range x.Head {
		for at := range len(cols) + 1 {
			askUnique(t, x, slices.Insert(slices.Clone(cols), at, col), true)
		}
	}
}

// askMoreNames asks likewise, of names.
func askMoreNames(t *testing.T, l []api.Table, names []string) {
	t.Helper()
	if !Usable(l, names) || len(l) == 0 {
		return
	}
	for _, name := range wantCandidates(l, l[0].Head) {
		if slices.Contains(names, name) {
			continue
		}
		for at := range len(names) + 1 {
			askUsable(t, l, slices.Insert(slices.Clone(names), at, name), true)
		}
	}
}

func TestExamples(t *testing.T) {
	for _, x := range []struct{ table, want string }{
		{"a,b|1,x|1,y", "b"},
		{"a,b|1,x|1,y|2,x", "a,b"},
		{"a,b|1,x|1,x", "^"},
	} {
		l := all(x.table)
		askInfer(t, l, list("a,b"), list(x.want))
		askInfer(t, l, l[0].Head, list(x.want))
		askOf(t, l, nil, list(x.want))
	}
}

func TestUniqueByHand(t *testing.T) {
	for _, x := range []struct {
		table string
		cols  []int
		want  bool
	}{
		// ordinary ones: alike at some of the columns, at none, at all of them
		{"a,b|1,x|1,y", []int{0}, false},
		{"a,b|1,x|1,y", []int{1}, true},
		{"a,b|1,x|1,y", []int{0, 1}, true},
		{"a,b|1,x|1,y", []int{1, 0}, true},
		{"a,b|1,x|1,y|2,x", []int{0}, false},
		{"a,b|1,x|1,y|2,x", []int{1}, false},
		{"a,b|1,x|1,y|2,x", []int{0, 1}, true},
		{"a,b|1,x|2,y|1,x", []int{0, 1}, false},
		{"a,b,c|1,x,p|2,y,q|1,x,r", []int{0, 1}, false},
		{"a,b,c|1,x,p|2,y,q|1,x,r", []int{0, 2}, true},
		{"a,b,c|1,x,p|2,y,q|1,x,r", []int{0, 1, 2}, true},
		{"a,b|1,2|2,1", []int{0, 1}, true},
		// the first one and the last one, the last two
		{"a|1|2|3|4|5|1", []int{0}, false},
		{"a|1|2|3|4|5|5", []int{0}, false},
		{"a|1|2|3|4|5|6", []int{0}, true},
		// no columns
		{"a,b|1,x|1,y", nil, false},
		{"a,b|1,x|1,y", []int{}, false},
		{"a,b", nil, false},
		{"a,b|1,x", nil, false},
		{"^", nil, false},
		// a column below 0, and one at the head's length, or behind it: whatever else is there
		{"a,b|1,x|1,y", []int{-1}, false},
		{"a,b|1,x|1,y", []int{2}, false},
		{"a,b|1,x|1,y", []int{1, -1}, false},
		{"a,b|1,x|1,y", []int{-1, 1}, false},
		{"a,b|1,x|1,y", []int{1, 2}, false},
		{"a,b|1,x|1,y", []int{2, 1}, false},
		{"a,b|1,x|1,y", []int{0, 1, 3}, false},
		{"a,b|1,x|1,y", []int{1, math.MinInt}, false},
		{"a,b|1,x|1,y", []int{math.MaxInt, 1}, false},
		{"a,b|1,x|1,y", []int{1, 1 << 32}, false},
		{"a,b", []int{-1}, false},
		{"a,b", []int{2}, false},
		{"a,b", []int{0, 1, 2}, false},
		{"a,b|1,x", []int{-1, 0}, false},
		{"a,b|1,x", []int{2, 0}, false},
		{"^", []int{0}, false},
		{"^|1|2", []int{0}, false},
		{"^|1|2", []int{-1}, false},
		// a column that is told twice
		{"a,b|1,x|1,y", []int{0, 0}, false},
		{"a,b|1,x|1,y", []int{1, 1}, true},
		{"a,b|1,x|1,y", []int{1, 0, 1}, true},
		{"a,b|1,x|1,y", []int{0, 0, 0, 0, 0}, false},
		{"a,b|1,x|1,y", []int{0, 0, 0, 1}, true},
		{"a,b|1,x|1,y", []int{1, 0, 0, 0, 0, 0}, true},
		{"a,b|1,x|1,y|2,x", []int{1, 1, 1, 0, 0, 0, 1}, true},
		{"a,b|1,x|1,x", []int{1, 1, 1, 0, 0, 0, 1}, false},
		// more than three columns, of which the last one alone, or the first one, or one between tells
		{"a,b,c,d|1,1,1,1|1,1,1,2", []int{0, 1, 2}, false},
		{"a,b,c,d|1,1,1,1|1,1,1,2", []int{0, 1, 2, 3}, true},
		{"a,b,c,d|1,1,1,1|1,1,1,2", []int{3, 2, 1, 0}, true},
		{"a,b,c,d|1,1,1,1|2,1,1,1", []int{0, 1, 2, 3}, true},
		{"a,b,c,d|1,1,1,1|1,1,2,1", []int{0, 1, 2, 3}, true},
		{"a,b,c,d|1,1,1,1|1,1,1,1", []int{0, 1, 2, 3}, false},
		{"a,b,c,d,e|1,1,1,1,1|1,1,1,1,2", []int{0, 1, 2, 3, 4}, true},
		{"a,b,c,d,e|1,1,1,1,1|1,1,1,2,1", []int{0, 1, 2, 3, 4}, true},
		{"a,b,c,d,e|1,1,1,1,1|1,1,1,2,1", []int{0, 1, 2, 4}, false},
		{"a,b,c,d,e|1,1,1,1,2|1,1,1,2,1", []int{0, 1, 2, 3, 4}, true},
		// rows that are shorter than the head: what they do not have is the empty text
		{"a,b|1|1", []int{0, 1}, false},
		{"a,b|1|1,", []int{0, 1}, false},
		{"a,b|1|1,x", []int{0, 1}, true},
		{"a,b|1|2", []int{1}, false},
		{"a,b|1|2,", []int{1}, false},
		{"a,b|^|,", []int{0, 1}, false},
		{"a,b|^|^", []int{0}, false},
		{"a,b|^|,x", []int{0}, false},
		{"a,b|^|,x", []int{0, 1}, true},
		{"a,b|^|1", []int{0}, true},
		{"a,b,c,d,e|1,1,1|1,1,1,", []int{0, 1, 2, 3, 4}, false},
		{"a,b,c,d,e|1,1,1|1,1,1,,", []int{0, 1, 2, 3, 4}, false},
		{"a,b,c,d,e|1,1,1|1,1,1,,2", []int{0, 1, 2, 3, 4}, true},
		{"a,b,c,d,e|1,1,1,2|1,1,1,,2", []int{0, 1, 2, 3, 4}, true},
		{"a,b,c,d,e|1,1,1,2|1,1,1,2,", []int{0, 1, 2, 3, 4}, false},
		{"a,b,c,d,e|^|,,,,", []int{0, 1, 2, 3, 4}, false},
		// rows that are longer than the head: what is behind it is not asked
		{"a|1,x|1,y", []int{0}, false},
		{"a|1,x|1,y", []int{1}, false},
		{"a|1,x|2,x", []int{0}, true},
		{"a|1,x|2,x", []int{0, 1}, false},
		{"a,b,c,d|1,1,1,1,1|1,1,1,1,2", []int{0, 1, 2, 3}, false},
		{"a,b,c,d|1,1,1,1,1|1,1,1,2,1", []int{0, 1, 2, 3}, true},
		// no rows, one row
		{"a,b", []int{0}, true},
		{"a,b", []int{1, 0}, true},
		{"a,b|1,x", []int{0}, true},
		{"a,b|^", []int{1}, true},
		{"a,b,c,d", []int{0, 1, 2, 3}, true},
		{"a,b,c,d|1", []int{0, 1, 2, 3}, true},
		// cells that are empty are cells, too
		{"a,b|,x|,y", []int{0}, false},
		{"a,b|,x|,y", []int{1}, true},
		{"a|", []int{0}, true},
		{"a||", []int{0}, false},
		{"a,b|x,|,x", []int{0, 1}, true},
		// cells that together are the same text, but each is another one
		{"a,b|x,yz|xy,z|xyz,|,xyz", []int{0, 1}, true},
		{"a,b,c|x,y,z|xy,,z|x,,yz|,x,yz", []int{0, 1, 2}, true},
		{"a,b,c,d|x,y,z,w|x,y,zw,|x,y,,zw|x,,yz,w", []int{0, 1, 2, 3}, true},
		{"a,b,c,d,e|1,1,1,11,1|1,1,11,1,1|1,1,1,1,11|1,1,,1,111", []int{0, 1, 2, 3, 4}, true},
		{"a,b,c,d|p,q,1,abcdefgh|p,q,3 8abcdefgh,|p,q,13 8abcdefgh,", []int{0, 1, 2, 3}, true},
		{"a,b,c,d|p,q,1,3 1 x|p,q,13 1 x,|p,q,1 3 1 x,|p,q,,1 3 1 x", []int{0, 1, 2, 3}, true},
		// a head that has a name twice: each column is asked for itself
		{"a,a|1,x|1,y", []int{0}, false},
		{"a,a|1,x|1,y", []int{1}, true},
		// bytes, not letters
		{"a|\xff|\xfe", []int{0}, true},
		{"a|\x00|", []int{0}, true},
		{"a|e|E", []int{0}, true},
		{"a|\u00e9|e\u0301", []int{0}, true},
		{"a|1|01", []int{0}, true},
		{"a|1|1 ", []int{0}, true},
	} {
		askUnique(t, of(x.table), x.cols, x.want)
		if wantUnique(of(x.table), x.cols) != x.want {
			t.Errorf("the plain reading of %s and %v differs", x.table, x.cols)
		}
		askMore(t, of(x.table), x.cols)
	}
}

func TestPlacesByHand(t *testing.T) {
	for _, x := range []struct {
		head, names string
		want        []int
		ok          bool
	}{
		{"a,b,c", "a", []int{0}, true},
		{"a,b,c", "c", []int{2}, true},
		{"a,b,c", "c,a", []int{2, 0}, true},
		{"a,b,c", "a,b,c", []int{0, 1, 2}, true},
		// no names
		{"a,b,c", "^", nil, true},
		{"^", "^", nil, true},
		// a name twice
		{"a,b,c", "b,b", []int{1, 1}, true},
		{"a,b,c", "c,a,c,a,b", []int{2, 0, 2, 0, 1}, true},
		// one that is not in the head: the first one, the last one, the only one
		{"a,b,c", "d", nil, false},
		{"a,b,c", "d,a", nil, false},
		{"a,b,c", "a,b,d", nil, false},
		{"a,b,c", "a,d,b", nil, false},
		{"a,b,c", "", nil, false},
		{"a,b,c", "A", nil, false},
		{"a,b,c", "a ", nil, false},
		{"ab,c", "a", nil, false},
		{"^", "a", nil, false},
		{"^", "", nil, false},
		// a head that has a name twice
		{"a,b,a", "a", []int{0}, true},
		{"b,a,a", "a,b,a", []int{1, 0, 1}, true},
		{"a,a,b,b", "b,a", []int{2, 0}, true},
		// the empty name
		{",a", "", []int{0}, true},
		{"a,", "a,", []int{0, 1}, true},
		{"a,,", "", []int{1}, true},
	} {
		for _, rows := range []string{"", "|1,2,3", "|1|^"} {
			askPlaces(t, of(x.head+rows), list(x.names), x.want, x.ok)
		}
	}
}

func TestUsableByHand(t *testing.T) {
	for _, x := range []struct {
		tables []api.Table
		names  string
		want   bool
	}{
		// ordinary ones: of one table, of more
		{all("a,b|1,x|1,y"), "a", false},
		{all("a,b|1,x|1,y"), "b", true},
		{all("a,b|1,x|1,y"), "a,b", true},
		{all("a,b|1,x|1,y"), "b,a", true},
		{all("a,b|1,x|1,y", "a,b|1,x|2,x"), "a", false},
		{all("a,b|1,x|1,y", "a,b|1,x|2,x"), "b", false},
		{all("a,b|1,x|1,y", "a,b|1,x|2,x"), "a,b", true},
		{all("a,b|1,x|1,y", "b,a|y,1|x,1"), "b", true},
		{all("a,b|1,x|1,y", "b,a|y,1|x,1"), "a", false},
		{all("a,b|1,x|2,x", "b,c,a|1,1,1|1,1,2"), "a", true},
		{all("a|1|2", "a|1|2", "a|1|1"), "a", false},
		{all("a|1|2", "a|1|1", "a|1|2"), "a", false},
		{all("a|1|1", "a|1|2", "a|1|2"), "a", false},
		{all("a|1|2", "a|1|2", "a|1|2"), "a", true},
		// the same cells in two tables are no matter
		{all("a|1", "a|1"), "a", true},
		// no names
		{all("a,b|1,x|1,y"), "^", false},
		{all("a,b"), "^", false},
		{all("^"), "^", false},
		{nil, "^", false},
		// a name twice, whatever else is there
		{all("a,b|1,x|1,y"), "b,b", false},
		{all("a,b|1,x|1,y"), "b,a,b", false},
		{all("a,b|1,x|1,y"), "a,a,b", false},
		{all("a,b"), "a,a", false},
		{nil, "a,a", false},
		{nil, "a,b,c,d,a", false},
		// one that is not in the head
		{all("a,b|1,x|1,y"), "c", false},
		{all("a,b|1,x|1,y"), "b,c", false},
		{all("a,b|1,x|1,y"), "c,b", false},
		{all("a,b"), "c", false},
		{all("a,b"), "", false},
		{all("^"), "a", false},
		{all("a,b", "a"), "b", false},
		{all("a", "a,b"), "b", false},
		{all("a,b", "a"), "a,b", false},
		{all("a,b", "a"), "a", true},
		{all("a,b", "b", "a,b"), "a", false},
		// a head that has a name twice: the first column is asked
		{all("a,a|1,x|1,y"), "a", false},
		{all("a,a|x,1|y,1"), "a", true},
		{all("a,b,a|1,x,1|1,y,2"), "a", false},
		{all("a,b,a|1,x,1|1,y,1"), "a,b", true},
		// no tables
		{nil, "a", true},
		{nil, "", true},
		{nil, "a,b,c,d,e", true},
		// no rows, one row
		{all("a,b"), "a", true},
		{all("a,b", "b,a"), "b,a", true},
		{all("a,b|1,x", "b,a|^"), "a", true},
		// more than three names, and all that there are
		{all("a,b,c,d|1,1,1,1|1,1,1,2"), "a,b,c", false},
		{all("a,b,c,d|1,1,1,1|1,1,1,2"), "a,b,c,d", true},
		{all("a,b,c,d|1,1,1,1|1,1,1,2", "d,c,b,a|1,1,1,1|1,1,1,2"), "d,a,b,c", true},
		{all("a,b,c,d|1,1,1,1|1,1,1,1"), "a,b,c,d", false},
		{all("a,b,c,d|1,1,1,1|1,1,1,2"), "a,b,c,d,e", false},
		// rows that are shorter or longer than the head
		{all("a,b|1|1,x"), "a", false},
		{all("a,b|1|1,x"), "b", true},
		{all("a,b|1|1,"), "a,b", false},
		{all("a|1,x|1,y"), "a", false},
		// the empty name
		{all(",b|1,x|1,y"), "", false},
		{all("a,|1,x|1,y"), "", true},
	} {
		askUsable(t, x.tables, list(x.names), x.want)
		if wantUsable(x.tables, list(x.names)) != x.want {
			t.Errorf("the plain reading of %s and %s differs", short(x.tables), x.names)
		}
		askMoreNames(t, x.tables, list(x.names))
		back := slices.Clone(x.tables)
		slices.Reverse(back)
		askUsable(t, back, list(x.names), x.want)
	}
}

// sixteen has four columns, all of which are needed.
const sixteen = "a,b,c,d|0,0,0,0|0,0,0,1|0,0,1,0|0,0,1,1|0,1,0,0|0,1,0,1|0,1,1,0|0,1,1,1|1,0,0,0|1,0,0,1|1,0,1,0|1,0,1,1|1,1,0,0|1,1,0,1|1,1,1,0|1,1,1,1"

// eight has three columns, all of which are needed.
const eight = "a,b,c|0,0,0|0,0,1|0,1,0|0,1,1|1,0,0|1,0,1|1,1,0|1,1,1"

func TestInferByHand(t *testing.T) {
	for _, x := range []struct {
		tables []api.Table
		names  string
		want   string
	}{
		// the first one, the second one, the last one
		{all("a,b,c|1,1,1|2,2,2"), "a,b,c", "a"},
		{all("a,b,c|1,1,1|1,2,2"), "a,b,c", "b"},
		{all("a,b,c|1,1,1|1,1,2"), "a,b,c", "c"},
		// as the names stand, not as the head does
		{all("a,b,c|1,1,1|2,2,2"), "c,b,a", "c"},
		{all("a,b,c|1,1,1|2,2,2"), "b,a", "b"},
		{all("a,b,c|1,1,1|1,2,2"), "c,b,a", "c"},
		{all("a,b|1,x|1,y|2,x"), "b,a", "b,a"},
		{all(eight), "c,a,b", "c,a,b"},
		// only of the names
		{all("a,b,c|1,1,1|1,2,2"), "a", "^"},
		{all("a,b,c|1,1,1|1,2,2"), "a,c", "c"},
		{all("a,b|1,x|1,y|2,x"), "a", "^"},
		// a shorter one that stands behind a longer one
		{all("a,b,c|1,x,1|1,y,2|2,x,3"), "a,b,c", "c"},
		{all("a,b,c,d|0,0,0,1|0,0,1,2|0,1,0,3|0,1,1,4|1,0,0,5|1,0,1,6|1,1,0,7|1,1,1,8"), "a,b,c,d", "d"},
		{all("a,b,c,d,e|0,0,0,1,1|0,0,1,1,2|0,1,0,2,1|0,1,1,2,2|1,0,0,3,1|1,0,1,3,2|1,1,0,4,1|1,1,1,4,2"), "a,b,c,d,e", "c,d"},
		// of two as long the one whose first candidate stands first, whatever its second one is
		{all("a,b,c,d|1,1,1,1|1,2,2,2|2,2,2,1"), "a,b,c,d", "a,b"},
		{all("a,b,c,d|0,0,0,0|0,0,0,1|0,1,1,0|1,1,1,1"), "a,b,c,d", "b,d"},
		{all("a,b,c,d|0,0,0,0|0,1,0,1|1,0,1,0|1,0,1,1"), "a,b,c,d", "a,d"},
		{all("a,b,c,d|0,0,0,0|0,0,1,0|1,1,0,1|1,1,1,1"), "a,b,c,d", "a,c"},
		// of three: by the first one, the second one, the third one
		{all("a,b,c,d|0,0,0,0|0,0,1,1|0,1,0,0|0,1,1,1|1,0,0,0|1,0,1,1|1,1,0,0|1,1,1,1"), "a,b,c,d", "a,b,c"},
		{all("x,a,b,c|0,0,0,0|0,0,0,1|0,0,1,0|0,0,1,1|0,1,0,0|0,1,0,1|0,1,1,0|0,1,1,1"), "x,a,b,c", "a,b,c"},
		{all("a,x,b,c|0,0,0,0|0,0,0,1|0,0,1,0|0,0,1,1|1,0,0,0|1,0,0,1|1,0,1,0|1,0,1,1"), "a,x,b,c", "a,b,c"},
		{all("a,b,x,c|0,0,0,0|0,0,0,1|0,1,0,0|0,1,0,1|1,0,0,0|1,0,0,1|1,1,0,0|1,1,0,1"), "a,b,x,c", "a,b,c"},
		{all("a,b,c,x|0,0,0,0|0,0,1,0|0,1,0,0|0,1,1,0|1,0,0,0|1,0,1,0|1,1,0,0|1,1,1,0"), "a,b,c,x", "a,b,c"},
		{all(eight), "a,b,c", "a,b,c"},
		// none of up to three, though one of four would be
		{all(sixteen), "a,b,c,d", "^"},
		{all(sixteen), "a,b,c", "^"},
		{all(sixteen, "a,b,c,d"), "d,c,b,a", "^"},
		{all("a,b,c,d", sixteen), "a,b,c,d", "^"},
		// none at all
		{all("a,b|1,x|1,x"), "a,b", "^"},
		{all("a,b|1,x|2,y|1,x"), "a,b", "^"},
		{all("a,b|1,x|2,y", "a,b|1,x|1,x"), "a,b", "^"},
		{all("a,b|^|^"), "a,b", "^"},
		// no rows, one row
		{all("a,b"), "a,b", "a"},
		{all("a,b"), "b,a", "b"},
		{all("a,b|1,x"), "a,b", "a"},
		{all("a,b|^"), "b", "b"},
		// no names; none in the head
		{all("a,b"), "^", "^"},
		{all("a,b"), "c", "^"},
		{all("a,b"), "", "^"},
		{all("^"), "a", "^"},
		{all("^"), "^", "^"},
		{all("a,b"), "c,b", "b"},
		{all("a,b"), "c,d,b,e,a", "b"},
		// of more tables: each of them is asked, each by its own columns
		{all("a,b|1,x|1,y", "a,b|1,x|2,x"), "a,b", "a,b"},
		{all("a,b,c|1,x,1|1,y,2", "a,b,c|1,x,1|2,x,2"), "a,b,c", "c"},
		{all("a,b|1,x|1,y", "b,a|x,1|y,1"), "a,b", "b"},
		{all("a,b|x,1|y,1", "b,a|1,x|1,y"), "a,b", "a"},
		{all("a,b|x,1|y,1", "b,a|x,1|y,1"), "a,b", "a,b"},
		{all("a,b,c|1,1,1|1,2,1|1,1,2", "a,b,c|1,1,1|2,1,1"), "a,b,c", "a,b,c"},
		// tables of which one has not all names
		{all("a,b,c", "b,c"), "a,b,c", "b"},
		{all("b,c", "a,b,c"), "a,b,c", "b"},
		{all("a,b,c", "c,d", "e,c"), "a,b,c", "c"},
		{all("a,b,c", "b", "c"), "a,b,c", "^"},
		{all("a,b", "c,d"), "a,b,c,d", "^"},
		{all("a,b", "^"), "a,b", "^"},
		{all("a,b|1,x|2,x", "b|1|2"), "a,b", "^"},
		{all("a,b,c|1,x,1|2,x,1|2,y,1", "b,c,a|1,1,1|1,1,2"), "a,b,c", "a,b"},
		{all("a,b,c,d|1,1,1,1|2,1,2,1|3,2,1,1", "b,c,d"), "a,b,c,d", "b,c"},
		// no tables: all names are candidates
		{nil, "q", "q"},
		{nil, "b,a", "b"},
		{nil, "", ""},
		{nil, "^", "^"},
		{nil, "b,b", "b"},
		// candidates that are named twice
		{all("a,b|1,x|1,y"), "a,a,b", "b"},
		{all("a,b|1,x|1,y|2,x"), "a,a,b,b", "a,b"},
		{all("a,b|1,x|1,y|2,x"), "b,a,b,a", "b,a"},
		{all("a,b|1,x|1,y|2,x"), "a,a", "^"},
		{all("a,b|1,x|1,x"), "a,a,b,b", "^"},
		{all(eight), "a,b,a,c,b,a", "a,b,c"},
		{all("a,b,c|0,0,0|0,1,0|1,0,1|1,1,1"), "c,b,c,a,b", "c,b"},
		// a head that has a name twice: its first column is asked
		{all("a,a|1,x|1,y"), "a,a", "^"},
		{all("a,a|x,1|y,1"), "a,a", "a"},
		{all("a,a,b|1,x,1|1,y,2"), "a,a,b", "b"},
		{all("a,b,a|1,x,1|1,y,2|2,x,3"), "a,b,a", "a,b"},
		{all("a,b,c|1,x,1|1,y,2|2,x,3", "c,c|1,1|1,1"), "a,b,c", "^"},
		// rows that are shorter, or longer, than the head
		{all("a,b|1|1,x"), "a,b", "b"},
		{all("a,b|1|1,"), "a,b", "^"},
		{all("a,b|1|1,x|,x"), "a,b", "a,b"},
		{all("a|1,x|1,y"), "a", "^"},
		{all("a|1,x|2,x"), "a", "a"},
		// cells that together are the same text, but each is another one
		{all("a,b|x,yx|xy,x|x,x"), "a,b", "a,b"},
		{all("a,b,c|x,,yx|xy,,x|x,,x|xy,,yx"), "a,b,c", "a,c"},
		{all("a,b|xy,|x,y|,xy|xy,y"), "a,b", "a,b"},
		{all("a,b,c|x,y,z|x,yz,|,yz,z|x,yz,z|,y,z"), "a,b,c", "a,b,c"},
		// the empty name
		{all(",b|1,x|2,x"), ",b", ""},
		{all(",b|1,x|2,x|2,y"), ",b", ",b"},
	} {
		askInfer(t, x.tables, list(x.names), list(x.want))
		if want := wantInfer(x.tables, list(x.names)); !slices.Equal(want, list(x.want)) {
			t.Errorf("the plain reading of %s and %s is %s, not %s", short(x.tables), x.names, short(want), x.want)
		}
		askLeast(t, x.tables, list(x.names))
		back := slices.Clone(x.tables)
		slices.Reverse(back)
		askInfer(t, back, list(x.names), list(x.want))
	}
	askUsable(t, all(sixteen), list("a,b,c,d"), true)
	askUsable(t, all(sixteen), list("d,b,a,c"), true)
}

func TestOfByHand(t *testing.T) {
	for _, x := range []struct {
		tables []api.Table
		names  string
		want   string
	}{
		// usable as they are, though there is a lesser one, or one that stands ahead
		{all("a,b,c|1,1,1|2,2,2"), "a", "a"},
		{all("a,b,c|1,1,1|2,2,2"), "c", "c"},
		{all("a,b,c|1,1,1|2,2,2"), "c,a", "c,a"},
		{all("a,b,c|1,1,1|2,2,2"), "c,b,a", "c,b,a"},
		{all("a,b|1,x|1,y"), "a,b", "a,b"},
		{all(sixteen), "d,a,c,b", "d,a,c,b"},
		{all("a,b,c", "c,a|1,1"), "c,a", "c,a"},
		{all("a,b,a|1,x,1|2,x,1"), "a", "a"},
		// not usable: no names, a name twice, one that is not in the head, rows that are not told apart
		{all("a,b,c|1,1,1|1,2,2"), "^", "b"},
		{all("a,b,c|1,1,1|1,2,2"), "c,c", "b"},
		{all("a,b,c|1,1,1|1,2,2"), "c,d", "b"},
		{all("a,b,c|1,1,1|1,2,2"), "d", "b"},
		{all("a,b,c|1,1,1|1,2,2"), "a", "b"},
		{all("a,b,c|1,1,1|1,2,2", "b,c,a|1,2,3"), "a", "b"},
		// what is asked for is no matter then: not its names, nor their order
		{all("a,b|1,x|1,y|2,x"), "b", "a,b"},
		{all("a,b|1,x|1,y|2,x"), "b,c,a", "a,b"},
		{all("a,b|1,x|1,y|2,x"), "b,a,b", "a,b"},
		{all("a,b|1,x|1,y|2,x"), "b,a", "b,a"},
		// of the first table's head
		{all("a,b,c", "c,b,a"), "^", "a"},
		{all("c,b,a", "a,b,c"), "^", "c"},
		{all("a,b,c", "c,b"), "a", "b"},
		{all("c,b", "a,b,c"), "a", "c"},
		{all("a,b", "c,d"), "a", "^"},
		{all("^", "a"), "^", "^"},
		{all("a", "^"), "a", "^"},
		{all("b,b,a,a"), "^", "b"},
		{all("b,b,a,a|1,2,3,4|1,3,3,5|1,4,4,6"), "^", "^"},
		{all("b,b,a,a|1,2,3,4|1,3,3,5|2,4,3,6"), "b", "^"},
		{all("b,b,a,a|1,2,3,4|1,3,4,5|2,4,3,6"), "b", "b,a"},
		// none is usable
		{all(sixteen), "^", "^"},
		{all(sixteen), "a,b,c", "^"},
		{all(sixteen), "a,b,c,d,a", "^"},
		{all("a,b|1,x|1,x"), "a,b", "^"},
		{all("a,b|1,x|1,x"), "^", "^"},
		{all("^"), "^", "^"},
		{all("^"), "a", "^"},
		// no tables
		{nil, "a", "a"},
		{nil, "b,a,c,d", "b,a,c,d"},
		{nil, "", ""},
		{nil, "^", "^"},
		{nil, "a,a", "^"},
		{nil, "b,a,b", "^"},
		// no rows, one row
		{all("a,b"), "b", "b"},
		{all("a,b"), "^", "a"},
		{all("a,b|1,x"), "b,a", "b,a"},
		{all("a,b|1,x"), "c", "a"},
		// rows that are shorter, or longer, than the head
		{all("a,b|1|1,x"), "a", "b"},
		{all("a,b|1|1,"), "b", "^"},
		{all("a,b|1,x,1|1,x,2"), "a,b", "^"},
	} {
		askOf(t, x.tables, list(x.names), list(x.want))
		if want := wantOf(x.tables, list(x.names)); !slices.Equal(want, list(x.want)) {
			t.Errorf("the plain reading of %s and %s is %s, not %s", short(x.tables), x.names, short(want), x.want)
		}
	}
}

// smalls are all tables of these heads, and of up to n of these rows.
func smalls(heads, records [][]string, n int) []api.Table {
	var own []api.Table
	for _, head := range heads {
		for _, rows := range upTo(n, records...) {
			own = append(own, api.Table{Head: head, Rows: rows})
		}
	}
	return own
}

func TestAllSmallTables(t *testing.T) {
	someCols := upTo(3, -1, 0, 1, 2)
	someNames := upTo(3, "a", "b", "c")
	for _, x := range smalls(upTo(2, "a", "b"), upTo(3, "", "1"), 2) {
		for _, cols := range someCols {
			askUnique(t, x, cols, wantUnique(x, cols))
			askMore(t, x, cols)
		}
		for _, names := range someNames {
			ask(t, []api.Table{x}, names)
		}
		if t.Failed() {
			return
		}
	}
	for _, x := range smalls(upTo(3, "a", "b"), upTo(2, "1", "2"), 3) {
		ask(t, []api.Table{x}, x.Head)
	}
	for _, names := range upTo(5, "a", "b", "c") {
		ask(t, nil, names)
	}
}

func TestAllTwoSmallTables(t *testing.T) {
	own := smalls([][]string{{"a", "b"}, {"b", "a"}, {"b", "c", "a"}, {"b"}, {"a", "a", "b"}}, [][]string{{"1", "1"}, {"1", "2", "1"}, {"2", "1", "1"}, {"1"}}, 2)
	someNames := upTo(2, "a", "b")
	for _, x := range own {
		for _, y := range own {
			for _, names := range someNames {
				ask(t, []api.Table{x, y}, names)
			}
		}
		if t.Failed() {
			return
		}
	}
}

// All rows of these cells: what is told apart is just what is unlike, wherever the cells' bytes stand.
func TestCellsThatTogetherAreAlike(t *testing.T) {
	for _, text := range []string{"ab", "aaa", "1 1 x", "3 1 a4 1 b", "3 3 4 1 ", "0 0 0 0 ", "1,1,1", "\x00\x00\x00", "\"\"\"", "\n\r\n", "::::"} {
		for _, n := range []int{2, 3, 4, 5} {
			x := api.Table{Head: heads(n), Rows: splits(text, n)}
			cols := upward(n)
			askUnique(t, x, cols, true)
			slices.Reverse(cols)
			askUnique(t, x, cols, true)
			askUsable(t, []api.Table{x}, x.Head, true)
			for _, cols := range upTo(2, upward(n)...) {
				askUnique(t, x, cols, wantUnique(x, cols))
			}
			x.Rows = append(x.Rows, slices.Clone(x.Rows[len(x.Rows)/2]))
			askUnique(t, x, cols, false)
			askUsable(t, []api.Table{x}, x.Head, false)
		}
	}
}

// splits are all ways to make n cells of a text.
func splits(text string, n int) [][]string {
	if n == 1 {
		return [][]string{{text}}
	}
	var own [][]string
	for i := range len(text) + 1 {
		for _, rest := range splits(text[i:], n-1) {
			own = append(own, append([]string{text[:i]}, rest...))
		}
	}
	return own
}

// heads are n names.
func heads(n int) []string {
	var own []string
	for i := range n {
		own = append(own, "c"+strconv.Itoa(i))
	}
	return own
}

// upward are the numbers from 0 on, less than n.
func upward(n int) []int {
	own := make([]int, n)
	for i := range own {
		own[i] = i
	}
	return own
}

// Each place of a cell makes a difference, and each length; that a row ends makes none.
func TestMissingCells(t *testing.T) {
	for n := 1; n <= 7; n++ {
		cols := upward(n)
		for i := range n {
			one := make([]string, n)
			one[i] = "x"
			for k := range n {
				other := make([]string, n)
				other[k] = "x"
				askUnique(t, api.Table{Head: heads(n), Rows: [][]string{one, other}}, cols, i != k)
				askUnique(t, api.Table{Head: heads(n), Rows: [][]string{one, other[:k+1]}}, cols, i != k)
				askUnique(t, api.Table{Head: heads(n), Rows: [][]string{one[:i+1], other}}, cols, i != k)
				askUnique(t, api.Table{Head: heads(n), Rows: [][]string{one[:i], other[:k]}}, cols, false)
				askUnique(t, api.Table{Head: heads(n), Rows: [][]string{one, other[:k]}}, cols, true)
			}
		}
	}
}

// mixed is a table of so many columns and rows, without an order, the same whenever asked; some of its rows are shorter, or longer, than its head.
func mixed(cols, rows, cells int, from uint32) api.Table {
	next := func(below int) int {
		from = from*1664525 + 1013904223
		return int(from>>8) % below
	}
	x := api.Table{Head: heads(cols)}
	for i := len(x.Head) - 1; i > 0; i-- {
		k := next(i + 1)
		x.Head[i], x.Head[k] = x.Head[k], x.Head[i]
	}
	for range rows {
		row := make([]string, cols)
		for i := range row {
			if k := next(cells); k > 0 {
				row[i] = strconv.Itoa(k)
			}
		}
		switch next(9) {
		case 0:
			row = row[:cols-1]
		case 1:
			row = append(row, "9")
		}
		x.Rows = append(x.Rows, row)
	}
	return x
}

func TestLeast(t *testing.T) {
	many := map[int]int{}
	for n := uint32(0); n < 1200; n++ {
		cols, rows, cells := 2+int(n%6), 2+int(n/6%7), 2+int(n/42%3)
		l := []api.Table{mixed(cols, rows, cells, n)}
		switch n % 5 {
		case 1:
			l = append(l, mixed(cols, rows, cells, n+7777))
		case 2:
			l = append(l, mixed(cols+1, 3, cells, n+7777), mixed(max(2, cols-1), 2, cells, n+9999))
		}
		names := l[0].Head
		if n%3 == 0 {
			names = append([]string{"none", names[1]}, names...)
		}
		ask(t, l, names)
		askLeast(t, l, names)
		many[len(Infer(l, names))]++
		for _, choice := range wantAll(cols) {
			askUnique(t, l[0], choice, wantUnique(l[0], choice))
			askMore(t, l[0], choice)
			askMoreNames(t, l, wantNames(l[0].Head, choice))
		}
		if t.Failed() {
			return
		}
	}
	// All sizes came, and none, too: else this would have asked little.
	for size := range api.MaxKey + 1 {
		if many[size] < 50 {
			t.Errorf("%d names came %d times", size, many[size])
		}
	}
}

// onlyBy is a table whose rows are alike at all columns but those of a choice, and there as unlike as two cells can make them: all of these columns are needed.
func onlyBy(choice []int, cols int) api.Table {
	x := api.Table{Head: heads(cols)}
	for number := range 1 << len(choice) {
		row := slices.Repeat([]string{"same"}, cols)
		for k, col := range choice {
			row[col] = strconv.Itoa(number >> k & 1)
		}
		x.Rows = append(x.Rows, row)
	}
	return x
}

// Of many columns just the choice that is the only one is found, wherever it stands.
func TestTheOnlyChoice(t *testing.T) {
	for _, cols := range []int{3, 4, 5, api.MaxCols - 1, api.MaxCols} {
		last := cols - 1
		for _, choice := range [][]int{{0}, {1}, {last}, {0, 1}, {0, last}, {last - 1, last}, {0, 1, 2}, {0, 1, last}, {0, last - 1, last}, {last - 2, last - 1, last}} {
			x := onlyBy(choice, cols)
			want := wantNames(x.Head, choice)
			askInfer(t, []api.Table{x}, x.Head, want)
			askOf(t, []api.Table{x, x}, nil, want)
			askUnique(t, x, choice, true)
			for k := range choice {
				askUnique(t, x, slices.Delete(slices.Clone(choice), k, k+1), false)
				askUnique(t, x, slices.DeleteFunc(upward(cols), func(col int) bool { return col == choice[k] }), false)
			}
			askUnique(t, x, upward(cols), true)
		}
		if cols > 3 {
			x := onlyBy([]int{0, 1, last - 1, last}, cols)
			askInfer(t, []api.Table{x}, x.Head, nil)
			askUsable(t, []api.Table{x}, wantNames(x.Head, []int{0, 1, last - 1, last}), true)
		}
	}
}

// As many rows as a table may have, and one more.
func TestManyRows(t *testing.T) {
	for _, n := range []int{api.MaxRows - 1, api.MaxRows, api.MaxRows + 1, 5000} {
		x := api.Table{Head: heads(4)}
		for row := range n {
			x.Rows = append(x.Rows, []string{"same", strconv.Itoa(row % 20), strconv.Itoa(row / 20), strconv.Itoa(row / 2)})
		}
		for _, cols := range upTo(3, 0, 1, 2, 3) {
			told := slices.Contains(cols, 1) && (slices.Contains(cols, 2) || slices.Contains(cols, 3))
			askUnique(t, x, cols, told)
		}
		askInfer(t, []api.Table{x}, x.Head, []string{"c1", "c2"})
		askOf(t, []api.Table{x}, []string{"c3", "c0", "c1"}, []string{"c3", "c0", "c1"})
		askOf(t, []api.Table{x}, []string{"c2", "c3"}, []string{"c1", "c2"})
		x.Rows[n-1] = slices.Clone(x.Rows[0])
		askUnique(t, x, upward(4), false)
		askInfer(t, []api.Table{x}, x.Head, nil)
	}
}

// P1: what is far beyond the limits has an end, too.
func TestHuge(t *testing.T) {
	const n = 1 << 17
	many := heads(n)
	wide := api.Table{Head: many}
	askPlaces(t, wide, many, upward(n), true)
	askUnique(t, wide, upward(n), true)
	askUsable(t, []api.Table{wide, wide}, many, true)
	askUsable(t, []api.Table{wide}, append(slices.Clone(many), "c0"), false)
	askInfer(t, []api.Table{wide, wide}, many, []string{"c0"})
	askInfer(t, nil, many, []string{"c0"})
	askOf(t, []api.Table{wide}, append(slices.Clone(many), "c0"), []string{"c0"})
	// two rows that are told apart by the last column alone, two that are not at all, and very many without a cell
	cells := slices.Repeat([]string{"x"}, n)
	other := slices.Clone(cells)
	other[n-1] = "y"
	wide.Rows = [][]string{cells, other}
	askUnique(t, wide, upward(n), true)
	askUnique(t, wide, upward(n-1), false)
	askInfer(t, []api.Table{wide}, many, []string{many[n-1]})
	wide.Rows = [][]string{cells, other, cells}
	askUnique(t, wide, upward(n), false)
	askInfer(t, []api.Table{wide}, many, nil)
	askOf(t, []api.Table{wide}, many, nil)
	wide.Rows = append(make([][]string, n), cells)
	askUnique(t, wide, upward(n), false)
	askOf(t, []api.Table{wide}, many, nil)
	for i := range wide.Rows {
		wide.Rows[i] = []string{strconv.Itoa(i)}
	}
	askUnique(t, wide, upward(n), true)
	askOf(t, []api.Table{wide}, nil, []string{"c0"})
	// a column that is told very often
	x := of("a,b|1,x|1,y")
	askUnique(t, x, make([]int, 1<<22), false)
	askUnique(t, x, slices.Repeat([]int{0, 1}, 1<<21), true)
	askUsable(t, []api.Table{x}, slices.Repeat([]string{"b"}, 1<<20), false)
	// very many tables
	askOf(t, slices.Repeat([]api.Table{x}, n), nil, []string{"b"})
	askUsable(t, slices.Repeat([]api.Table{x}, n), []string{"a"}, false)
	// very many rows, very long cells
	long := strings.Repeat("x", 1<<22)
	askUnique(t, api.Table{Head: []string{long}, Rows: [][]string{{long}, {long[1:]}}}, []int{0}, true)
	y := of("a,b")
	for i := range 1 << 18 {
		y.Rows = append(y.Rows, []string{"same", strconv.Itoa(i)})
	}
	askInfer(t, []api.Table{y}, y.Head, []string{"b"})
}

// roomy is a list with more behind it, that is not the list's.
func roomy[T any](l []T, behind T) []T {
	own := slices.Clone(l)
	own = append(own, behind, behind, behind)
	return own[:len(l)]
}

// whole is all that tables hold, and what stands behind their lists.
func whole(l []api.Table) string {
	var b strings.Builder
	for _, x := range l[:cap(l)] {
		fmt.Fprintf(&b, "%q;", x.Head[:cap(x.Head)])
		for _, row := range x.Rows[:cap(x.Rows)] {
			fmt.Fprintf(&b, "%q;", row[:cap(row)])
		}
	}
	return b.String()
}

// roomyTables are tables like these, whose lists all have more behind them.
func roomyTables(l []api.Table) []api.Table {
	var own []api.Table
	for _, x := range l {
		var rows [][]string
		for _, row := range x.Rows {
			rows = append(rows, roomy(row, "behind"))
		}
		own = append(own, api.Table{Head: roomy(x.Head, "behind"), Rows: roomy(rows, []string{"behind"})})
	}
	return roomy(own, of("behind|behind"))
}

// R3: an argument stays, and what stands behind it.
func TestArgumentsStay(t *testing.T) {
	for _, x := range []struct {
		tables []api.Table
		names  string
		cols   []int
	}{
		{nil, "b,a", nil},
		{all("a,b|1,x|1,y"), "b,a,b", []int{1, 0, 1, -1, 2}},
		{all("a,b|1,x|1,y"), "b,a", []int{1, 0, 1}},
		{all("a,b|1,x|1,x"), "a", []int{1, 0}},
		{all("b,a,b|1|1,x,2,3|^", "a|1|2"), "c,b,a,a", []int{2, 1, 0}},
		{all(sixteen, "d,c,b"), "d,b,a,c", []int{3, 2, 1, 0}},
		{all(eight, "c,b,a"), "c,b,a", []int{2, 1, 0}},
	} {
		l, names, cols := roomyTables(x.tables), roomy(list(x.names), "behind"), roomy(x.cols, -7)
		before := fmt.Sprintf("%s %q %v", whole(l), names[:cap(names)], cols[:cap(cols)])
		for _, y := range l {
			Unique(y, cols)
			Places(y, names)
			Infer([]api.Table{y}, y.Head)
		}
		Usable(l, names)
		Infer(l, names)
		Of(l, names)
		Of(l, names[:1])
		Of(l, nil)
		if after := fmt.Sprintf("%s %q %v", whole(l), names[:cap(names)], cols[:cap(cols)]); after != before {
			t.Errorf("%s is now %s", before, after)
		}
	}
}

// spoil writes over a list, and over what stands behind it.
func spoil[T any](l []T, by T) {
	l = l[:cap(l)]
	for i := range l {
		l[i] = by
	}
}

// R3: an answer shares no memory with an argument, nor with another answer.
func TestAnswersShareNothing(t *testing.T) {
	l := all("one,two|1,x|1,y|2,x", "two,one")
	names := []string{"two", "one"}
	given := slices.Concat(names, l[0].Head, l[1].Head)
	for _, call := range []func() []string{
		func() []string { return Of(l, names) },
		func() []string { return Of(l, nil) },
		func() []string { return Infer(l, names) },
		func() []string { return Infer(nil, names) },
		func() []string { return Of(nil, names) },
	} {
		first, second := call(), call()
		want := slices.Clone(second)
		for _, text := range first {
			for _, other := range slices.Concat(given, second) {
				if unsafe.StringData(text) == unsafe.StringData(other) {
					t.Errorf("%q is shared", text)
				}
			}
		}
		spoil(first, "spoilt")
		if third := call(); !slices.Equal(second, want) || !slices.Equal(third, want) {
			t.Errorf("%q and %q were %q", second, third, want)
		}
	}
	first, _ := Places(l[0], names)
	second, _ := Places(l[0], names)
	spoil(first, -7)
	if !slices.Equal(second, []int{1, 0}) || !slices.Equal(names, []string{"two", "one"}) {
		t.Errorf("places are %v, names %q", second, names)
	}
}

// R4: however maps are gone through, and whatever was asked before, a call tells the same.
func TestTheSameAgain(t *testing.T) {
	l := []api.Table{mixed(9, 40, 4, 3), mixed(9, 40, 4, 5)}
	want := wantInfer(l, l[0].Head)
	for range 30 {
		askInfer(t, l, l[0].Head, want)
		askInfer(t, l[:1], l[1].Head, wantInfer(l[:1], l[1].Head))
		askOf(t, l, nil, want)
	}
}

func FuzzKeys(f *testing.F) {
	f.Add("a,b|1,x|1,y", "a,b", "b", 0, 1)
	f.Add("a,b|1,x|1,y|2,x", "a,b", "a,b,a", 1, 2)
	f.Add("a,b|1,x|1,x", "b,a|2,y", "^", -1, 0)
	f.Add("a,b,a|1|1,x,y,z|^", "^", "", 2, 2)
	f.Add(sixteen, eight, "a,b,c,d", 3, 1)
	f.Fuzz(func(t *testing.T, a, b, names string, first, second int) {
		const most = 300
		x, y := of(a[:min(len(a), most)]), of(b[:min(len(b), most)])
		wanted := list(names[:min(len(names), most)])
		x.Head = x.Head[:min(len(x.Head), 9)]
		wanted = wanted[:min(len(wanted), 9)]
		for _, cols := range [][]int{{first}, {first, second}, {second, 0, first, 1, 2}, upward(len(x.Head))} {
			askUnique(t, x, cols, wantUnique(x, cols))
			askMore(t, x, cols)
		}
		for _, l := range [][]api.Table{nil, {x}, {x, y}, {y, x}, {x, x}} {
			ask(t, l, wanted)
			askInfer(t, l, x.Head, wantInfer(l, x.Head))
			askMoreNames(t, l, wanted)
		}
	})
}

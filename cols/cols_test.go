package cols

import (
	"fmt"
	"slices"
	"strconv"
	"strings"
	"testing"

	"tartan/api"
	"tartan/edit"
)

// list is a list as it is written here: texts with commas between; a stroke upwards alone is a list without texts.
func list(s string) []string {
	if s == "^" {
		return nil
	}
	return strings.Split(s, ",")
}

// of is a table as it is written here: the head and the rows, with strokes between.
func of(s string) api.Table {
	var t api.Table
	for i, line := range strings.Split(s, "|") {
		if i == 0 {
			t.Head = list(line)
			continue
		}
		t.Rows = append(t.Rows, list(line))
	}
	return t
}

// ofPairs are pairs as they are written here: the places of both with a colon between, with commas between pairs.
func ofPairs(s string) []api.Pair {
	var own []api.Pair
	for _, text := range list(s) {
		a, b, _ := strings.Cut(text, ":")
		own = append(own, api.Pair{A: number(a), B: number(b)})
	}
	return own
}

func number(s string) int {
	n, err := strconv.Atoi(s)
	if err != nil {
		panic(err)
	}
	return n
}

// upTo are all lists of up to n of these.
func upTo[T any](n int, of ...T) [][]T {
	lists, from := [][]T{nil}, 0
	for range n {
		to := len(lists)
		for _, l := range lists[from:to] {
			for _, x := range of {
				lists = append(lists, append(slices.Clone(l), x))
			}
		}
		from = to
	}
	return lists
}

// short is the beginning of what may be long.
func short(x any) string {
	return fmt.Sprintf("%.300s", fmt.Sprintf("%q", x))
}

// few is the beginning of pairs of which there may be many.
func few(l []api.Pair) string {
	return fmt.Sprint(len(l), " ", l[:min(len(l), 40)])
}

// What follows, up to the first asking function, is a plain reading of the chapter, and of what it takes from those ahead of it.

func wantCheck(t api.Table) api.Errno {
	if len(t.Head) == 0 {
		return api.ErrEmpty
	}
	for _, row := range t.Rows {
		if len(row) != len(t.Head) {
			return api.ErrWidth
		}
	}
	for i, name := range t.Head {
		if slices.Contains(t.Head[:i], name) {
			return api.ErrTwice
		}
	}
	total := 0
	for _, line := range append([][]string{t.Head}, t.Rows...) {
		for _, text := range line {
			if len(text) > 1000 {
				return api.ErrLarge
			}
			total += len(text)
		}
	}
	if len(t.Head) > 40 || len(t.Rows) > 400 || total > 40000 {
		return api.ErrLarge
	}
	return api.OK
}

func wantNamed(a, b api.Table) []api.Pair {
	var own []api.Pair
	for q, name := range b.Head {
		for p := range a.Head {
			if a.Head[p] == name {
				own = append(own, api.Pair{A: p, B: q})
				break
			}
		}
	}
	return own
}

// wantScore strikes out of b's cells, one by one, what is in a's.
func wantScore(a, b api.Table, p, q int) int {
	left := make([]string, len(b.Rows))
	for i, row := range b.Rows {
		left[i] = row[q]
	}
	n := 0
	for _, row := range a.Rows {
		if at := slices.Index(left, row[p]); at >= 0 {
			left[at] = left[len(left)-1]
			left = left[:len(left)-1]
			n++
		}
	}
	return n
}

// wantRest are the places of a head that none of these takes.
func wantRest(n int, takes func(at int) bool) []int {
	var own []int
	for at := range n {
		if !takes(at) {
			own = append(own, at)
		}
	}
	return own
}

// wantBest is the place of the choice that is taken of these: as they stand in order of their As, and of the same A in order of their Bs, it is the first one of those with the highest score.
func wantBest(l []api.Scored) int {
	best := 0
	for i, c := range l {
		if c.Score > l[best].Score {
			best = i
		}
	}
	return best
}

func wantAlign(a, b api.Table, rename bool) ([]api.Pair, api.Errno) {
	if errno := wantCheck(a); errno != api.OK {
		return nil, errno
	}
	if errno := wantCheck(b); errno != api.OK {
		return nil, errno
	}
	own := wantNamed(a, b)
	if !rename {
		return own, api.OK
	}
	var l []api.Scored
	for _, p := range wantRest(len(a.Head), func(at int) bool { return slices.Contains(b.Head, a.Head[at]) }) {
		for _, q := range wantRest(len(b.Head), func(at int) bool { return slices.Contains(a.Head, b.Head[at]) }) {
			score := wantScore(a, b, p, q)
			if score+score > len(a.Rows) && score+score > len(b.Rows) {
				l = append(l, api.Scored{A: p, B: q, Score: score})
			}
		}
	}
	for len(l) > 0 {
		taken := l[wantBest(l)]
		own = append(own, api.Pair{A: taken.A, B: taken.B})
		l = slices.DeleteFunc(l, func(c api.Scored) bool { return c.A == taken.A || c.B == taken.B })
	}
	slices.SortFunc(own, func(x, y api.Pair) int { return x.B - y.B })
	return own, api.OK
}

func askNamed(t *testing.T, a, b api.Table, want []api.Pair) {
	t.Helper()
	if got := Named(a, b); !slices.Equal(got, want) {
		t.Errorf("Named(%s, %s): %s, not %s", short(a), short(b), few(got), few(want))
	}
}

func askAlign(t *testing.T, a, b api.Table, rename bool, want []api.Pair, errno api.Errno) {
	t.Helper()
	if got, gotErrno := Align(a, b, rename); !slices.Equal(got, want) || gotErrno != errno {
		t.Errorf("Align(%s, %s, %t): %s %d, not %s %d", short(a), short(b), rename, few(got), gotErrno, few(want), errno)
	}
}

// ask asks all calls of two tables, and holds them against the plain reading.
func ask(t *testing.T, a, b api.Table) {
	t.Helper()
	askNamed(t, a, b, wantNamed(a, b))
	for _, rename := range []bool{false, true} {
		want, errno := wantAlign(a, b, rename)
		askAlign(t, a, b, rename, want, errno)
	}
}

// askHeld asks what holds of two tables that may be, by the calls alone.
func askHeld(t *testing.T, a, b api.Table) {
	t.Helper()
	plain, _ := Align(a, b, false)
	more, _ := Align(a, b, true)
	for _, l := range [][]api.Pair{plain, more} {
		as := map[int]bool{}
		for i, x := range l {
			if x.A < 0 || x.A >= len(a.Head) || x.B < 0 || x.B >= len(b.Head) {
				t.Errorf("of %s and %s: %v is of no columns", short(a), short(b), x)
				return
			}
			if as[x.A] || i > 0 && l[i-1].B >= x.B {
				t.Errorf("of %s and %s: %s has a column twice, or is in no order", short(a), short(b), few(l))
			}
			as[x.A] = true
		}
		for q, name := range b.Head {
			if p := slices.Index(a.Head, name); p >= 0 && !slices.Contains(l, api.Pair{A: p, B: q}) {
				t.Errorf("of %s and %s: %s has not both columns of the name %q", short(a), short(b), few(l), name)
			}
		}
	}
	for _, x := range more {
		inPlain, sameName := slices.Contains(plain, x), a.Head[x.A] == b.Head[x.B]
		if inPlain != sameName {
			t.Errorf("of %s and %s: %v is told without renaming: %t", short(a), short(b), x, inPlain)
		}
	}
}

// askSelf asks that each column of a table is the same as itself.
func askSelf(t *testing.T, x api.Table) {
	t.Helper()
	askAlign(t, x, x, false, each(len(x.Head)), api.OK)
	askAlign(t, x, x, true, each(len(x.Head)), api.OK)
	askNamed(t, x, x, each(len(x.Head)))
}

// askMoved asks that each column that was moved is the same, and all others, and one that has but another name, too.
func askMoved(t *testing.T, x api.Table) {
	t.Helper()
	for from := range x.Head {
		for to := range x.Head {
			moved, errno := edit.MoveCol(x, from, to)
			if errno != api.OK {
				t.Fatal(short(x), from, to, errno)
			}
			want := each(len(x.Head))
			was := slices.Delete(upward(len(x.Head)), from, from+1)
			for q, p := range slices.Insert(was, to, from) {
				want[q].A = p
			}
			askAlign(t, x, moved, false, want, api.OK)
			askAlign(t, x, moved, true, want, api.OK)
			askRenamed(t, x, moved, to, want)
		}
	}
}

// askRenamed asks that a column of b is the same with another name, too, if there are rows, and renaming is asked for; want are the pairs that there are with its old name.
func askRenamed(t *testing.T, a, b api.Table, col int, want []api.Pair) {
	t.Helper()
	other, errno := edit.RenameCol(b, col, "another name")
	if errno != api.OK {
		t.Fatal(short(b), col, errno)
	}
	less := slices.DeleteFunc(slices.Clone(want), func(x api.Pair) bool { return x.B == col })
	askAlign(t, a, other, false, less, api.OK)
	if len(a.Rows) == 0 {
		want = less
	}
	askAlign(t, a, other, true, want, api.OK)
}

// upward are the numbers from 0 on, less than n.
func upward(n int) []int {
	own := make([]int, n)
	for i := range own {
		own[i] = i
	}
	return own
}

// each is each of so many, paired with itself.
func each(n int) []api.Pair {
	own := make([]api.Pair, n)
	for i := range own {
		own[i] = api.Pair{A: i, B: i}
	}
	return own
}

func TestExamples(t *testing.T) {
	a, b := of("id,name|1,x|2,y"), of("id,title|1,x|2,y")
	askAlign(t, a, b, true, ofPairs("0:0,1:1"), api.OK)
	askAlign(t, a, b, false, ofPairs("0:0"), api.OK)
}

func TestNamedByHand(t *testing.T) {
	for _, x := range []struct{ a, b, want string }{
		// ordinary ones
		{"id,name|1,x", "id,title|1,x", "0:0"},
		{"a,b,c", "c,d,a", "2:0,0:2"},
		{"a,b,c|1,2,3", "b|9", "1:0"},
		{"b|9", "a,b,c|1,2,3", "0:1"},
		// none in common, and all
		{"a,b|1,2", "c,d|1,2", "^"},
		{"a,b|1,2", "a,b|3,4", "0:0,1:1"},
		{"a", "a", "0:0"},
		// the same names in another order
		{"a,b,c,d", "d,c,b,a", "3:0,2:1,1:2,0:3"},
		{"a,b,c", "c,a,b", "2:0,0:1,1:2"},
		// a head that has a name twice: of a the first one is told, of b each one
		{"a,a", "a", "0:0"},
		{"b,a,a", "a,c,b", "1:0,0:2"},
		{"a", "a,a", "0:0,0:1"},
		{"a,a", "a,a", "0:0,0:1"},
		{"c,a,b,a", "a,b,a,c,a", "1:0,2:1,1:2,0:3,1:4"},
		// no head
		{"^", "^", "^"},
		{"^", "a,b", "^"},
		{"a,b", "^", "^"},
		{"^|1", "^|1", "^"},
		// rows that are shorter, or longer, than the head
		{"a,b|1|^|1,2,3", "b,a|^|1", "1:0,0:1"},
		{"a|1,a", "b,a|a", "0:1"},
		{"^|a", "a|a", "^"},
		// names that are empty, and that look alike
		{",a", "a,", "1:0,0:1"},
		{"a,A, a", "A,a ,a", "1:0,0:2"},
		{"\xff,\xfe", "\xfe,\xef\xbf\xbd", "1:0"},
		{"\u00e9", "e\u0301", "^"},
		{"1,01", "01,1.0", "1:0"},
		// what is in cells makes no difference
		{"a,b|b,a", "b,c|c,a", "1:0"},
	} {
		askNamed(t, of(x.a), of(x.b), ofPairs(x.want))
		if want := wantNamed(of(x.a), of(x.b)); !slices.Equal(want, ofPairs(x.want)) {
			t.Errorf("the plain reading of %s and %s is %s", x.a, x.b, few(want))
		}
	}
}

func TestAlignByHand(t *testing.T) {
	for _, x := range []struct{ a, b, plain, renamed string }{
		// ordinary ones
		{"id,name|1,x|2,y", "id,name|1,x|2,y", "0:0,1:1", "0:0,1:1"},
		{"id,name,age|1,x,30|2,y,40", "name,id,years|x,1,30|y,2,40", "1:0,0:1", "1:0,0:1,2:2"},
		{"id,name,age|1,x,30|2,y,40", "years,name,id|30,x,1|40,y,2", "1:1,0:2", "2:0,1:1,0:2"},
		{"id,name|1,x|2,y", "id,more|1,p|2,q", "0:0", "0:0"},
		{"id,name|1,x|2,y|3,z", "id,title|1,x|2,y|4,w", "0:0", "0:0,1:1"},
		{"a|x", "b|x", "^", "0:0"},
		{"a,b|1,2", "d,c|2,1", "^", "1:0,0:1"},
		// none in common, and all
		{"a,b|1,2", "c,d|3,4", "^", "^"},
		{"a,b|1,2", "c,d|2,3", "^", "1:0"},
		{"a,b|1,2", "a,b|3,4", "0:0,1:1", "0:0,1:1"},
		// the same names in another order
		{"a,b,c|1,2,3", "c,a,b|3,1,2", "2:0,0:1,1:2", "2:0,0:1,1:2"},
		{"a,b|1,2", "b,a|1,2", "1:0,0:1", "1:0,0:1"},
		// no rows on one side, on both
		{"a,b", "a,c", "0:0", "0:0"},
		{"a,b|1,2", "a,c", "0:0", "0:0"},
		{"a,b", "a,c|1,2", "0:0", "0:0"},
		{"a", "b", "^", "^"},
		{"a|", "b", "^", "^"},
		{"a", "b|", "^", "^"},
		// a score of which the double is just as many rows as there are, and one more
		{"a|1|2", "b|1|3", "^", "^"},
		{"a|1|2|3", "b|1|2|4", "^", "0:0"},
		{"a|1|2|3|4", "b|1|2|5|6", "^", "^"},
		{"a|1|2|3|4", "b|1|2|3|5", "^", "0:0"},
		{"a|1|2|3|4|5", "b|1|2|6|7|8", "^", "^"},
		{"a|1|2|3|4|5", "b|1|2|3|6|7", "^", "0:0"},
		// of a alone, of b alone
		{"a|1|2", "b|1", "^", "^"},
		{"a|1", "b|1|2", "^", "^"},
		{"a|1|2|3", "b|1", "^", "^"},
		{"a|1", "b|1|2|3", "^", "^"},
		{"a|1|2|3|4", "b|1|2", "^", "^"},
		{"a|1|2", "b|1|2|3|4", "^", "^"},
		{"a|1|2|3", "b|1|2", "^", "0:0"},
		{"a|1|2", "b|1|2|3", "^", "0:0"},
		{"a|1|2|3|4", "b|1|2|3", "^", "0:0"},
		{"a|1|2|3|4|5", "b|1|2|3", "^", "0:0"},
		{"a|1|2|3|4|5|6", "b|1|2|3", "^", "^"},
		{"a|1|2|3", "b|1|2|3|4|5", "^", "0:0"},
		{"a|1|2|3", "b|1|2|3|4|5|6", "^", "^"},
		// the same cells in another order
		{"a|1|2|3|4", "b|4|2|1|3", "^", "0:0"},
		{"a|1|1|2", "b|2|1|1", "^", "0:0"},
		// cells that stand more often on one side
		{"a|1|1|1", "b|1|2|3", "^", "^"},
		{"a|1|2|3", "b|1|1|1", "^", "^"},
		{"a|1|1|1", "b|1|1|3", "^", "0:0"},
		{"a|1|1|2|2", "b|1|1|1|2", "^", "0:0"},
		{"a|1|1|2|2", "b|1|3|1|1", "^", "^"},
		{"a|1|1|1|1", "b|1|1", "^", "^"},
		// cells that are empty have that in common
		{"a||", "b||", "^", "0:0"},
		{"a||x", "b||y", "^", "^"},
		{"a,b|,|x,", "c,d|,|,x", "^", "1:0,0:1"},
		// two columns that would do for one: the one with the higher score, wherever it stands
		{"a,b|1,1|2,2|3,4", "c|1|2|3", "^", "0:0"},
		{"a,b|1,1|2,2|4,3", "c|1|2|3", "^", "1:0"},
		{"a|1|2|3", "c,d|1,1|2,2|3,4", "^", "0:0"},
		{"a|1|2|3", "c,d|1,1|2,2|4,3", "^", "0:1"},
		// what is left goes with the one that is left, if it may
		{"a,b|1,1|2,2|3,4", "c,d|1,1|2,2|5,3", "^", "1:0,0:1"},
		{"a,b|1,1|2,2|3,7", "c,d|1,1|2,7|3,7", "^", "0:0,1:1"},
		{"a,b|1,1|2,2|3,3", "c,d|1,1|2,2|3,9", "^", "0:0,1:1"},
		{"a,b|1,1|2,2|3,9", "c,d|1,8|2,2|3,3", "^", "0:0"},
		// scores that are alike: the lesser A, and then the lesser B
		{"a,b|1,1|2,2", "c|1|2", "^", "0:0"},
		{"a|1|2", "c,d|1,1|2,2", "^", "0:0"},
		{"a,b|1,1|2,2", "c,d|1,1|2,2", "^", "0:0,1:1"},
		{"a,b|1,2|2,1", "c,d|2,2|1,1", "^", "0:0,1:1"},
		{"z,a,b|0,1,1|0,2,2", "c,d,z|1,1,0|2,2,0", "0:2", "1:0,2:1,0:2"},
		{"a,b|1,1|2,2|3,3|4,9", "c,d|1,1|2,2|3,3|9,8", "^", "1:0,0:1"},
		// a column of a name that is in both, whose cells would go with another one
		{"a,b|1,2", "b,c|1,2", "1:0", "1:0"},
		{"a,b|1,3", "b,c|1,1", "1:0", "1:0,0:1"},
		{"a,b|1,2|3,4", "b,a|1,2|3,4", "1:0,0:1", "1:0,0:1"},
		{"id,a|1,x|2,y", "id,b|x,1|y,2", "0:0", "0:0"},
		{"id,a|1,x", "a,b|1,1", "1:0", "1:0,0:1"},
		{"a,b|1,1", "a,c|2,1", "0:0", "0:0,1:1"},
		// nothing left on one side
		{"a,b|1,2", "a|1", "0:0", "0:0"},
		{"a,b|1,1", "a|1", "0:0", "0:0"},
		{"a|1", "a,b|1,1", "0:0", "0:0"},
		{"a|1", "b,a|1,1", "0:1", "0:1"},
		{"b,a|1,1", "a|1", "1:0", "1:0"},
		// pairs stand in order of their Bs, those of names and others
		{"p,q,r,s|1,2,3,4", "w,s,v,q|3,4,1,2", "3:1,1:3", "2:0,3:1,0:2,1:3"},
		{"p,q,r,s|1,2,3,4", "s,w,q,v|4,1,2,9", "3:0,1:2", "3:0,0:1,1:2"},
		// the cells are what they are, not what they look like
		{"a|A|B|C", "b|a|b|c", "^", "^"},
		{"a|1|2|3", "b|01|2.0| 3", "^", "^"},
		{"a|\xff\x00|\xfe|\r\n", "b|\xfe|\xff\x00|\r\n", "^", "0:0"},
		{"a|\xff", "b|\xfe", "^", "^"},
		{"a|x", "x|a", "^", "^"},
	} {
		a, b := of(x.a), of(x.b)
		for _, y := range []struct {
			rename bool
			want   []api.Pair
		}{{false, ofPairs(x.plain)}, {true, ofPairs(x.renamed)}} {
			askAlign(t, a, b, y.rename, y.want, api.OK)
			if want, errno := wantAlign(a, b, y.rename); !slices.Equal(want, y.want) || errno != api.OK {
				t.Errorf("the plain reading of %s, %s and %t is %s %d", x.a, x.b, y.rename, few(want), errno)
			}
		}
		askHeld(t, a, b)
		askSelf(t, a)
		askSelf(t, b)
		askMoved(t, a)
		askMoved(t, b)
	}
}

// wide is a table of so many columns and rows, of cells that are all the same.
func wide(cols, rows int, cell string) api.Table {
	x := api.Table{Head: make([]string, cols)}
	for i := range x.Head {
		x.Head[i] = "c" + strconv.Itoa(i)
	}
	for range rows {
		x.Rows = append(x.Rows, slices.Repeat([]string{cell}, cols))
	}
	return x
}

// Each error on either side, and on both: the first one's is told.
func TestErrors(t *testing.T) {
	const long = api.MaxCell
	type faulty struct {
		x     api.Table
		errno api.Errno
	}
	all := []faulty{
		{of("^"), api.ErrEmpty},
		{of("^|^"), api.ErrEmpty},
		{of("^|1"), api.ErrEmpty},
		{of("a|1|^"), api.ErrWidth},
		{of("a,b|1"), api.ErrWidth},
		{of("a|1|1,2"), api.ErrWidth},
		{of("a,a|1,2|1"), api.ErrWidth},
		{of("a,a"), api.ErrTwice},
		{of("a,b,a|1,2,3"), api.ErrTwice},
		{of(","), api.ErrTwice},
		{of("a,a|" + strings.Repeat("x", long+1) + ",y"), api.ErrTwice},
		{wide(api.MaxCols+1, 1, "x"), api.ErrLarge},
		{wide(1, api.MaxRows+1, "x"), api.ErrLarge},
		{of("a|" + strings.Repeat("x", long+1)), api.ErrLarge},
		{of(strings.Repeat("x", long+1)), api.ErrLarge},
		{wide(40, 1, strings.Repeat("x", long)), api.ErrLarge},
		{wide(40, 400, "xxx"), api.ErrLarge},
	}
	fine := []api.Table{of("a"), of("a,b|1,2"), of("c0|x"), of("b|2|2|2"), wide(api.MaxCols, api.MaxRows, "x"), of("a|" + strings.Repeat("x", long))}
	for _, bad := range all {
		if errno := wantCheck(bad.x); errno != bad.errno {
			t.Errorf("the plain reading of %s is %d", short(bad.x), errno)
		}
		for _, rename := range []bool{false, true} {
			for _, x := range fine {
				askAlign(t, bad.x, x, rename, nil, bad.errno)
				askAlign(t, x, bad.x, rename, nil, bad.errno)
			}
			for _, other := range all {
				askAlign(t, bad.x, other.x, rename, nil, bad.errno)
			}
		}
	}
	for _, x := range fine {
		askSelf(t, x)
	}
}

// How much two columns have in common, held against how many rows either side has: each that can be, of few rows, and about the limits.
func TestScores(t *testing.T) {
	for na := range 14 {
		for nb := range 14 {
			for common := range min(na, nb) + 1 {
				askScore(t, na, nb, common)
			}
		}
	}
	for _, na := range []int{1, 199, 200, 201, 398, 399, 400} {
		for _, nb := range []int{1, 199, 200, 201, 398, 399, 400} {
			for _, common := range []int{0, 1, 99, 100, 101, 198, 199, 200, 201, 202, 399, 400} {
				if common <= min(na, nb) {
					askScore(t, na, nb, common)
				}
			}
		}
	}
}

// askScore asks of two columns of so many rows, with so many cells in common; these stand last on one side, and first on the other one, downward.
func askScore(t *testing.T, na, nb, common int) {
	t.Helper()
	a, b := api.Table{Head: []string{"a"}}, api.Table{Head: []string{"b"}}
	for row := range na {
		cell := strconv.Itoa(na - 1 - row)
		if na-1-row >= common {
			cell = "a" + cell
		}
		a.Rows = append(a.Rows, []string{cell})
	}
	for row := range nb {
		cell := strconv.Itoa(row)
		if row >= common {
			cell = "b" + cell
		}
		b.Rows = append(b.Rows, []string{cell})
	}
	var want []api.Pair
	if 2*common > na && 2*common > nb {
		want = each(1)
	}
	askAlign(t, a, b, true, want, api.OK)
	askAlign(t, a, b, false, nil, api.OK)
}

// Of two columns that would do for one, one cell more decides, however many cells there are; if there is none, the one that stands ahead is taken.
func TestOneCellMore(t *testing.T) {
	for _, rows := range []int{3, 4, 10, api.MaxRows} {
		for first := range rows + 1 {
			for second := max(0, first-1); second <= min(rows, first+1); second++ {
				askOneOfTwo(t, rows, first, second)
			}
		}
	}
}

// askOneOfTwo asks of a column against two others of as many rows, that have so many cells in common with it, either way round.
func askOneOfTwo(t *testing.T, rows, first, second int) {
	t.Helper()
	one, two := of("a"), of("b,c")
	for row := range rows {
		cells := []string{"x", "y"}
		for i, common := range []int{first, second} {
			if row < common {
				cells[i] = strconv.Itoa(row)
			}
		}
		one.Rows = append(one.Rows, []string{strconv.Itoa(row)})
		two.Rows = append(two.Rows, cells)
	}
	best := 0
	if second > first {
		best = 1
	}
	var there, back []api.Pair
	if 2*max(first, second) > rows {
		there, back = []api.Pair{{A: 0, B: best}}, []api.Pair{{A: best, B: 0}}
	}
	askAlign(t, one, two, true, there, api.OK)
	askAlign(t, two, one, true, back, api.OK)
}

// Named of all heads of up to four names, some of them twice.
func TestAllHeads(t *testing.T) {
	heads := upTo(4, "a", "b", "", "c")
	for _, one := range heads {
		for _, other := range heads {
			a, b := api.Table{Head: one, Rows: [][]string{one, nil}}, api.Table{Head: other}
			askNamed(t, a, b, wantNamed(a, b))
		}
		if t.Failed() {
			return
		}
	}
}

// All tables of up to two names of three, with up to two rows, wrong ones among them: two by two.
func TestAllSmallTables(t *testing.T) {
	var all []api.Table
	for _, head := range upTo(2, "a", "b", "c") {
		for _, rows := range upTo(2, upTo(len(head), "1", "2")...) {
			all = append(all, api.Table{Head: head, Rows: rows})
		}
		for _, row := range upTo(3, "1") {
			all = append(all, api.Table{Head: head, Rows: [][]string{row}})
		}
	}
	for _, a := range all {
		for _, b := range all {
			ask(t, a, b)
			if wantCheck(a) == api.OK && wantCheck(b) == api.OK {
				askHeld(t, a, b)
			}
		}
		if wantCheck(a) == api.OK {
			askSelf(t, a)
			askMoved(t, a)
		}
		if t.Failed() {
			return
		}
	}
}

// All tables of three columns with up to three rows, against some: of other names alone, and of one name that is in both.
func TestThreeColumns(t *testing.T) {
	var cells [][]string
	for n := range 8 {
		cells = append(cells, list(strings.Join(strings.Split(fmt.Sprintf("%03b", n), ""), ",")))
	}
	rows := upTo(3, cells...)
	for i, one := range rows {
		for k := i % 7; k < len(rows); k += 7 {
			a := api.Table{Head: []string{"a", "b", "c"}, Rows: one}
			ask(t, a, api.Table{Head: []string{"d", "e", "f"}, Rows: rows[k]})
			ask(t, a, api.Table{Head: []string{"d", "a", "f"}, Rows: rows[k]})
		}
		if t.Failed() {
			return
		}
	}
}

// mixed is a table of so many columns and rows, without an order, the same whenever asked: its cells are of so many, its names of a hundred.
func mixed(cols, rows, cells int, from uint32) api.Table {
	next := func(below int) int {
		from = from*1664525 + 1013904223
		return int(from>>8) % below
	}
	var x api.Table
	for len(x.Head) < cols {
		if name := "c" + strconv.Itoa(next(100)); !slices.Contains(x.Head, name) {
			x.Head = append(x.Head, name)
		}
	}
	for range rows {
		row := make([]string, cols)
		for i := range row {
			if k := next(cells); k > 0 {
				row[i] = strings.Repeat("\xfe", k%3) + strconv.Itoa(k/3)
			}
		}
		x.Rows = append(x.Rows, row)
	}
	return x
}

func TestMixedTables(t *testing.T) {
	for n := range uint32(300) {
		cols, rows, cells := 1+int(n%13), int(n/3%17), 2+int(n%5)
		a := mixed(cols, rows, cells, n)
		b := mixed(1+int(n/2%11), int(n/4%19), cells, n+7)
		ask(t, a, b)
		ask(t, b, a)
		askHeld(t, a, b)
		askSelf(t, a)
		askMoved(t, a)
		// The same cells, with names of which some are others, and columns turned about.
		other := mixed(cols, 0, 1, n+11)
		for _, row := range a.Rows {
			turned := slices.Clone(row)
			slices.Reverse(turned)
			if len(turned) > 3 && n%2 == 0 {
				turned[3] += "x"
			}
			other.Rows = append(other.Rows, turned)
		}
		ask(t, a, other)
		ask(t, other, a)
		askHeld(t, a, other)
		if t.Failed() {
			return
		}
	}
}

// As many columns and rows as there may be, with other names each, in another order: by cells that have all, most, or just not most of them in common.
func TestLargest(t *testing.T) {
	for _, rows := range []int{api.MaxRows, api.MaxRows - 1} {
		for _, unlike := range []int{0, 1, (rows - 1) / 2, (rows + 1) / 2} {
			a, b := wide(api.MaxCols, 0, ""), wide(api.MaxCols, 0, "")
			var want []api.Pair
			for q := range b.Head {
				// 7 and 40 have no divisor in common: each column comes once.
				want = append(want, api.Pair{A: q * 7 % api.MaxCols, B: q})
				b.Head[q] = "d" + strconv.Itoa(q)
			}
			for row := range rows {
				one, other := make([]string, api.MaxCols), make([]string, api.MaxCols)
				for p := range one {
					// A byte for each column, with just one byte more: all texts together are not too large.
					one[p] = string([]byte{byte(p), byte(row % 200)})[:1+row%2]
				}
				for q, x := range want {
					if other[q] = one[x.A]; row < unlike {
						other[q] = ""
					}
				}
				a.Rows, b.Rows = append(a.Rows, one), append(b.Rows, other)
			}
			slices.Reverse(b.Rows)
			if 2*(rows-unlike) <= rows {
				want = nil
			}
			askAlign(t, a, b, true, want, api.OK)
			askAlign(t, a, b, false, nil, api.OK)
		}
	}
	// All cells alike: each column would do for each other one.
	a, b := wide(api.MaxCols, api.MaxRows, "x"), wide(api.MaxCols, api.MaxRows, "x")
	for q := range b.Head {
		b.Head[q] += "d"
	}
	askAlign(t, a, b, true, each(api.MaxCols), api.OK)
	b.Head[0], b.Head[39] = a.Head[39], a.Head[1]
	want := each(api.MaxCols)
	want[0].A, want[1].A, want[39].A = 39, 0, 1
	askAlign(t, a, b, true, want, api.OK)
	askAlign(t, a, b, false, []api.Pair{{A: 39, B: 0}, {A: 1, B: 39}}, api.OK)
}

// P1: what is far beyond the limits has an end, too.
func TestHuge(t *testing.T) {
	const n = 1 << 19
	a, b := wide(n, 0, ""), wide(n, 0, "")
	slices.Reverse(b.Head)
	want := each(n)
	for q := range want {
		want[q].A = n - 1 - q
	}
	askNamed(t, a, b, want)
	// no name in common, one name alone, one name very often
	other := api.Table{Head: make([]string, n)}
	askNamed(t, a, other, nil)
	askNamed(t, other, b, nil)
	askNamed(t, other, other, wantNamed(of(","), other))
	other.Head[n-1] = "c0"
	askNamed(t, other, b, []api.Pair{{A: n - 1, B: n - 1}})
	askNamed(t, b, other, []api.Pair{{A: n - 1, B: n - 1}})
	// names that are very long, and alike up to their end
	long := strings.Repeat("x", 1<<24)
	askNamed(t, api.Table{Head: []string{long + "a", long + "b"}}, api.Table{Head: []string{long + "b", long, long + "a"}}, ofPairs("1:0,0:2"))
	for _, x := range []struct {
		a     api.Table
		errno api.Errno
	}{
		{a, api.ErrLarge},
		{other, api.ErrTwice},
		{api.Table{Head: []string{long}}, api.ErrLarge},
		{api.Table{Head: []string{"a"}, Rows: [][]string{{long}, {long}}}, api.ErrLarge},
		{api.Table{Head: []string{"a"}, Rows: make([][]string, n)}, api.ErrWidth},
		{api.Table{Rows: make([][]string, n)}, api.ErrEmpty},
		{api.Table{Head: a.Head, Rows: [][]string{a.Head, b.Head}}, api.ErrLarge},
		{wide(1, n, "x"), api.ErrLarge},
	} {
		for _, rename := range []bool{false, true} {
			askAlign(t, x.a, x.a, rename, nil, x.errno)
			askAlign(t, of("a|1"), x.a, rename, nil, x.errno)
			askAlign(t, x.a, of("a|1"), rename, nil, x.errno)
		}
	}
}

// roomy is a list with more behind it, that is not the list's.
func roomy[T any](l []T, behind T) []T {
	own := slices.Clone(l)
	own = append(own, behind, behind, behind)
	return own[:len(l)]
}

// roomyTable is a table like this one, whose lists all have more behind them.
func roomyTable(x api.Table) api.Table {
	var rows [][]string
	for _, row := range x.Rows {
		rows = append(rows, roomy(row, "behind"))
	}
	return api.Table{Head: roomy(x.Head, "behind"), Rows: roomy(rows, []string{"behind"})}
}

// whole is all that a table holds, and what stands behind its lists.
func whole(x api.Table) string {
	var b strings.Builder
	fmt.Fprintf(&b, "%q;", x.Head[:cap(x.Head)])
	for _, row := range x.Rows[:cap(x.Rows)] {
		fmt.Fprintf(&b, "%q;", row[:cap(row)])
	}
	return b.String()
}

// R3: an argument stays, and what stands behind it.
func TestArgumentsStay(t *testing.T) {
	all := []string{"^", "a,b", "a,b,c|2,x,3|1,y,1|2,x,2", "d,b,e|x,2,1|y,1,3|x,2,2", "c,b,a|1,x,2|3,y,1", "a,b|2|^|1,x,3|", "behind|x", "a,a|1,1"}
	for _, one := range all {
		for _, other := range all {
			a, b := roomyTable(of(one)), roomyTable(of(other))
			before := whole(a) + whole(b)
			Named(a, b)
			Align(a, b, false)
			Align(a, b, true)
			Align(a, a, true)
			if after := whole(a) + whole(b); after != before {
				t.Errorf("%s is now %s", before, after)
			}
		}
	}
}

// spoil writes over a list, and over what stands behind it.
func spoil[T any](l []T, by T) {
	l = l[:cap(l)]
	for i := range l {
		l[i] = by
	}
}

// R3: an answer shares no memory with another one.
func TestAnswersShareNothing(t *testing.T) {
	a, b := of("id,name,age|1,x,30|2,y,40"), of("years,name,id|30,x,1|40,y,2")
	for _, x := range []struct {
		call func() []api.Pair
		want string
	}{
		{func() []api.Pair { return Named(a, b) }, "1:1,0:2"},
		{func() []api.Pair { l, _ := Align(a, b, false); return l }, "1:1,0:2"},
		{func() []api.Pair { l, _ := Align(a, b, true); return l }, "2:0,1:1,0:2"},
	} {
		first, second := x.call(), x.call()
		spoil(first, api.Pair{A: -7, B: -7})
		if want := ofPairs(x.want); !slices.Equal(second, want) || !slices.Equal(x.call(), want) {
			t.Errorf("%v is now %v", want, second)
		}
	}
}

// R4: however maps are gone through, and whatever was asked before, a call tells the same.
func TestTheSameAgain(t *testing.T) {
	a, b := mixed(20, 30, 2, 3), mixed(20, 31, 2, 5)
	one, _ := wantAlign(a, b, true)
	other, _ := wantAlign(b, a, true)
	if len(one) <= len(wantNamed(a, b)) {
		t.Fatal("nothing was renamed")
	}
	for range 30 {
		askAlign(t, a, b, true, one, api.OK)
		askAlign(t, b, a, true, other, api.OK)
		askNamed(t, a, b, wantNamed(a, b))
	}
}

func FuzzCols(f *testing.F) {
	f.Add("id,name|1,x|2,y", "id,title|1,x|2,y")
	f.Add("a,b,c|1,2,3|1,2,4|2,1,3", "c,d,e|3,2,2|4,2,1|3,1,1")
	f.Add("a,b|1,1|2,2|3,4", "c,d|1,1|2,2|5,3")
	f.Add("a,a|1,2", "a|1,2|^")
	f.Add("a|\xff||\xfe", "b||\xff|\x00")
	f.Fuzz(func(t *testing.T, one, other string) {
		const most = 300
		a, b := of(one[:min(len(one), most)]), of(other[:min(len(other), most)])
		for range 2 {
			ask(t, a, b)
			ask(t, b, a)
			if wantCheck(a) == api.OK && wantCheck(b) == api.OK {
				askHeld(t, a, b)
				askSelf(t, a)
			}
			// Once more, with rows that are as long as the head, so that they may be tables more often.
			a, b = even(a), even(b)
		}
	})
}

// even is a table with rows that have as many cells as the head has names.
func even(x api.Table) api.Table {
	own := api.Table{Head: x.Head}
	for _, row := range x.Rows {
		own.Rows = append(own.Rows, append(slices.Clone(row), x.Head...)[:len(x.Head)])
	}
	return own
}

package table

import (
	"fmt"
	"math"
	"slices"
	"strconv"
	"strings"
	"testing"
	"unsafe"

	"tartan/api"
)

// heads are all heads of up to three names, records all records of up to three cells.
var (
	heads   = upTo(3, "", "a", "b")
	records = upTo(3, "", "x")
)

// upTo are all lists of up to n of these.
func upTo(n int, of ...string) [][]string {
	all, from := [][]string{nil}, 0
	for range n {
		to := len(all)
		for _, l := range all[from:to] {
			for _, s := range of {
				all = append(all, append(slices.Clone(l), s))
			}
		}
		from = to
	}
	return all
}

// smalls are all small tables, those that may not be, too: of up to three names, and of up to two rows of up to three cells.
func smalls() []api.Table {
	var all []api.Table
	for _, head := range heads {
		all = append(all, api.Table{Head: head})
		for _, a := range records {
			all = append(all, api.Table{Head: head, Rows: [][]string{a}})
			for _, b := range records {
				all = append(all, api.Table{Head: head, Rows: [][]string{a, b}})
			}
		}
	}
	return all
}

// of is a table as it is written here: names and cells with blanks between, records with strokes.
func of(s string) api.Table {
	var t api.Table
	for i, line := range strings.Split(s, "|") {
		if i == 0 {
			t.Head = strings.Fields(line)
			continue
		}
		t.Rows = append(t.Rows, strings.Fields(line))
	}
	return t
}

// names are n names that are unlike, each of at least so many bytes.
func names(n, size int) []string {
	var l []string
	for i := range n {
		l = append(l, fmt.Sprintf("%0*d", size, i))
	}
	return l
}

// rows are n rows that are alike.
func rows(n int, cells ...string) [][]string {
	return slices.Repeat([][]string{cells}, n)
}

// alike holds tables against each other without Same.
func alike(a, b api.Table) bool {
	return fmt.Sprintf("%q %q", a.Head, a.Rows) == fmt.Sprintf("%q %q", b.Head, b.Rows)
}

// none tells whether it is a zero table.
func none(t api.Table) bool {
	return len(t.Head) == 0 && len(t.Rows) == 0
}

// wantTotal is a plain count.
func wantTotal(t api.Table) int {
	n := len(strings.Join(t.Head, ""))
	for _, row := range t.Rows {
		n += len(strings.Join(row, ""))
	}
	return n
}

// wantCheck is a plain reading of the chapter.
func wantCheck(t api.Table) api.Errno {
	if len(t.Head) == 0 {
		return api.ErrEmpty
	}
	for _, row := range t.Rows {
		if len(row) != len(t.Head) {
			return api.ErrWidth
		}
	}
	sorted := slices.Sorted(slices.Values(t.Head))
	if len(slices.Compact(sorted)) != len(t.Head) {
		return api.ErrTwice
	}
	if len(t.Head) > 40 || len(t.Rows) > 400 || wantTotal(t) > 40000 {
		return api.ErrLarge
	}
	for _, text := range slices.Concat(append(t.Rows[:len(t.Rows):len(t.Rows)], t.Head)...) {
		if len(text) > 1000 {
			return api.ErrLarge
		}
	}
	return api.OK
}

// wantCell is a cell, found by counting.
func wantCell(t api.Table, row, col int) string {
	for i, cells := range t.Rows {
		for k, cell := range cells {
			if i == row && k == col {
				return cell
			}
		}
	}
	return ""
}

// wantColumn are a column's cells, found by counting.
func wantColumn(t api.Table, col int) []string {
	var cells []string
	for i := range t.Head {
		for row := range t.Rows {
			if i == col {
				cells = append(cells, wantCell(t, row, col))
			}
		}
	}
	return cells
}

// asked is a table, and what Check tells of it.
type asked struct {
	t     api.Table
	errno api.Errno
}

// edges are ordinary tables, those at each limit and one beyond it, and those of which two errors are so.
func edges() []asked {
	long, most := strings.Repeat("x", 1001), strings.Repeat("x", 1000)
	full := names(40, 1000)
	return []asked{
		// ordinary ones, and those with little in them
		{of("a b|c d"), api.OK},
		{of("a b|1 2|3 4|1 2"), api.OK},
		{of("a b"), api.OK},
		{api.Table{Head: []string{"a"}, Rows: [][]string{}}, api.OK},
		{api.Table{Head: []string{""}}, api.OK},
		{api.Table{Head: []string{"", "\x00"}, Rows: [][]string{{"", ""}}}, api.OK},
		{of("a A aa|a a a"), api.OK},
		// an empty head, ahead of all else
		{api.Table{}, api.ErrEmpty},
		{api.Table{Head: []string{}, Rows: [][]string{}}, api.ErrEmpty},
		{of("|"), api.ErrEmpty},
		{of("|a"), api.ErrEmpty},
		{api.Table{Rows: rows(401)}, api.ErrEmpty},
		{api.Table{Rows: rows(1, long)}, api.ErrEmpty},
		// a cell too few, and one too many, ahead of names that are there twice and of what is too large
		{of("a b|c"), api.ErrWidth},
		{of("a b|c d e"), api.ErrWidth},
		{of("a|"), api.ErrWidth},
		{of("a b|c d|e"), api.ErrWidth},
		{of("a b|c|d e"), api.ErrWidth},
		{of("a b|c d|e f g|h i"), api.ErrWidth},
		{of("a b|c|d e f"), api.ErrWidth},
		{of("a a|b"), api.ErrWidth},
		{of("a a|b c|d e f"), api.ErrWidth},
		{api.Table{Head: []string{long}, Rows: rows(1)}, api.ErrWidth},
		{api.Table{Head: names(41, 1), Rows: rows(1, names(40, 1)...)}, api.ErrWidth},
		{api.Table{Head: []string{"a"}, Rows: append(rows(400, "b"), nil)}, api.ErrWidth},
		{api.Table{Head: []string{"a"}, Rows: append(rows(41, most), []string{"b", "c"})}, api.ErrWidth},
		// a name that is there twice, ahead of what is too large
		{of("a a"), api.ErrTwice},
		{of("a b a|c d e"), api.ErrTwice},
		{of("b a a"), api.ErrTwice},
		{of("a b c d b"), api.ErrTwice},
		{api.Table{Head: []string{"", "a", ""}}, api.ErrTwice},
		{api.Table{Head: []string{long, long}}, api.ErrTwice},
		{api.Table{Head: append(names(40, 1), "0")}, api.ErrTwice},
		{api.Table{Head: []string{"a", "a"}, Rows: rows(401, "b", "c")}, api.ErrTwice},
		{api.Table{Head: []string{"a", "a"}, Rows: rows(1, long, "c")}, api.ErrTwice},
		{api.Table{Head: []string{"a", "a"}, Rows: rows(41, most, "c")}, api.ErrTwice},
		// columns
		{api.Table{Head: names(39, 1)}, api.OK},
		{api.Table{Head: names(40, 1)}, api.OK},
		{api.Table{Head: names(41, 1)}, api.ErrLarge},
		{api.Table{Head: names(40, 1), Rows: rows(400, names(40, 1)...)}, api.OK},
		// rows
		{api.Table{Head: []string{"a"}, Rows: rows(399, "")}, api.OK},
		{api.Table{Head: []string{"a"}, Rows: rows(400, "")}, api.OK},
		{api.Table{Head: []string{"a"}, Rows: rows(401, "")}, api.ErrLarge},
		// names and cells
		{api.Table{Head: []string{most}}, api.OK},
		{api.Table{Head: []string{long}}, api.ErrLarge},
		{api.Table{Head: []string{"a", long}}, api.ErrLarge},
		{api.Table{Head: []string{"a"}, Rows: rows(1, most)}, api.OK},
		{api.Table{Head: []string{"a"}, Rows: rows(1, long)}, api.ErrLarge},
		{api.Table{Head: []string{"a", "b"}, Rows: append(rows(2, "c", most), []string{"d", long})}, api.ErrLarge},
		{api.Table{Head: []string{"a", "b"}, Rows: append(rows(1, long, "c"), []string{"d", ""})}, api.ErrLarge},
		// the total
		{api.Table{Head: full}, api.OK},
		{api.Table{Head: full, Rows: rows(400, make([]string, 40)...)}, api.OK},
		{api.Table{Head: full, Rows: rows(1, append(make([]string, 39), "x")...)}, api.ErrLarge},
		{api.Table{Head: []string{""}, Rows: rows(40, most)}, api.OK},
		{api.Table{Head: []string{"a"}, Rows: rows(40, most)}, api.ErrLarge},
		{api.Table{Head: []string{"a"}, Rows: append(rows(39, most), []string{most[1:]})}, api.OK},
		{api.Table{Head: []string{"", "a"}, Rows: append(rows(200, most[:100], most[:100]), []string{"", ""})}, api.ErrLarge},
		{api.Table{Head: []string{"", "a"}, Rows: append(rows(199, most[:100], most[:100]), []string{most[:99], most[:100]})}, api.OK},
	}
}

// P1, P2: what Check tells of each edge, and what is told without the layer.
func TestCheckByHand(t *testing.T) {
	for i, x := range edges() {
		if got := Check(x.t); got != x.errno {
			t.Errorf("%d: %v, not %v", i, got, x.errno)
		}
		if want := wantCheck(x.t); want != x.errno {
			t.Errorf("%d: a plain reading tells %v, not %v", i, want, x.errno)
		}
	}
}

// P1, P2: Check of any small table.
func TestCheckOfAnyTable(t *testing.T) {
	for _, x := range smalls() {
		if got, want := Check(x), wantCheck(x); got != want {
			t.Fatalf("Check(%q) = %v, not %v", x, got, want)
		}
	}
}

// P2: the total of each edge, of any small table, and by hand.
func TestTotal(t *testing.T) {
	for _, x := range []struct {
		t    api.Table
		want int
	}{
		{api.Table{}, 0},
		{api.Table{Head: []string{""}, Rows: [][]string{{""}, {}, nil}}, 0},
		{of("a bc|def"), 6},
		{of("|abc|d e"), 5},
		{of("ab a ab"), 5},
		{of("ä|\x00\xff"), 4},
		{api.Table{Head: names(40, 1000)}, 40000},
		{api.Table{Head: []string{"a"}, Rows: rows(40, strings.Repeat("x", 1000))}, 40001},
		{api.Table{Rows: rows(1000, strings.Repeat("x", 100000))}, 100000000},
	} {
		if got := Total(x.t); got != x.want {
			t.Errorf("the total is %d, not %d", got, x.want)
		}
	}
	for _, x := range smalls() {
		if got, want := Total(x), wantTotal(x); got != want {
			t.Fatalf("Total(%q) = %d, not %d", x, got, want)
		}
	}
	for i, x := range edges() {
		if got, want := Total(x.t), wantTotal(x.t); got != want {
			t.Errorf("%d: the total is %d, not %d", i, got, want)
		}
	}
}

// P1, P2: tables of records, by hand, and none beside an error.
func TestOfByHand(t *testing.T) {
	for _, x := range []struct {
		l     [][]string
		want  api.Table
		errno api.Errno
	}{
		{[][]string{{"a", "b"}, {"c", "d"}}, of("a b|c d"), api.OK},
		{[][]string{{"a", "b"}, {"c", "d"}, {"a", "b"}, {"e", "f"}}, of("a b|c d|a b|e f"), api.OK},
		{[][]string{{"a"}}, of("a"), api.OK},
		{[][]string{{""}}, api.Table{Head: []string{""}}, api.OK},
		{[][]string{{""}, {""}}, api.Table{Head: []string{""}, Rows: [][]string{{""}}}, api.OK},
		{[][]string{{"a", "b"}, {"c", "c"}, {"", ""}}, api.Table{Head: []string{"a", "b"}, Rows: [][]string{{"c", "c"}, {"", ""}}}, api.OK},
		{nil, api.Table{}, api.ErrEmpty},
		{[][]string{}, api.Table{}, api.ErrEmpty},
		{[][]string{nil}, api.Table{}, api.ErrEmpty},
		{[][]string{{}}, api.Table{}, api.ErrEmpty},
		{[][]string{{}, {"a"}}, api.Table{}, api.ErrEmpty},
		{[][]string{{}, {}}, api.Table{}, api.ErrEmpty},
		{[][]string{{"a", "b"}, {"c"}}, api.Table{}, api.ErrWidth},
		{[][]string{{"a", "b"}, {"c", "d"}, {"e", "f", "g"}}, api.Table{}, api.ErrWidth},
		{[][]string{{"a", "a"}, {"b"}}, api.Table{}, api.ErrWidth},
		{[][]string{{"a"}, nil}, api.Table{}, api.ErrWidth},
		{[][]string{{"a", "a"}}, api.Table{}, api.ErrTwice},
		{[][]string{{"a", "b", "a"}, {"c", "d", "e"}}, api.Table{}, api.ErrTwice},
	} {
		if got, errno := Of(x.l); errno != x.errno || !alike(got, x.want) {
			t.Errorf("Of(%q) = %q, %v, not %q, %v", x.l, got, errno, x.want, x.errno)
		}
	}
}

// recordsOf are a table's records, put together without Records.
func recordsOf(t api.Table) [][]string {
	return append([][]string{t.Head}, t.Rows...)
}

// P1, P2: a table that may be is what its records tell, and of one that may not be comes its error and a zero table.
func TestOfRecords(t *testing.T) {
	all := edges()
	for _, x := range smalls() {
		all = append(all, asked{x, wantCheck(x)})
	}
	for i, x := range all {
		l := Records(x.t)
		if !alike(api.Table{Rows: l}, api.Table{Rows: recordsOf(x.t)}) {
			t.Fatalf("%d: the records are %.200q", i, l)
		}
		for _, l := range [][][]string{l, recordsOf(x.t)} {
			got, errno := Of(l)
			if errno != x.errno {
				t.Fatalf("%d: %v, not %v", i, errno, x.errno)
			}
			if errno != api.OK && !none(got) {
				t.Fatalf("%d: %.200q beside %v", i, got, errno)
			}
			if errno == api.OK && (!alike(got, x.t) || !Same(got, x.t)) {
				t.Fatalf("%d: the table is %.200q", i, got)
			}
		}
	}
}

// P2: records by hand, of tables that may not be, too.
func TestRecords(t *testing.T) {
	for _, x := range []struct {
		t    api.Table
		want [][]string
	}{
		{of("a b|c d"), [][]string{{"a", "b"}, {"c", "d"}}},
		{of("a b"), [][]string{{"a", "b"}}},
		{of("a a|b|c d e|"), [][]string{{"a", "a"}, {"b"}, {"c", "d", "e"}, {}}},
		{of("|a"), [][]string{{}, {"a"}}},
		{api.Table{}, [][]string{{}}},
		{api.Table{Rows: [][]string{nil, nil}}, [][]string{{}, {}, {}}},
	} {
		if got := Records(x.t); fmt.Sprintf("%q", got) != fmt.Sprintf("%q", x.want) {
			t.Errorf("Records(%q) = %q, not %q", x.t, got, x.want)
		}
	}
}

// P2: tables that are alike and unlike.
func TestSame(t *testing.T) {
	for _, x := range []struct {
		a, b api.Table
		want bool
	}{
		{of("a b|c d"), of("a b|c d"), true},
		{api.Table{}, api.Table{Head: []string{}, Rows: [][]string{}}, true},
		{of("a"), api.Table{Head: []string{"a"}, Rows: [][]string{}}, true},
		{of("a|"), api.Table{Head: []string{"a"}, Rows: [][]string{nil}}, true},
		{of("a b|c d"), of("a b|c e"), false},
		{of("a b|c d"), of("a c|c d"), false},
		{of("a b|c d"), of("b a|d c"), false},
		{of("a|b|c"), of("a|c|b"), false},
		{of("a|b"), of("a|b|b"), false},
		{of("a|b"), of("a"), false},
		{of("a"), of("|a"), false},
		{of("a"), of("A"), false},
		{of("a"), of("a a"), false},
		{of("a|b"), of("a|b b"), false},
		{of("a|b c|d"), of("a|b|c d"), false},
		{of("a b"), of("ab"), false},
		{of("a|"), of("a"), false},
		{of("a|"), api.Table{Head: []string{"a"}, Rows: [][]string{{""}}}, false},
		{of("a|\xff"), of("a|\xfe"), false},
		{of("a|b"), of("a|b\x00"), false},
	} {
		if Same(x.a, x.b) != x.want || Same(x.b, x.a) != x.want {
			t.Errorf("Same(%q, %q) is not %v", x.a, x.b, x.want)
		}
	}
	all, again := smalls(), smalls()
	for i := 0; i < len(all); i += 7 {
		for k := 0; k < len(all); k += 11 {
			if Same(all[i], again[k]) != (i == k) {
				t.Fatalf("Same(%q, %q) is %v", all[i], again[k], i != k)
			}
		}
		if !Same(all[i], again[i]) {
			t.Fatalf("%q is not the same as itself", all[i])
		}
	}
}

// P2: names that are in the head, once and twice, and those that are not.
func TestFind(t *testing.T) {
	for _, x := range []struct {
		t    api.Table
		name string
		want int
	}{
		{of("a b c|d e f"), "a", 0},
		{of("a b c|d e f"), "b", 1},
		{of("a b c|d e f"), "c", 2},
		{of("a b c|d e f"), "d", -1},
		{of("a b c|d e f"), "", -1},
		{of("a b c|d e f"), "B", -1},
		{of("a ab abc"), "ab", 1},
		{of("a ab abc"), "bc", -1},
		{api.Table{Head: []string{"a", ""}}, "", 1},
		{of("a b a b|c"), "b", 1},
		{of("b a a"), "a", 1},
		{of("\xfe \xff"), "\xff", 1},
		{api.Table{}, "", -1},
		{api.Table{}, "a", -1},
		{api.Table{Rows: [][]string{{"a"}}}, "a", -1},
		{api.Table{Head: names(41, 1)}, "40", 40},
	} {
		if got := Find(x.t, x.name); got != x.want {
			t.Errorf("Find(%q, %q) = %d, not %d", x.t, x.name, got, x.want)
		}
	}
}

// P2: what may be is found by its names, each once; of what may not be the first one of a name is.
func TestEachNameIsFound(t *testing.T) {
	for _, x := range smalls() {
		first := map[string]int{"": -1, "a": -1, "b": -1, "c": -1}
		for i := len(x.Head) - 1; i >= 0; i-- {
			first[x.Head[i]] = i
		}
		for name, want := range first {
			if got := Find(x, name); got != want {
				t.Fatalf("Find(%q, %q) = %d, not %d", x, name, got, want)
			}
		}
	}
	for i, x := range edges() {
		for k, name := range x.t.Head {
			if got := Find(x.t, name); x.errno == api.OK && got != k {
				t.Errorf("%d: the column %d is found at %d", i, k, got)
			}
		}
	}
}

// places are those below 0, at the last one and beyond it, of so many.
func places(n int) []int {
	l := []int{math.MinInt, math.MinInt32, -1, n, n + 1, math.MaxInt32, math.MaxInt}
	for i := range n {
		l = append(l, i)
	}
	return l
}

// P1, P2: cells by hand.
func TestCellByHand(t *testing.T) {
	plain, uneven := of("a b|1 2|3 4"), of("a b|1|2 3 4||5 6")
	for _, x := range []struct {
		t        api.Table
		row, col int
		want     string
	}{
		{plain, 0, 0, "1"},
		{plain, 0, 1, "2"},
		{plain, 1, 0, "3"},
		{plain, 1, 1, "4"},
		{plain, 2, 0, ""},
		{plain, 0, 2, ""},
		{plain, 2, 2, ""},
		{plain, -1, 0, ""},
		{plain, 0, -1, ""},
		{plain, -1, -1, ""},
		{plain, math.MinInt, math.MaxInt, ""},
		{plain, math.MaxInt, math.MinInt, ""},
		{uneven, 0, 1, ""},
		{uneven, 1, 2, "4"},
		{uneven, 1, 3, ""},
		{uneven, 2, 0, ""},
		{uneven, 3, 1, "6"},
		{api.Table{}, 0, 0, ""},
		{of("a"), 0, 0, ""},
		{of("|a"), 0, 0, "a"},
		{of("|a"), 0, 1, ""},
	} {
		if got := Cell(x.t, x.row, x.col); got != x.want {
			t.Errorf("Cell(%q, %d, %d) = %q, not %q", x.t, x.row, x.col, got, x.want)
		}
	}
}

// P1, P2: columns by hand.
func TestColumnByHand(t *testing.T) {
	plain, uneven := of("a b|1 2|3 4"), of("a b|1|2 3 4||5 6")
	for _, x := range []struct {
		t    api.Table
		col  int
		want []string
	}{
		{plain, 0, []string{"1", "3"}},
		{plain, 1, []string{"2", "4"}},
		{plain, 2, nil},
		{plain, -1, nil},
		{plain, math.MinInt, nil},
		{plain, math.MaxInt, nil},
		{uneven, 0, []string{"1", "2", "", "5"}},
		{uneven, 1, []string{"", "3", "", "6"}},
		// there is a cell at that place, but no column
		{uneven, 2, nil},
		{of("|a|b"), 0, nil},
		{of("a b"), 1, nil},
		{of("a b|"), 1, []string{""}},
		{api.Table{}, 0, nil},
		{api.Table{}, -1, nil},
	} {
		if got := Column(x.t, x.col); !slices.Equal(got, x.want) {
			t.Errorf("Column(%q, %d) = %q, not %q", x.t, x.col, got, x.want)
		}
	}
}

// P1, P2: cells and columns of any small table, and of each edge, at any place.
func TestCellAndColumn(t *testing.T) {
	all := smalls()
	for _, x := range edges() {
		if len(x.t.Rows) < 4 {
			all = append(all, x.t)
		}
	}
	for _, x := range all {
		for _, col := range places(max(len(x.Head), 3)) {
			if got, want := Column(x, col), wantColumn(x, col); !slices.Equal(got, want) {
				t.Fatalf("Column(%.200q, %d) = %.200q, not %.200q", x, col, got, want)
			}
			for _, row := range places(len(x.Rows)) {
				if got, want := Cell(x, row, col), wantCell(x, row, col); got != want {
					t.Fatalf("Cell(%.200q, %d, %d) = %.200q, not %.200q", x, row, col, got, want)
				}
			}
		}
	}
}

// P2: the last row and the last column of the largest table, and those beyond them.
func TestCellOfLargestTable(t *testing.T) {
	x := api.Table{Head: names(40, 1)}
	for i := range 400 {
		x.Rows = append(x.Rows, slices.Repeat([]string{strconv.Itoa(i % 10)}, 40))
	}
	x.Rows[399][39] = "z"
	if Check(x) != api.OK || Cell(x, 399, 39) != "z" || Cell(x, 399, 40) != "" || Cell(x, 400, 39) != "" || Cell(x, 398, 39) != "8" {
		t.Error("the last cell is", Cell(x, 399, 39))
	}
	if l := Column(x, 39); len(l) != 400 || l[399] != "z" || l[398] != "8" || len(Column(x, 40)) != 0 {
		t.Error("the last column is", l)
	}
}

// P1: tables far beyond the limits have an end, too.
func TestHugeTables(t *testing.T) {
	const n = 1 << 18
	many, long := names(n, 1), strings.Repeat("x", 1<<26)
	for i, x := range []asked{
		{api.Table{Head: many}, api.ErrLarge},
		{api.Table{Head: append(slices.Clone(many), "0")}, api.ErrTwice},
		{api.Table{Head: many, Rows: rows(2, many...)}, api.ErrLarge},
		{api.Table{Head: many, Rows: rows(1, many[1:]...)}, api.ErrWidth},
		{api.Table{Head: []string{"a"}, Rows: rows(n, "b")}, api.ErrLarge},
		{api.Table{Head: []string{"a"}, Rows: append(rows(n, "b"), nil)}, api.ErrWidth},
		{api.Table{Rows: rows(n)}, api.ErrEmpty},
		{api.Table{Head: []string{long}, Rows: rows(1, long)}, api.ErrLarge},
		{api.Table{Head: []string{long, long}}, api.ErrTwice},
	} {
		if got := Check(x.t); got != x.errno {
			t.Errorf("%d: %v, not %v", i, got, x.errno)
		}
		if got, errno := Of(recordsOf(x.t)); errno != x.errno || !none(got) {
			t.Errorf("%d: of its records came %v", i, errno)
		}
		if got := Total(x.t); got != wantTotal(x.t) {
			t.Errorf("%d: the total is %d", i, got)
		}
		if l := Records(x.t); len(l) != len(x.t.Rows)+1 || !Same(api.Table{Head: l[0], Rows: l[1:]}, x.t) {
			t.Errorf("%d: there are %d records", i, len(l))
		}
	}
}

// shared tells whether a text's bytes are bytes of one of a table's texts.
func shared(s string, t api.Table) bool {
	at := unsafe.StringData(s)
	for _, l := range recordsOf(t) {
		for _, text := range l {
			if s != "" && text != "" && at == unsafe.StringData(text) {
				return true
			}
		}
	}
	return false
}

// spoil writes over all that a list's memory holds, and over what stands behind it.
func spoil(l [][]string) {
	for _, record := range l {
		record = record[:cap(record)]
		for i := range record {
			record[i] = "spoilt"
		}
	}
}

// R3: an answer shares no memory with an argument, nor one of its lists with another one; an argument stays.
func TestAnswersShareNothing(t *testing.T) {
	// one list stands there as two rows
	row := []string{"one", "two"}
	x := api.Table{Head: []string{"abc", "def"}, Rows: [][]string{row, row, {"three", "four"}}}
	want := of("abc def|one two|one two|three four")
	own, errno := Of(recordsOf(x))
	if errno != api.OK {
		t.Fatal(errno)
	}
	texts := slices.Concat(slices.Concat(recordsOf(own)...), slices.Concat(Records(x)...), Column(x, 1), []string{Cell(x, 2, 0)})
	for _, text := range texts {
		if shared(text, x) {
			t.Errorf("%q is shared", text)
		}
	}
	for i := range 4 {
		own, _ := Of(recordsOf(x))
		l := Records(x)
		spoil(l[i : i+1])
		spoil(recordsOf(own)[i : i+1])
		for k := range 4 {
			if k != i && (!slices.Equal(l[k], recordsOf(want)[k]) || !slices.Equal(recordsOf(own)[k], recordsOf(want)[k])) {
				t.Errorf("the record %d has changed with %d", k, i)
			}
		}
		Column(x, 0)[0] = "spoilt"
		if !alike(x, want) {
			t.Fatalf("the argument is now %q", x)
		}
	}
	l := Records(x)
	_ = append(l[:1:1], nil)
	l[1] = nil
	if !alike(x, want) {
		t.Errorf("the argument is now %q", x)
	}
}

// R3: what stands behind an argument's lists stays.
func TestArgumentsStay(t *testing.T) {
	list := [][]string{{"a", "b", "c"}, {"d", "e", "f"}, {"g", "h", "i"}}
	x := api.Table{Head: list[0][:2], Rows: [][]string{list[1][:2], list[2][:2]}[:1]}
	before := fmt.Sprintf("%q %q", list, x.Rows[:2])
	Check(x)
	Records(x)
	Same(x, x)
	Find(x, "c")
	Cell(x, 0, 2)
	Column(x, 1)
	Total(x)
	Of(list[:2])
	Of([][]string{list[0][:2], list[1][:2], list[2][:2]}[:2])
	if after := fmt.Sprintf("%q %q", list, x.Rows[:2]); after != before {
		t.Errorf("%s is now %s", before, after)
	}
}

// P1, P2: whatever records there are.
func FuzzTable(f *testing.F) {
	for _, s := range []string{"", "a", "a,b\nc,d", "a,a", "a,b\nc", "\n", ",\n,", "\x00,\xff\nx,y", "a\n\n\n"} {
		f.Add(s, "a", 0, 1)
		f.Add(s, "", -1, 2)
	}
	f.Fuzz(func(t *testing.T, s, name string, row, col int) {
		var l [][]string
		for line := range strings.SplitSeq(s, "\n") {
			l = append(l, strings.Split(line, ","))
		}
		x := api.Table{Head: l[0], Rows: l[1:]}
		errno := wantCheck(x)
		got, told := Of(l)
		if Check(x) != errno || told != errno || Total(x) != wantTotal(x) {
			t.Fatalf("of %q came %v, %v, %d", x, Check(x), told, Total(x))
		}
		if errno == api.OK && (!Same(got, x) || !alike(got, x)) || errno != api.OK && !none(got) {
			t.Fatalf("of %q came %q", x, got)
		}
		if back := Records(x); !alike(api.Table{Rows: back}, api.Table{Rows: l}) {
			t.Fatalf("the records of %q are %q", x, back)
		}
		at := Find(x, name)
		if at < 0 && slices.Contains(x.Head, name) || at >= 0 && (x.Head[at] != name || slices.Contains(x.Head[:at], name)) {
			t.Fatalf("Find(%q, %q) = %d", x, name, at)
		}
		if cell := Cell(x, row, col); cell != wantCell(x, row, col) {
			t.Fatalf("Cell(%q, %d, %d) = %q", x, row, col, cell)
		}
		if column := Column(x, col); !slices.Equal(column, wantColumn(x, col)) {
			t.Fatalf("Column(%q, %d) = %q", x, col, column)
		}
	})
}

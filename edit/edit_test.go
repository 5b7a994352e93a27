package edit

import (
	"fmt"
	"math"
	"slices"
	"strings"
	"testing"
	"unsafe"

	"tartan/api"
)

// step is one call, with all arguments but the table, and what a plain reading of the chapter tells of it for a table that may be.
type step struct {
	name string
	do   func(api.Table) (api.Table, api.Errno)
	want func(api.Table) (api.Table, api.Errno)
}

// plain is what a plain reading tells of it for any table.
func (s step) plain(t api.Table) (api.Table, api.Errno) {
	if errno := wantCheck(t); errno != api.OK {
		return api.Table{}, errno
	}
	return s.want(t)
}

func insertCol(at int, name string, cells ...string) step {
	return step{
		fmt.Sprintf("InsertCol(%d, %.20q, %.20q)", at, name, some(cells)),
		func(t api.Table) (api.Table, api.Errno) { return InsertCol(t, at, name, cells) },
		func(t api.Table) (api.Table, api.Errno) {
			if at < 0 || at > len(t.Head) {
				return api.Table{}, api.ErrPlace
			}
			if len(cells) != len(t.Rows) {
				return api.Table{}, api.ErrWidth
			}
			x := sheet{t, name, func(row, _ int) string { return cells[row] }}
			return x.picked(orderWith(len(t.Head), at), orderOf(len(t.Rows)))
		},
	}
}

func deleteCol(at int) step {
	return step{
		fmt.Sprintf("DeleteCol(%d)", at),
		func(t api.Table) (api.Table, api.Errno) { return DeleteCol(t, at) },
		func(t api.Table) (api.Table, api.Errno) {
			if at < 0 || at > len(t.Head)-1 {
				return api.Table{}, api.ErrPlace
			}
			return sheet{Table: t}.picked(orderWithout(len(t.Head), at), orderOf(len(t.Rows)))
		},
	}
}

func renameCol(at int, name string) step {
	return step{
		fmt.Sprintf("RenameCol(%d, %.20q)", at, name),
		func(t api.Table) (api.Table, api.Errno) { return RenameCol(t, at, name) },
		func(t api.Table) (api.Table, api.Errno) {
			if at < 0 || at > len(t.Head)-1 {
				return api.Table{}, api.ErrPlace
			}
			// the column is taken out, and one of that name with the same cells is put in
			cols := orderOf(len(t.Head))
			cols[at] = -1
			x := sheet{t, name, func(row, _ int) string { return t.Rows[row][at] }}
			return x.picked(cols, orderOf(len(t.Rows)))
		},
	}
}

func moveCol(from, to int) step {
	return step{
		fmt.Sprintf("MoveCol(%d, %d)", from, to),
		func(t api.Table) (api.Table, api.Errno) { return MoveCol(t, from, to) },
		func(t api.Table) (api.Table, api.Errno) {
			if n := len(t.Head) - 1; from < 0 || from > n || to < 0 || to > n {
				return api.Table{}, api.ErrPlace
			}
			return sheet{Table: t}.picked(orderMoved(len(t.Head), from, to), orderOf(len(t.Rows)))
		},
	}
}

func insertRow(at int, cells ...string) step {
	return step{
		fmt.Sprintf("InsertRow(%d, %.20q)", at, some(cells)),
		func(t api.Table) (api.Table, api.Errno) { return InsertRow(t, at, cells) },
		func(t api.Table) (api.Table, api.Errno) {
			if at < 0 || at > len(t.Rows) {
				return api.Table{}, api.ErrPlace
			}
			// of all that may be wrong of what comes, this is the first, as the head is not empty
			if len(cells) != len(t.Head) {
				return api.Table{}, api.ErrWidth
			}
			x := sheet{t, "", func(_, col int) string { return cells[col] }}
			return x.picked(orderOf(len(t.Head)), orderWith(len(t.Rows), at))
		},
	}
}

func deleteRow(at int) step {
	return step{
		fmt.Sprintf("DeleteRow(%d)", at),
		func(t api.Table) (api.Table, api.Errno) { return DeleteRow(t, at) },
		func(t api.Table) (api.Table, api.Errno) {
			if at < 0 || at > len(t.Rows)-1 {
				return api.Table{}, api.ErrPlace
			}
			return sheet{Table: t}.picked(orderOf(len(t.Head)), orderWithout(len(t.Rows), at))
		},
	}
}

func moveRow(from, to int) step {
	return step{
		fmt.Sprintf("MoveRow(%d, %d)", from, to),
		func(t api.Table) (api.Table, api.Errno) { return MoveRow(t, from, to) },
		func(t api.Table) (api.Table, api.Errno) {
			if n := len(t.Rows) - 1; from < 0 || from > n || to < 0 || to > n {
				return api.Table{}, api.ErrPlace
			}
			return sheet{Table: t}.picked(orderOf(len(t.Head)), orderMoved(len(t.Rows), from, to))
		},
	}
}

func set(row, col int, cell string) step {
	return step{
		fmt.Sprintf("Set(%d, %d, %.20q)", row, col, cell),
		func(t api.Table) (api.Table, api.Errno) { return Set(t, row, col, cell) },
		func(t api.Table) (api.Table, api.Errno) {
			if row < 0 || row > len(t.Rows)-1 || col < 0 || col > len(t.Head)-1 {
				return api.Table{}, api.ErrPlace
			}
			// the row is taken out, and one with that cell is put in
			rows := orderOf(len(t.Rows))
			rows[row] = -1
			x := sheet{t, "", func(_, k int) string {
				if k == col {
					return cell
				}
				return t.Rows[row][k]
			}}
			return x.picked(orderOf(len(t.Head)), rows)
		},
	}
}

func project(cols ...int) step {
	return step{
		fmt.Sprintf("Project(%d)", some(cols)),
		func(t api.Table) (api.Table, api.Errno) { return Project(t, cols) },
		func(t api.Table) (api.Table, api.Errno) {
			for _, at := range cols {
				if at < 0 || at > len(t.Head)-1 {
					return api.Table{}, api.ErrPlace
				}
			}
			return sheet{Table: t}.picked(cols, orderOf(len(t.Rows)))
		},
	}
}

// some are the first ones of a list, as there may be very many.
func some[T any](l []T) []T {
	return l[:min(len(l), 50)]
}

// sheet is a table, and what stands in a column and a row that are new.
type sheet struct {
	api.Table
	name string
	cell func(row, col int) string
}

// picked is the table of these columns and of these rows of a sheet, -1 being the new one, or what is wrong of it.
func (s sheet) picked(cols, rows []int) (api.Table, api.Errno) {
	var t api.Table
	for _, col := range cols {
		name := s.name
		if col >= 0 {
			name = s.Head[col]
		}
		t.Head = append(t.Head, name)
	}
	for _, row := range rows {
		var cells []string
		for _, col := range cols {
			if row >= 0 && col >= 0 {
				cells = append(cells, s.Rows[row][col])
			} else {
				cells = append(cells, s.cell(row, col))
			}
		}
		t.Rows = append(t.Rows, cells)
	}
	if errno := wantCheck(t); errno != api.OK {
		return api.Table{}, errno
	}
	return t, api.OK
}

// orderOf are n places as they are.
func orderOf(n int) []int {
	var l []int
	for i := range n {
		l = append(l, i)
	}
	return l
}

// orderWith are n places, and the new one that is the at-th then.
func orderWith(n, at int) []int {
	var l []int
	for k := range n + 1 {
		switch {
		case k < at:
			l = append(l, k)
		case k == at:
			l = append(l, -1)
		default:
			l = append(l, k-1)
		}
	}
	return l
}

// orderWithout are n places without one.
func orderWithout(n, at int) []int {
	var l []int
	for k := range n {
		if k != at {
			l = append(l, k)
		}
	}
	return l
}

// orderMoved are n places, from being the to-th.
func orderMoved(n, from, to int) []int {
	l, others := make([]int, n), orderWithout(n, from)
	for k := range l {
		switch {
		case k < to:
			l[k] = others[k]
		case k == to:
			l[k] = from
		default:
			l[k] = others[k-1]
		}
	}
	return l
}

// wantCheck is a plain reading of what chapter 4 tells of a table.
func wantCheck(t api.Table) api.Errno {
	if len(t.Head) == 0 {
		return api.ErrEmpty
	}
	total, long := 0, 0
	for _, row := range t.Rows {
		if len(row) != len(t.Head) {
			return api.ErrWidth
		}
		for _, cell := range row {
			total, long = total+len(cell), max(long, len(cell))
		}
	}
	seen := map[string]bool{}
	for _, name := range t.Head {
		seen[name] = true
		total, long = total+len(name), max(long, len(name))
	}
	if len(seen) != len(t.Head) {
		return api.ErrTwice
	}
	if len(t.Head) > 40 || len(t.Rows) > 400 || long > 1000 || total > 40000 {
		return api.ErrLarge
	}
	return api.OK
}

// of is a table as it is written here: names and cells with blanks between, records with strokes.
func of(s string) api.Table {
	var t api.Table
	for i, line := range strings.Split(s, "|") {
		if i == 0 {
			t.Head = strings.Fields(line)
			continue
		}
		t.Rows = append(t.Rows, strings.Fields(line))
	}
	return t
}

// names are n names that are unlike, each of at least so many bytes.
func names(n, size int) []string {
	var l []string
	for i := range n {
		l = append(l, fmt.Sprintf("%0*d", size, i))
	}
	return l
}

// rows are n rows that are alike.
func rows(n int, cells ...string) [][]string {
	return slices.Repeat([][]string{cells}, n)
}

// grid is a table of so many columns and rows, of which no two names or cells are alike.
func grid(cols, rows int) api.Table {
	var t api.Table
	for k := range cols {
		t.Head = append(t.Head, fmt.Sprint("n", k))
	}
	for i := range rows {
		var row []string
		for k := range cols {
			row = append(row, fmt.Sprint(i, "/", k))
		}
		t.Rows = append(t.Rows, row)
	}
	return t
}

// grids are the small ones, without a row, too.
func grids() []api.Table {
	var all []api.Table
	for cols := 1; cols <= 4; cols++ {
		for rows := range 5 {
			all = append(all, grid(cols, rows))
		}
	}
	return all
}

// column are the cells of a new column of so many rows.
func column(rows int) []string {
	var l []string
	for i := range rows {
		l = append(l, fmt.Sprint("new", i))
	}
	return l
}

// alike holds tables against each other, without the layer below.
func alike(a, b api.Table) bool {
	return slices.Equal(a.Head, b.Head) && slices.EqualFunc(a.Rows, b.Rows, slices.Equal[[]string])
}

// none tells whether it is a zero table.
func none(t api.Table) bool {
	return len(t.Head) == 0 && len(t.Rows) == 0
}

// places are those far below 0, right below it, all of so many, the one behind them, one beyond, and those far beyond.
func places(n int) []int {
	return append(orderOf(n), math.MinInt, math.MinInt32, -1, n, n+1, math.MaxInt32, math.MaxInt)
}

// lists are all lists of up to n of these.
func lists[T any](n int, of ...T) [][]T {
	all, from := [][]T{nil}, 0
	for range n {
		to := len(all)
		for _, l := range all[from:to] {
			for _, x := range of {
				all = append(all, append(slices.Clone(l), x))
			}
		}
		from = to
	}
	return all
}

// stepsOf are all nine calls, at all places of such a table and around them, with cells too few and too many, and with names that are in the head and that are not.
func stepsOf(t api.Table) []step {
	var all []step
	width, height := len(t.Head), len(t.Rows)
	names := append(slices.Clone(t.Head), "", "new")
	for _, at := range places(width) {
		all = append(all, deleteCol(at))
		for _, name := range names {
			all = append(all, renameCol(at, name))
			for n := max(height-1, 0); n <= height+1; n++ {
				all = append(all, insertCol(at, name, column(n)...))
			}
		}
		for _, to := range places(width) {
			all = append(all, moveCol(at, to))
		}
		for _, row := range places(height) {
			all = append(all, set(row, at, "new"), set(row, at, ""))
		}
	}
	for _, at := range places(height) {
		all = append(all, deleteRow(at))
		for n := max(width-1, 0); n <= width+1; n++ {
			all = append(all, insertRow(at, column(n)...))
		}
		for _, to := range places(height) {
			all = append(all, moveRow(at, to))
		}
	}
	for _, cols := range lists(3, append(orderOf(width), -1, width)...) {
		all = append(all, project(cols...))
	}
	return append(all, project(math.MinInt), project(0, math.MaxInt))
}

// ask holds what a call told against what it should, and tells whether that is so.
func ask(t *testing.T, x api.Table, s step, want api.Table, errno api.Errno) bool {
	t.Helper()
	got, told := s.do(x)
	if told == errno && alike(got, want) {
		return true
	}
	t.Errorf("%s of %.200q = %.200q, %v, not %.200q, %v", s.name, x, got, told, want, errno)
	return false
}

// asked is a call, and what comes of it.
type asked struct {
	t     api.Table
	step  step
	want  api.Table
	errno api.Errno
}

// askAll asks by hand, and holds the plain reading against it, too.
func askAll(t *testing.T, all []asked) {
	t.Helper()
	for i, x := range all {
		ask(t, x.t, x.step, x.want, x.errno)
		got, errno := x.step.plain(x.t)
		if errno != x.errno || !alike(got, x.want) {
			t.Errorf("%d: of %s a plain reading tells %.200q, %v", i, x.step.name, got, errno)
		}
	}
}

// P2: columns, put in, taken out, renamed, moved and asked for, at each place.
func TestColumnsByHand(t *testing.T) {
	x, bare, one := of("a b c|1 2 3|4 5 6"), of("a b"), of("a|1|2")
	askAll(t, []asked{
		{x, insertCol(0, "d", "7", "8"), of("d a b c|7 1 2 3|8 4 5 6"), api.OK},
		{x, insertCol(1, "d", "7", "8"), of("a d b c|1 7 2 3|4 8 5 6"), api.OK},
		{x, insertCol(2, "d", "7", "8"), of("a b d c|1 2 7 3|4 5 8 6"), api.OK},
		{x, insertCol(3, "d", "7", "8"), of("a b c d|1 2 3 7|4 5 6 8"), api.OK},
		{x, insertCol(3, "A", "1", "1"), of("a b c A|1 2 3 1|4 5 6 1"), api.OK},
		{one, insertCol(1, "", "", "a"), api.Table{Head: []string{"a", ""}, Rows: [][]string{{"1", ""}, {"2", "a"}}}, api.OK},
		{bare, insertCol(1, "c"), of("a c b"), api.OK},
		{x, deleteCol(0), of("b c|2 3|5 6"), api.OK},
		{x, deleteCol(1), of("a c|1 3|4 6"), api.OK},
		{x, deleteCol(2), of("a b|1 2|4 5"), api.OK},
		{bare, deleteCol(0), of("b"), api.OK},
		{x, renameCol(0, "d"), of("d b c|1 2 3|4 5 6"), api.OK},
		{x, renameCol(2, "d"), of("a b d|1 2 3|4 5 6"), api.OK},
		{x, renameCol(1, "b"), x, api.OK},
		{x, renameCol(1, "1"), of("a 1 c|1 2 3|4 5 6"), api.OK},
		{bare, renameCol(1, ""), api.Table{Head: []string{"a", ""}}, api.OK},
		{of("a b|1 2"), moveCol(0, 1), of("b a|2 1"), api.OK},
		{x, moveCol(0, 0), x, api.OK},
		{x, moveCol(2, 2), x, api.OK},
		{x, moveCol(0, 1), of("b a c|2 1 3|5 4 6"), api.OK},
		{x, moveCol(0, 2), of("b c a|2 3 1|5 6 4"), api.OK},
		{x, moveCol(1, 0), of("b a c|2 1 3|5 4 6"), api.OK},
		{x, moveCol(2, 0), of("c a b|3 1 2|6 4 5"), api.OK},
		{one, moveCol(0, 0), one, api.OK},
		{bare, moveCol(1, 0), of("b a"), api.OK},
		{of("a b c d|1 2 3 4"), moveCol(1, 3), of("a c d b|1 3 4 2"), api.OK},
		{of("a b c d|1 2 3 4"), moveCol(3, 1), of("a d b c|1 4 2 3"), api.OK},
		{x, project(2, 0), of("c a|3 1|6 4"), api.OK},
		{x, project(1), of("b|2|5"), api.OK},
		{x, project(0, 1, 2), x, api.OK},
		{x, project(2, 1, 0), of("c b a|3 2 1|6 5 4"), api.OK},
		{bare, project(1, 0), of("b a"), api.OK},
	})
}

// P2: rows, put in, taken out, moved, and cells, at each place.
func TestRowsByHand(t *testing.T) {
	x, bare := of("a b|1 2|3 4|5 6"), of("a b")
	askAll(t, []asked{
		{x, insertRow(0, "7", "8"), of("a b|7 8|1 2|3 4|5 6"), api.OK},
		{x, insertRow(1, "7", "8"), of("a b|1 2|7 8|3 4|5 6"), api.OK},
		{x, insertRow(3, "7", "8"), of("a b|1 2|3 4|5 6|7 8"), api.OK},
		{x, insertRow(1, "1", "2"), of("a b|1 2|1 2|3 4|5 6"), api.OK},
		{x, insertRow(0, "a", "b"), of("a b|a b|1 2|3 4|5 6"), api.OK},
		{bare, insertRow(0, "", ""), api.Table{Head: []string{"a", "b"}, Rows: [][]string{{"", ""}}}, api.OK},
		{x, deleteRow(0), of("a b|3 4|5 6"), api.OK},
		{x, deleteRow(1), of("a b|1 2|5 6"), api.OK},
		{x, deleteRow(2), of("a b|1 2|3 4"), api.OK},
		{of("a b|1 2"), deleteRow(0), bare, api.OK},
		{of("a|1|1"), deleteRow(1), of("a|1"), api.OK},
		{x, moveRow(0, 0), x, api.OK},
		{x, moveRow(2, 2), x, api.OK},
		{x, moveRow(0, 1), of("a b|3 4|1 2|5 6"), api.OK},
		{x, moveRow(0, 2), of("a b|3 4|5 6|1 2"), api.OK},
		{x, moveRow(1, 0), of("a b|3 4|1 2|5 6"), api.OK},
		{x, moveRow(2, 0), of("a b|5 6|1 2|3 4"), api.OK},
		{of("a|1"), moveRow(0, 0), of("a|1"), api.OK},
		{of("a|1|2|3|4"), moveRow(1, 3), of("a|1|3|4|2"), api.OK},
		{of("a|1|2|3|4"), moveRow(3, 1), of("a|1|4|2|3"), api.OK},
		{x, set(0, 0, "7"), of("a b|7 2|3 4|5 6"), api.OK},
		{x, set(2, 1, "7"), of("a b|1 2|3 4|5 7"), api.OK},
		{x, set(1, 0, "3"), x, api.OK},
		{of("a|1"), set(0, 0, ""), api.Table{Head: []string{"a"}, Rows: [][]string{{""}}}, api.OK},
		{of("a b|1 2"), set(0, 1, "\x00\xff"), of("a b|1 \x00\xff"), api.OK},
	})
}

// P2: each place that is none, and all else that a call tells.
func TestErrorsByHand(t *testing.T) {
	x, bare, one := of("a b|1 2|3 4|5 6"), of("a b"), of("a|1")
	for _, s := range []step{
		insertCol(-1, "c", "1", "2", "3"), insertCol(3, "c", "1", "2", "3"),
		insertCol(math.MinInt, "c", "1", "2", "3"), insertCol(math.MaxInt, "c", "1", "2", "3"),
		deleteCol(-1), deleteCol(2), deleteCol(3), deleteCol(math.MinInt), deleteCol(math.MaxInt),
		renameCol(-1, "c"), renameCol(2, "c"), renameCol(3, "c"), renameCol(math.MinInt, "c"), renameCol(math.MaxInt, "c"),
		moveCol(-1, 0), moveCol(0, -1), moveCol(2, 0), moveCol(0, 2), moveCol(-1, -1), moveCol(2, 2), moveCol(-1, 2),
		moveCol(math.MinInt, 0), moveCol(0, math.MaxInt),
		insertRow(-1, "7", "8"), insertRow(4, "7", "8"), insertRow(math.MinInt, "7", "8"), insertRow(math.MaxInt, "7", "8"),
		deleteRow(-1), deleteRow(3), deleteRow(4), deleteRow(math.MinInt), deleteRow(math.MaxInt),
		moveRow(-1, 0), moveRow(0, -1), moveRow(3, 0), moveRow(0, 3), moveRow(-1, -1), moveRow(3, 3), moveRow(3, -1),
		moveRow(math.MaxInt, 0), moveRow(0, math.MinInt),
		set(-1, 0, "x"), set(3, 0, "x"), set(0, -1, "x"), set(0, 2, "x"), set(-1, -1, "x"), set(3, 2, "x"),
		set(math.MinInt, 1, "x"), set(1, math.MaxInt, "x"),
		project(-1), project(2), project(0, 1, 2), project(0, -1, 1), project(math.MinInt), project(math.MaxInt),
	} {
		askAll(t, []asked{{x, s, api.Table{}, api.ErrPlace}})
	}
	askAll(t, []asked{
		{bare, deleteRow(0), api.Table{}, api.ErrPlace},
		{bare, moveRow(0, 0), api.Table{}, api.ErrPlace},
		{bare, set(0, 0, "x"), api.Table{}, api.ErrPlace},
		{bare, insertRow(1, "1", "2"), api.Table{}, api.ErrPlace},
		// cells too few and too many
		{x, insertCol(0, "c", "1", "2"), api.Table{}, api.ErrWidth},
		{x, insertCol(2, "c", "1", "2", "3", "4"), api.Table{}, api.ErrWidth},
		{x, insertCol(1, "c"), api.Table{}, api.ErrWidth},
		{bare, insertCol(1, "c", "1"), api.Table{}, api.ErrWidth},
		{x, insertRow(0, "7"), api.Table{}, api.ErrWidth},
		{x, insertRow(3, "7", "8", "9"), api.Table{}, api.ErrWidth},
		{x, insertRow(1), api.Table{}, api.ErrWidth},
		{bare, insertRow(0), api.Table{}, api.ErrWidth},
		{bare, insertRow(0, "1"), api.Table{}, api.ErrWidth},
		// no column is left
		{one, deleteCol(0), api.Table{}, api.ErrEmpty},
		{of("a"), deleteCol(0), api.Table{}, api.ErrEmpty},
		{x, project(), api.Table{}, api.ErrEmpty},
		{bare, project(), api.Table{}, api.ErrEmpty},
		// names that are in the head already
		{x, insertCol(0, "a", "1", "2", "3"), api.Table{}, api.ErrTwice},
		{x, insertCol(2, "b", "1", "2", "3"), api.Table{}, api.ErrTwice},
		{bare, insertCol(0, "b"), api.Table{}, api.ErrTwice},
		{x, renameCol(0, "b"), api.Table{}, api.ErrTwice},
		{x, renameCol(1, "a"), api.Table{}, api.ErrTwice},
		{x, project(0, 0), api.Table{}, api.ErrTwice},
		{x, project(1, 0, 1), api.Table{}, api.ErrTwice},
		{one, project(0, 0), api.Table{}, api.ErrTwice},
	})
}

// P2, R1: which error comes first, where two are so.
func TestErrorsInOrder(t *testing.T) {
	long := strings.Repeat("x", 1001)
	x, full := of("a b|1 2|3 4"), api.Table{Head: names(40, 1)}
	tall := api.Table{Head: []string{"a", "b"}, Rows: rows(400, "", "")}
	askAll(t, []asked{
		// a place that is none, ahead of all that is wrong of the cells and of what comes
		{x, insertCol(3, "c", "1"), api.Table{}, api.ErrPlace},
		{x, insertCol(-1, "a", "1", "2"), api.Table{}, api.ErrPlace},
		{x, insertCol(3, "a", "1"), api.Table{}, api.ErrPlace},
		{x, insertCol(3, long, "1", "2"), api.Table{}, api.ErrPlace},
		{full, insertCol(41, "x"), api.Table{}, api.ErrPlace},
		{of("a|1"), deleteCol(1), api.Table{}, api.ErrPlace},
		{x, renameCol(2, "a"), api.Table{}, api.ErrPlace},
		{x, renameCol(-1, long), api.Table{}, api.ErrPlace},
		{x, insertRow(3, "1"), api.Table{}, api.ErrPlace},
		{x, insertRow(-1, "1", long), api.Table{}, api.ErrPlace},
		{tall, insertRow(401, "", ""), api.Table{}, api.ErrPlace},
		{x, set(2, 0, long), api.Table{}, api.ErrPlace},
		{x, set(0, 2, long), api.Table{}, api.ErrPlace},
		{x, project(0, 0, 2), api.Table{}, api.ErrPlace},
		{x, project(-1, 0, 0), api.Table{}, api.ErrPlace},
		{full, project(append(orderOf(40), 0, 40)...), api.Table{}, api.ErrPlace},
		// cells too few or too many, ahead of a name that is there twice and of what is too large
		{x, insertCol(0, "a", "1"), api.Table{}, api.ErrWidth},
		{x, insertCol(0, "c", long), api.Table{}, api.ErrWidth},
		{x, insertCol(0, long, "1", "2", "3"), api.Table{}, api.ErrWidth},
		{full, insertCol(0, "x", ""), api.Table{}, api.ErrWidth},
		{full, insertCol(0, "0", ""), api.Table{}, api.ErrWidth},
		{x, insertRow(0, long), api.Table{}, api.ErrWidth},
		{x, insertRow(0, "1", "2", long), api.Table{}, api.ErrWidth},
		{tall, insertRow(400, ""), api.Table{}, api.ErrWidth},
		{tall, insertRow(0, "", "", ""), api.Table{}, api.ErrWidth},
		// a name that is there twice, ahead of what is too large
		{x, insertCol(0, "b", "1", long), api.Table{}, api.ErrTwice},
		{full, insertCol(40, "39"), api.Table{}, api.ErrTwice},
		{full, project(append(orderOf(40), 0)...), api.Table{}, api.ErrTwice},
		{api.Table{Head: []string{long[:1000], "a"}}, renameCol(1, long[:1000]), api.Table{}, api.ErrTwice},
	})
}

// P2: columns, rows, names, cells and the total, at each limit and one beyond it.
func TestLimits(t *testing.T) {
	most, long := strings.Repeat("x", 1000), strings.Repeat("x", 1001)
	cols := func(n int) api.Table { return api.Table{Head: names(n, 1)} }
	tall := func(n int) api.Table { return api.Table{Head: []string{"a"}, Rows: rows(n, "")} }
	// of 40000 bytes less n
	heavy := func(n int) api.Table {
		return api.Table{Head: []string{""}, Rows: append(rows(39, most), []string{most[n:]})}
	}
	x := of("a b|1 2")
	for i, c := range []struct {
		t     api.Table
		step  step
		errno api.Errno
	}{
		{cols(38), insertCol(38, "x"), api.OK},
		{cols(39), insertCol(0, "x"), api.OK},
		{cols(39), insertCol(39, "x"), api.OK},
		{cols(40), insertCol(0, "x"), api.ErrLarge},
		{cols(40), insertCol(40, "x"), api.ErrLarge},
		{cols(40), deleteCol(39), api.OK},
		{cols(40), renameCol(39, "x"), api.OK},
		{cols(40), moveCol(0, 39), api.OK},
		{cols(40), moveCol(39, 0), api.OK},
		{cols(40), moveCol(0, 40), api.ErrPlace},
		{cols(40), project(orderMoved(40, 39, 0)...), api.OK},
		{cols(40), insertRow(0, names(40, 1)...), api.OK},
		{tall(398), insertRow(398, ""), api.OK},
		{tall(399), insertRow(0, ""), api.OK},
		{tall(399), insertRow(399, ""), api.OK},
		{tall(400), insertRow(0, ""), api.ErrLarge},
		{tall(400), insertRow(400, ""), api.ErrLarge},
		{tall(400), deleteRow(399), api.OK},
		{tall(400), moveRow(0, 399), api.OK},
		{tall(400), moveRow(0, 400), api.ErrPlace},
		{tall(400), set(399, 0, "x"), api.OK},
		{tall(400), set(400, 0, "x"), api.ErrPlace},
		{tall(400), insertCol(1, "b", make([]string, 400)...), api.OK},
		{tall(400), insertCol(1, "b", make([]string, 399)...), api.ErrWidth},
		{tall(400), insertCol(1, "b", make([]string, 401)...), api.ErrWidth},
		{x, insertCol(1, most, "3"), api.OK},
		{x, insertCol(1, long, "3"), api.ErrLarge},
		{x, insertCol(1, "c", most), api.OK},
		{x, insertCol(1, "c", long), api.ErrLarge},
		{x, renameCol(1, most), api.OK},
		{x, renameCol(1, long), api.ErrLarge},
		{x, insertRow(1, "3", most), api.OK},
		{x, insertRow(1, "3", long), api.ErrLarge},
		{x, insertRow(1, long, "3"), api.ErrLarge},
		{x, set(0, 1, most), api.OK},
		{x, set(0, 1, long), api.ErrLarge},
		{heavy(0), moveRow(0, 39), api.OK},
		{heavy(0), moveCol(0, 0), api.OK},
		{heavy(0), project(0), api.OK},
		{heavy(0), insertCol(1, "a", make([]string, 40)...), api.ErrLarge},
		{heavy(1), insertCol(1, "a", make([]string, 40)...), api.OK},
		{heavy(1), insertCol(1, "ab", make([]string, 40)...), api.ErrLarge},
		{heavy(2), insertCol(1, "a", append(make([]string, 39), "x")...), api.OK},
		{heavy(2), insertCol(1, "a", append(make([]string, 39), "xy")...), api.ErrLarge},
		{heavy(0), renameCol(0, ""), api.OK},
		{heavy(0), renameCol(0, "a"), api.ErrLarge},
		{heavy(3), renameCol(0, "abc"), api.OK},
		{heavy(3), renameCol(0, "abcd"), api.ErrLarge},
		{heavy(0), insertRow(40, ""), api.OK},
		{heavy(0), insertRow(40, "x"), api.ErrLarge},
		{heavy(5), insertRow(0, "abcde"), api.OK},
		{heavy(5), insertRow(0, "abcdef"), api.ErrLarge},
		{heavy(0), set(0, 0, strings.Repeat("y", 1000)), api.OK},
		{heavy(0), set(39, 0, ""), api.OK},
		{api.Table{Head: []string{"", "a"}, Rows: rows(200, most[:100], most[:99])}, set(7, 1, most[:298]), api.OK},
		{api.Table{Head: []string{"", "a"}, Rows: rows(200, most[:100], most[:99])}, set(7, 1, most[:299]), api.ErrLarge},
	} {
		want, errno := c.step.plain(c.t)
		if errno != c.errno {
			t.Errorf("%d: of %s a plain reading tells %v, not %v", i, c.step.name, errno, c.errno)
		}
		ask(t, c.t, c.step, want, c.errno)
	}
}

// P1, P2: each call at each place of any small table that may be.
func TestAnyStep(t *testing.T) {
	for _, x := range grids() {
		for _, s := range stepsOf(x) {
			want, errno := s.plain(x)
			if !ask(t, x, s, want, errno) {
				return
			}
		}
	}
}

// P1, P2: of any small table that may not be each call tells first what is wrong of it, at any place.
func TestTablesThatMayNotBe(t *testing.T) {
	var tables []api.Table
	records := lists(2, "", "x")
	for _, head := range lists(2, "", "a") {
		tables = append(tables, api.Table{Head: head})
		for _, a := range records {
			tables = append(tables, api.Table{Head: head, Rows: [][]string{a}})
			for _, b := range records {
				tables = append(tables, api.Table{Head: head, Rows: [][]string{a, b}})
			}
		}
	}
	for _, x := range tables {
		errno := wantCheck(x)
		if errno == api.OK {
			continue
		}
		for _, s := range stepsOf(x) {
			if !ask(t, x, s, api.Table{}, errno) {
				return
			}
		}
	}
}

// P1, P2: a table that may not be is not mended by what would mend it.
func TestNothingIsMended(t *testing.T) {
	long := strings.Repeat("x", 1001)
	twice, uneven := of("a b a|1 2 3"), of("a b|1 2|3|4 5")
	wide := api.Table{Head: names(41, 1)}
	tall := api.Table{Head: []string{"a"}, Rows: rows(401, "")}
	longName, longCell := api.Table{Head: []string{"a", long}}, api.Table{Head: []string{"a", "b"}, Rows: rows(1, "1", long)}
	heavy := api.Table{Head: []string{"a"}, Rows: rows(40, long[1:])}
	askAll(t, []asked{
		{api.Table{}, insertCol(0, "a"), api.Table{}, api.ErrEmpty},
		{api.Table{Rows: rows(1)}, insertCol(0, "a", "1"), api.Table{}, api.ErrEmpty},
		{api.Table{Rows: rows(1)}, deleteRow(0), api.Table{}, api.ErrEmpty},
		{api.Table{}, insertRow(0), api.Table{}, api.ErrEmpty},
		{api.Table{}, project(), api.Table{}, api.ErrEmpty},
		{of("|1"), insertCol(0, "a", "1"), api.Table{}, api.ErrEmpty},
		{twice, renameCol(2, "c"), api.Table{}, api.ErrTwice},
		{twice, deleteCol(0), api.Table{}, api.ErrTwice},
		{twice, deleteCol(9), api.Table{}, api.ErrTwice},
		{twice, project(0, 1), api.Table{}, api.ErrTwice},
		{twice, insertRow(0, "1"), api.Table{}, api.ErrTwice},
		{uneven, deleteRow(1), api.Table{}, api.ErrWidth},
		{uneven, set(1, 0, "x"), api.Table{}, api.ErrWidth},
		{uneven, set(1, 1, "x"), api.Table{}, api.ErrWidth},
		{uneven, moveRow(1, 9), api.Table{}, api.ErrWidth},
		{uneven, project(0), api.Table{}, api.ErrWidth},
		{of("a|1|2 3"), renameCol(0, "b"), api.Table{}, api.ErrWidth},
		{of("a a|1"), deleteCol(0), api.Table{}, api.ErrWidth},
		{wide, deleteCol(0), api.Table{}, api.ErrLarge},
		{wide, deleteCol(41), api.Table{}, api.ErrLarge},
		{wide, insertCol(0, "0"), api.Table{}, api.ErrLarge},
		{wide, project(0), api.Table{}, api.ErrLarge},
		{wide, moveCol(-1, 0), api.Table{}, api.ErrLarge},
		{tall, deleteRow(0), api.Table{}, api.ErrLarge},
		{tall, deleteRow(-1), api.Table{}, api.ErrLarge},
		{tall, insertRow(0), api.Table{}, api.ErrLarge},
		{longName, renameCol(1, "b"), api.Table{}, api.ErrLarge},
		{longName, deleteCol(1), api.Table{}, api.ErrLarge},
		{longName, project(0), api.Table{}, api.ErrLarge},
		{longCell, set(0, 1, ""), api.Table{}, api.ErrLarge},
		{longCell, set(1, 1, ""), api.Table{}, api.ErrLarge},
		{longCell, deleteRow(0), api.Table{}, api.ErrLarge},
		{longCell, deleteCol(1), api.Table{}, api.ErrLarge},
		{heavy, renameCol(0, ""), api.Table{}, api.ErrLarge},
		{heavy, deleteRow(0), api.Table{}, api.ErrLarge},
	})
}

// after is what comes of calls, one after the other, all of which must be done.
func after(t *testing.T, x api.Table, steps ...step) api.Table {
	t.Helper()
	for _, s := range steps {
		got, errno := s.do(x)
		if errno != api.OK {
			t.Fatalf("%s of %q: %v", s.name, x, errno)
		}
		x = got
	}
	return x
}

// stays tells it, if a table is not as it was after these calls.
func stays(t *testing.T, x api.Table, steps ...step) {
	t.Helper()
	if got := after(t, x, steps...); !alike(got, x) {
		t.Fatalf("%q is %q after %s and back", x, got, steps[0].name)
	}
}

// cellsOf are a column's cells.
func cellsOf(t api.Table, col int) []string {
	var l []string
	for _, row := range t.Rows {
		l = append(l, row[col])
	}
	return l
}

// P2: what is put in and taken out again leaves all as it was, and so does what is taken out and put in again.
func TestPutInAndTakenOut(t *testing.T) {
	for _, x := range grids() {
		width, height := len(x.Head), len(x.Rows)
		for at := range width + 1 {
			stays(t, x, insertCol(at, "new", column(height)...), deleteCol(at))
			stays(t, x, insertCol(at, "new", column(height)...), project(orderWithout(width+1, at)...))
		}
		for at := range height + 1 {
			stays(t, x, insertRow(at, column(width)...), deleteRow(at))
		}
		for at := range width {
			stays(t, x, renameCol(at, "new"), renameCol(at, x.Head[at]))
			if width > 1 {
				stays(t, x, deleteCol(at), insertCol(at, x.Head[at], cellsOf(x, at)...))
			}
		}
		for at := range height {
			stays(t, x, deleteRow(at), insertRow(at, x.Rows[at]...))
			for col := range width {
				stays(t, x, set(at, col, "new"), set(at, col, x.Rows[at][col]))
			}
		}
	}
}

// P2: what is moved there and back leaves all as it was; what is moved is what is taken out and put in.
func TestMovedThereAndBack(t *testing.T) {
	for _, x := range grids() {
		for from := range x.Head {
			for to := range x.Head {
				stays(t, x, moveCol(from, to), moveCol(to, from))
				moved := after(t, x, moveCol(from, to))
				if moved.Head[to] != x.Head[from] || !slices.Equal(cellsOf(moved, to), cellsOf(x, from)) {
					t.Fatalf("column %d of %q is not at %d: %q", from, x, to, moved)
				}
				if len(x.Head) > 1 && !alike(moved, after(t, x, deleteCol(from), insertCol(to, x.Head[from], cellsOf(x, from)...))) {
					t.Fatalf("column %d of %q, put in at %d, is not %q", from, x, to, moved)
				}
			}
		}
		for from := range x.Rows {
			for to := range x.Rows {
				stays(t, x, moveRow(from, to), moveRow(to, from))
				moved := after(t, x, moveRow(from, to))
				if !alike(moved, after(t, x, deleteRow(from), insertRow(to, x.Rows[from]...))) {
					t.Fatalf("row %d of %q, put in at %d, is not %q", from, x, to, moved)
				}
			}
		}
	}
}

// colTurns are calls that turn a column alone, of such a table, and are done.
func colTurns(x api.Table) []step {
	n := len(x.Head)
	all := []step{project(orderMoved(n, 0, n-1)...), project(n - 1)}
	for at := range n {
		all = append(all, renameCol(at, "new"))
		if n > 1 {
			all = append(all, deleteCol(at))
		}
		for to := range n {
			all = append(all, moveCol(at, to))
		}
	}
	return all
}

// rowTurns are calls that turn a row alone, of such a table, and are done.
func rowTurns(x api.Table) []step {
	var all []step
	for at := range x.Rows {
		all = append(all, deleteRow(at))
		for to := range x.Rows {
			all = append(all, moveRow(at, to))
		}
	}
	return all
}

// meet tells it, if two ways do not lead to one table.
func meet(t *testing.T, x api.Table, one, other []step) {
	t.Helper()
	if a, b := after(t, x, one...), after(t, x, other...); !alike(a, b) {
		t.Fatalf("%q is %q after %s and %s, but %q the other way round", x, a, one[0].name, one[1].name, b)
	}
}

// P2: turning a row and turning a column may change places.
func TestRowsAndColumnsChangePlaces(t *testing.T) {
	for _, x := range grids() {
		width, height := len(x.Head), len(x.Rows)
		for _, col := range colTurns(x) {
			for _, row := range rowTurns(x) {
				meet(t, x, []step{col, row}, []step{row, col})
			}
			// a row that is put in later has its own cells turned with it
			line := column(width)
			own := after(t, api.Table{Head: x.Head, Rows: [][]string{line}}, col).Rows[0]
			for at := range height + 1 {
				meet(t, x, []step{insertRow(at, line...), col}, []step{col, insertRow(at, own...)})
			}
		}
		for at := range width + 1 {
			for _, row := range rowTurns(x) {
				cells := column(height)
				own := cellsOf(after(t, api.Table{Head: []string{"new"}, Rows: lines(cells)}, row), 0)
				meet(t, x, []step{insertCol(at, "new", cells...), row}, []step{row, insertCol(at, "new", own...)})
			}
			for to := range height + 1 {
				line, cells := column(width), column(height)
				meet(t, x,
					[]step{insertCol(at, "new", cells...), insertRow(to, slices.Insert(slices.Clone(line), at, "both")...)},
					[]step{insertRow(to, line...), insertCol(at, "new", slices.Insert(slices.Clone(cells), to, "both")...)})
			}
		}
	}
}

// lines are rows of one cell each.
func lines(cells []string) [][]string {
	var l [][]string
	for _, cell := range cells {
		l = append(l, []string{cell})
	}
	return l
}

// P2: what an order of columns does, the order the other way round undoes.
func TestProjectedThereAndBack(t *testing.T) {
	x := grid(4, 3)
	for _, cols := range lists(4, orderOf(4)...) {
		back := make([]int, 4)
		for i, at := range cols {
			back[at] = i
		}
		if sorted := slices.Sorted(slices.Values(cols)); slices.Equal(sorted, orderOf(4)) {
			stays(t, x, project(cols...), project(back...))
		}
	}
}

// P1: arguments far beyond the limits have an end, too.
func TestHugeArguments(t *testing.T) {
	const n = 1 << 22
	long, many, twice := strings.Repeat("x", 1<<26), make([]string, n), make([]int, n)
	tall := api.Table{Head: names(40, 1), Rows: rows(400, make([]string, 40)...)}
	for i, x := range []struct {
		t     api.Table
		step  step
		errno api.Errno
	}{
		{tall, insertCol(0, "x", many...), api.ErrWidth},
		{tall, insertRow(0, many...), api.ErrWidth},
		{tall, insertRow(n, many...), api.ErrPlace},
		{tall, renameCol(0, long), api.ErrLarge},
		{tall, set(0, 0, long), api.ErrLarge},
		{tall, insertRow(0, slices.Repeat([]string{long}, 40)...), api.ErrLarge},
		{tall, project(twice...), api.ErrTwice},
		{tall, project(append(slices.Clone(twice), 40)...), api.ErrPlace},
		{api.Table{Head: many}, project(twice...), api.ErrTwice},
		{api.Table{Head: []string{"a"}, Rows: rows(n, "")}, deleteRow(0), api.ErrLarge},
		{api.Table{Head: []string{"a"}, Rows: rows(n)}, insertCol(0, "b", many...), api.ErrWidth},
		{api.Table{Rows: rows(n)}, moveRow(0, n-1), api.ErrEmpty},
		{api.Table{Head: []string{long}}, moveCol(0, 0), api.ErrLarge},
	} {
		if got, errno := x.step.do(x.t); errno != x.errno || !none(got) {
			t.Errorf("%d: %.60s: %v, not %v", i, x.step.name, errno, x.errno)
		}
	}
}

// roomy is a list with something behind it, in the same memory.
func roomy[T any](behind T, l ...T) []T {
	return append(append(make([]T, 0, len(l)+3), l...), behind, behind, behind)[:len(l)]
}

// whole are all that a list's memory holds.
func whole[T any](l []T) []T {
	return l[:cap(l)]
}

// spoil writes over all that a table's memory holds.
func spoil(t api.Table) {
	for _, l := range append(slices.Clone(whole(t.Rows)), t.Head) {
		for i := range whole(l) {
			whole(l)[i] = "spoilt"
		}
	}
	for i := range whole(t.Rows) {
		whole(t.Rows)[i] = nil
	}
}

// given are arguments of all calls, and all that their memory holds.
type given struct {
	t          api.Table
	name, cell string
	col, row   []string
	cols       []int
	behind     []string
}

// newGiven has lists with room behind them, and one list that is two rows.
func newGiven() *given {
	behind := []string{"behind", "behind"}
	twice := roomy("behind", "one", "two")
	return &given{
		t: api.Table{
			Head: roomy("behind", "abc", "def"),
			Rows: roomy(behind, twice, twice, roomy("behind", "three", "four")),
		},
		name: "name", cell: "cell",
		col:    roomy("behind", "five", "six", "seven"),
		row:    roomy("behind", "eight", "nine"),
		cols:   roomy(7, 1, 0),
		behind: behind,
	}
}

// told are all that the arguments' memory holds, in words.
func (g *given) told() string {
	l := fmt.Sprintf("%q %q %q %q %q %d %q", whole(g.t.Head), whole(g.t.Rows), g.name+g.cell, whole(g.col), whole(g.row), whole(g.cols), g.behind)
	for _, row := range g.t.Rows {
		l += fmt.Sprintf(" %q", whole(row))
	}
	return l
}

// texts are all texts of the arguments.
func (g *given) texts() []string {
	return slices.Concat(g.t.Head, slices.Concat(g.t.Rows...), g.col, g.row, []string{g.name, g.cell})
}

// calls are all nine, with these arguments: those that are done, and those that are not.
func (g *given) calls() []func() (api.Table, api.Errno) {
	t := g.t
	return []func() (api.Table, api.Errno){
		func() (api.Table, api.Errno) { return InsertCol(t, 0, g.name, g.col) },
		func() (api.Table, api.Errno) { return InsertCol(t, 1, g.name, g.col) },
		func() (api.Table, api.Errno) { return InsertCol(t, 2, g.name, g.col) },
		func() (api.Table, api.Errno) { return DeleteCol(t, 0) },
		func() (api.Table, api.Errno) { return DeleteCol(t, 1) },
		func() (api.Table, api.Errno) { return RenameCol(t, 0, g.name) },
		func() (api.Table, api.Errno) { return RenameCol(t, 1, t.Head[1]) },
		func() (api.Table, api.Errno) { return MoveCol(t, 0, 1) },
		func() (api.Table, api.Errno) { return MoveCol(t, 1, 1) },
		func() (api.Table, api.Errno) { return InsertRow(t, 0, g.row) },
		func() (api.Table, api.Errno) { return InsertRow(t, 1, g.row) },
		func() (api.Table, api.Errno) { return InsertRow(t, 3, g.row) },
		func() (api.Table, api.Errno) { return InsertRow(t, 3, t.Rows[0]) },
		func() (api.Table, api.Errno) { return InsertRow(t, 3, t.Head) },
		func() (api.Table, api.Errno) { return DeleteRow(t, 0) },
		func() (api.Table, api.Errno) { return DeleteRow(t, 2) },
		func() (api.Table, api.Errno) { return MoveRow(t, 0, 2) },
		func() (api.Table, api.Errno) { return MoveRow(t, 2, 0) },
		func() (api.Table, api.Errno) { return MoveRow(t, 1, 1) },
		func() (api.Table, api.Errno) { return Set(t, 0, 0, g.cell) },
		func() (api.Table, api.Errno) { return Set(t, 2, 1, t.Rows[2][1]) },
		func() (api.Table, api.Errno) { return Project(t, g.cols) },
		func() (api.Table, api.Errno) { return Project(t, g.cols[:1]) },
		func() (api.Table, api.Errno) { return Project(t, []int{0, 1}) },
		func() (api.Table, api.Errno) { return InsertCol(t, 0, t.Head[1], g.col) },
		func() (api.Table, api.Errno) { return InsertCol(t, 0, g.name, g.col[:2]) },
		func() (api.Table, api.Errno) { return InsertRow(t, 0, g.row[:1]) },
		func() (api.Table, api.Errno) { return Project(t, g.cols[:3]) },
		func() (api.Table, api.Errno) { return DeleteCol(t, 2) },
		func() (api.Table, api.Errno) { return RenameCol(t, 0, t.Head[1]) },
		func() (api.Table, api.Errno) { return MoveRow(t, 0, 3) },
	}
}

// R3: no argument is changed, nor what stands behind it, and no answer shares memory with one.
func TestAnswersShareNothing(t *testing.T) {
	for i := range newGiven().calls() {
		g := newGiven()
		before := g.told()
		got, errno := g.calls()[i]()
		if g.told() != before {
			t.Errorf("%d: %s is now %s", i, before, g.told())
		}
		for _, s := range slices.Concat(got.Head, slices.Concat(got.Rows...)) {
			for _, text := range g.texts() {
				if unsafe.StringData(s) == unsafe.StringData(text) {
					t.Errorf("%d: %q is shared", i, s)
				}
			}
		}
		spoil(got)
		if g.told() != before {
			t.Errorf("%d: %s is, the answer written over, %s", i, before, g.told())
		}
		again, told := g.calls()[i]()
		want := fmt.Sprintf("%q", again)
		spoil(g.t)
		spoil(api.Table{Rows: [][]string{g.row, g.col}})
		if now := fmt.Sprintf("%q", again); now != want || told != errno {
			t.Errorf("%d: %s is, the arguments written over, %s", i, want, now)
		}
	}
}

// R3: no list of an answer shares memory with another one.
func TestListsOfAnswersShareNothing(t *testing.T) {
	for i, call := range newGiven().calls() {
		want, errno := call()
		if errno != api.OK {
			continue
		}
		for k := range len(want.Rows) + 1 {
			got, _ := call()
			l := append([][]string{got.Head}, got.Rows...)
			for at := range whole(l[k]) {
				whole(l[k])[at] = "spoilt"
			}
			l[k] = append([][]string{want.Head}, want.Rows...)[k]
			if !alike(api.Table{Head: l[0], Rows: l[1:]}, want) {
				t.Errorf("%d: %q is, its list %d written over, %q", i, want, k, l)
			}
		}
	}
}

// R4: the same calls with the same arguments tell the same.
func TestTheSameAgain(t *testing.T) {
	x := grid(3, 3)
	for _, s := range stepsOf(x) {
		a, one := s.do(x)
		b, other := s.do(x)
		if one != other || !alike(a, b) {
			t.Fatalf("%s told %q, %v and %q, %v", s.name, a, one, b, other)
		}
	}
}

// P1, P2: whatever table there is, and whatever is done with it.
func FuzzEdit(f *testing.F) {
	for _, s := range []string{"", "a", "a,b\nc,d", "a,a", "a,b\nc", "\n", ",\n,", "\x00,\xff\nx,y", "a\n\n\n", "a,b,c\n1,2,3\n4,5,6"} {
		f.Add(s, "n", "x,y", 0, 1)
		f.Add(s, "a", "x", 2, 0)
		f.Add(s, "", "x,y,z", -1, 9)
	}
	f.Fuzz(func(t *testing.T, s, name, list string, one, other int) {
		var l [][]string
		for line := range strings.SplitSeq(s, "\n") {
			l = append(l, strings.Split(line, ","))
		}
		x, cells := api.Table{Head: l[0], Rows: l[1:]}, strings.Split(list, ",")
		for _, s := range []step{
			insertCol(one, name, cells...), deleteCol(one), renameCol(one, name), moveCol(one, other),
			insertRow(one, cells...), deleteRow(one), moveRow(one, other), set(one, other, name),
			project(one), project(one, other), project(other, 0, one),
		} {
			want, errno := s.plain(x)
			ask(t, x, s, want, errno)
		}
	})
}

package index

import (
	"fmt"
	"math"
	"slices"
	"strconv"
	"strings"
	"testing"
	"unsafe"

	"tartan/api"
)

// list is a list as it is written here: texts with commas between; a stroke upwards alone is a list without texts.
func list(s string) []string {
	if s == "^" {
		return nil
	}
	return strings.Split(s, ",")
}

// of is a table as it is written here: the head and the rows, with strokes between.
func of(s string) api.Table {
	var t api.Table
	for i, line := range strings.Split(s, "|") {
		if i == 0 {
			t.Head = list(line)
			continue
		}
		t.Rows = append(t.Rows, list(line))
	}
	return t
}

// upTo are all lists of up to n of these.
func upTo[T any](n int, of ...T) [][]T {
	lists, from := [][]T{nil}, 0
	for range n {
		to := len(lists)
		for _, l := range lists[from:to] {
			for _, x := range of {
				lists = append(lists, append(slices.Clone(l), x))
			}
		}
		from = to
	}
	return lists
}

// short is the beginning of what may be long.
func short(x any) string {
	return fmt.Sprintf("%.300s", fmt.Sprintf("%q", x))
}

// few is the beginning of numbers of which there may be many.
func few(l []int) string {
	return fmt.Sprint(len(l), " ", l[:min(len(l), 30)])
}

// What follows, up to the first asking function, is a plain reading of the chapter.

func wantKey(t api.Table, row int, cols []int) []string {
	var own []string
	for _, col := range cols {
		cell := ""
		if row >= 0 && row < len(t.Rows) && col >= 0 && col < len(t.Rows[row]) {
			cell = t.Rows[row][col]
		}
		own = append(own, cell)
	}
	return own
}

// wantText is how two texts stand, byte by byte.
func wantText(a, b string) int {
	for i := 0; i < len(a) || i < len(b); i++ {
		switch {
		case i == len(a):
			return -1
		case i == len(b):
			return 1
		case int(a[i]) < int(b[i]):
			return -1
		case int(a[i]) > int(b[i]):
			return 1
		}
	}
	return 0
}

func wantCompare(a, b []string) int {
	for i := 0; i < len(a) || i < len(b); i++ {
		switch {
		case i == len(a):
			return -1
		case i == len(b):
			return 1
		case wantText(a[i], b[i]) != 0:
			return wantText(a[i], b[i])
		}
	}
	return 0
}

// wantBuild puts in row after row, each behind all that do not stand behind it.
func wantBuild(t api.Table, cols []int) []int {
	var own []int
	for row := range t.Rows {
		at := len(own)
		for at > 0 && wantCompare(wantKey(t, row, cols), wantKey(t, own[at-1], cols)) < 0 {
			at--
		}
		own = slices.Insert(own, at, row)
	}
	return own
}

func wantFind(t api.Table, cols, order []int, key []string) (int, bool) {
	for _, row := range order {
		if wantCompare(wantKey(t, row, cols), key) == 0 {
			return row, true
		}
	}
	return 0, false
}

func askKey(t *testing.T, x api.Table, row int, cols []int, want []string) {
	t.Helper()
	if got := Key(x, row, cols); !slices.Equal(got, want) {
		t.Errorf("Key(%s, %d, %s): %s, not %s", short(x), row, few(cols), short(got), short(want))
	}
}

// askCompare asks either way round.
func askCompare(t *testing.T, a, b []string, want int) {
	t.Helper()
	if got := Compare(a, b); got != want {
		t.Errorf("Compare(%s, %s): %d, not %d", short(a), short(b), got, want)
	}
	if got := Compare(b, a); got != -want {
		t.Errorf("Compare(%s, %s): %d, not %d", short(b), short(a), got, -want)
	}
}

func askBuild(t *testing.T, x api.Table, cols, want []int) {
	t.Helper()
	if got := Build(x, cols); !slices.Equal(got, want) {
		t.Errorf("Build(%s, %s): %s, not %s", short(x), few(cols), few(got), few(want))
	}
}

// askFind asks of the order that Build tells.
func askFind(t *testing.T, x api.Table, cols []int, key []string, want int, ok bool) {
	t.Helper()
	askFindIn(t, x, cols, Build(x, cols), key, want, ok)
}

func askFindIn(t *testing.T, x api.Table, cols, order []int, key []string, want int, ok bool) {
	t.Helper()
	if got, gotOK := Find(x, cols, order, key); got != want || gotOK != ok {
		t.Errorf("Find(%s, %s, %s, %s): %d %t, not %d %t", short(x), few(cols), few(order), short(key), got, gotOK, want, ok)
	}
}

// askAny asks of any order: what is told is in it and has that key, or it is 0 and false.
func askAny(t *testing.T, x api.Table, cols, order []int, key []string) {
	t.Helper()
	got, ok := Find(x, cols, order, key)
	switch {
	case !ok && got != 0:
		t.Errorf("Find(%s, %s, %s, %s): %d beside false", short(x), few(cols), few(order), short(key), got)
	case ok && !slices.Contains(order, got):
		t.Errorf("Find(%s, %s, %s, %s): %d is not in that order", short(x), few(cols), few(order), short(key), got)
	case ok && !slices.Equal(wantKey(x, got, cols), key):
		t.Errorf("Find(%s, %s, %s, %s): %d has another key", short(x), few(cols), few(order), short(key), got)
	}
}

// ask asks all calls of a table and columns, and finds each key that there is, and what is near to it.
func ask(t *testing.T, x api.Table, cols []int) {
	t.Helper()
	order := wantBuild(x, cols)
	askBuild(t, x, cols, order)
	for row := -1; row <= len(x.Rows); row++ {
		key := wantKey(x, row, cols)
		askKey(t, x, row, cols, key)
		for _, other := range near(key) {
			want, ok := wantFind(x, cols, order, other)
			askFindIn(t, x, cols, order, other, want, ok)
			askCompare(t, key, other, wantCompare(key, other))
		}
	}
}

// near are a key and others that stand close to it: with a cell more, with one less, with another one ahead of it or behind it.
func near(key []string) [][]string {
	own := [][]string{key, append(slices.Clone(key), "")}
	if last := len(key) - 1; last >= 0 {
		own = append(own, key[:last])
		for _, other := range []string{"", key[last] + "\x00", key[last] + "\xff", "\xff" + key[last], key[last][:len(key[last])/2]} {
			own = append(own, append(slices.Clone(key[:last]), other), append([]string{other}, key[1:]...))
		}
	}
	return own
}

// askInOrder asks what holds of an order, by the calls alone.
func askInOrder(t *testing.T, x api.Table, cols []int) {
	t.Helper()
	order := Build(x, cols)
	for i := range order {
		if i == 0 {
			continue
		}
		c := Compare(Key(x, order[i-1], cols), Key(x, order[i], cols))
		if c > 0 || c == 0 && order[i-1] > order[i] {
			t.Errorf("Build(%s, %s): %s has %d ahead of %d", short(x), few(cols), few(order), order[i-1], order[i])
		}
	}
	if !slices.Equal(slices.Sorted(slices.Values(order)), upward(len(x.Rows))) {
		t.Errorf("Build(%s, %s): %s are not all rows, each once", short(x), few(cols), few(order))
	}
	for i, row := range order {
		key := Key(x, row, cols)
		found, ok := Find(x, cols, order, key)
		at := slices.Index(order, found)
		switch {
		case !ok || at > i || !slices.Equal(Key(x, found, cols), key):
			t.Errorf("Find(%s, %s, Build, %s): %d %t, but %d has it", short(x), few(cols), short(key), found, ok, row)
		case at > 0 && slices.Equal(Key(x, order[at-1], cols), key):
			t.Errorf("Find(%s, %s, Build, %s): %d, but %d stands ahead", short(x), few(cols), short(key), found, order[at-1])
		}
	}
}

// upward are the numbers from 0 on, less than n.
func upward(n int) []int {
	own := make([]int, n)
	for i := range own {
		own[i] = i
	}
	return own
}

func TestExamples(t *testing.T) {
	x := of("a|b|a|b")
	askBuild(t, x, []int{0}, []int{1, 0, 2})
	askFind(t, x, []int{0}, []string{"b"}, 0, true)
	askFind(t, x, []int{0}, []string{"c"}, 0, false)
}

func TestKeyByHand(t *testing.T) {
	const two = "a,b,c|1,x,p|2,y,q"
	for _, x := range []struct {
		table string
		row   int
		cols  []int
		want  string
	}{
		// ordinary ones: in order of the columns, not of the head
		{two, 0, []int{0}, "1"},
		{two, 1, []int{0}, "2"},
		{two, 0, []int{0, 1, 2}, "1,x,p"},
		{two, 1, []int{2, 0}, "q,2"},
		{two, 1, []int{1, 2}, "y,q"},
		// no columns
		{two, 0, nil, "^"},
		{two, 1, []int{}, "^"},
		{two, -1, nil, "^"},
		{two, 2, nil, "^"},
		{"^", 0, nil, "^"},
		// a column below 0, and one at the head's length
		{two, 0, []int{-1}, ""},
		{two, 0, []int{3}, ""},
		{two, 0, []int{-1, 0}, ",1"},
		{two, 0, []int{0, 3, 2}, "1,,p"},
		{two, 1, []int{math.MinInt, 1, math.MaxInt}, ",y,"},
		{two, 1, []int{1 << 32, -1 << 32}, ","},
		// a column that is told twice
		{two, 1, []int{1, 1}, "y,y"},
		{two, 1, []int{1, 0, 1, 0}, "y,2,y,2"},
		// a row below 0, and one behind the last
		{two, -1, []int{0, 1}, ","},
		{two, 2, []int{0, 1}, ","},
		{two, math.MinInt, []int{0}, ""},
		{two, math.MaxInt, []int{0}, ""},
		{two, 1 << 32, []int{0, -1, 0}, ",,"},
		{"a,b", 0, []int{0, 1}, ","},
		{"^", 0, []int{0}, ""},
		// rows that are shorter, or longer, than the head
		{"a,b,c|1|^|1,2,3,4", 0, []int{0, 1, 2}, "1,,"},
		{"a,b,c|1|^|1,2,3,4", 1, []int{0, 1, 2}, ",,"},
		{"a,b,c|1|^|1,2,3,4", 2, []int{0, 3, 4}, "1,4,"},
		{"^|1,2", 0, []int{1, 0, 2}, "2,1,"},
		// cells that are empty
		{"a,b|,x|,", 0, []int{0, 1}, ",x"},
		{"a,b|,x|,", 1, []int{0, 1}, ","},
		// bytes that are no letters
		{"a,b|\xff\x00,\r\n", 0, []int{1, 0}, "\r\n,\xff\x00"},
	} {
		askKey(t, of(x.table), x.row, x.cols, list(x.want))
		if want := wantKey(of(x.table), x.row, x.cols); !slices.Equal(want, list(x.want)) {
			t.Errorf("the plain reading of %s, %d and %v is %s", x.table, x.row, x.cols, short(want))
		}
	}
}

func TestCompareByHand(t *testing.T) {
	for _, x := range []struct {
		a, b string
		want int
	}{
		// ordinary ones: the first place at which they are unlike decides, whatever is behind it
		{"a", "b", -1},
		{"a", "a", 0},
		{"a,b", "a,c", -1},
		{"a,z", "b,a", -1},
		{"a,b,z", "a,c,a", -1},
		{"a,b,c", "a,b,c", 0},
		{"b,a", "a,b", 1},
		// texts, not numbers
		{"10", "2", -1},
		{"10", "1", 1},
		{"-1", "1", -1},
		{"01", "1", -1},
		// no cells
		{"^", "^", 0},
		{"^", "", -1},
		{"^", "a", -1},
		{"^", "a,b", -1},
		// one of them the front of the other
		{"a", "a,b", -1},
		{"a", "a,", -1},
		{"a,b", "a,b,a", -1},
		{"", ",", -1},
		{",", ",,", -1},
		// unlike lengths, but a place decides first
		{"b", "a,b", 1},
		{"b", "a,b,c", 1},
		{"a,b", "a,a,c", 1},
		{"a,b,c", "b", -1},
		{"", "a,b", -1},
		{"a", ",,,", 1},
		// cells that are empty
		{"", "", 0},
		{"", "a", -1},
		{"a,", "a,b", -1},
		{",b", "a,", -1},
		{"a,", ",b", 1},
		{",,a", ",,b", -1},
		// a cell is the front of another one
		{"a", "aa", -1},
		{"aa", "ab", -1},
		{"aa", "b", -1},
		{"a,b", "aa,a", -1},
		{"aa", "a,a", 1},
		{"a", "a\x00", -1},
		{"a\x00", "aa", -1},
		{"ab,c", "a,bc", 1},
		{"ab,", "a,b", 1},
		// bytes above 127, byte by byte
		{"\x7f", "\x80", -1},
		{"a", "\xff", -1},
		{"\x00", "\xff", -1},
		{"\xfe", "\xff", -1},
		{"\xff", "\xff", 0},
		{"\xc3\xa9", "e", 1},
		{"\xc3\xa9", "\xc3\xaa", -1},
		{"\xef\xbf\xbd", "\xff", -1},
		{"\xef\xbf\xbd", "\x80", 1},
		{"\xfe", "\xef\xbf\xbd", 1},
		{"\xf0\x9f\x98\x80", "\xef\xbf\xbf", 1},
		{"a,\x80", "a,z", 1},
		// what looks alike is not
		{"A", "a", -1},
		{"a ", "a", 1},
		{" a", "a", -1},
		{"\u00e9", "e\u0301", 1},
		{"\r\n", "\n", 1},
		{"\"a\"", "a", -1},
		// both ends of what a byte can be
		{"\x00", "", 1},
		{"\x00", "\x01", -1},
		{"\x00\x00", "\x00", 1},
	} {
		askCompare(t, list(x.a), list(x.b), x.want)
		if want := wantCompare(list(x.a), list(x.b)); want != x.want {
			t.Errorf("the plain reading of %q and %q is %d, not %d", x.a, x.b, want, x.want)
		}
	}
	askCompare(t, nil, []string{}, 0)
}

func TestBuildByHand(t *testing.T) {
	for _, x := range []struct {
		table string
		cols  []int
		want  []int
	}{
		// ordinary ones: by one column, by both, whichever comes first
		{"a,b|2,x|1,y|3,a", []int{0}, []int{1, 0, 2}},
		{"a,b|2,x|1,y|3,a", []int{1}, []int{2, 0, 1}},
		{"a,b|2,x|1,y|2,a", []int{0, 1}, []int{1, 2, 0}},
		{"a,b|2,x|1,y|2,a", []int{1, 0}, []int{2, 0, 1}},
		{"a,b|2,x|10,y|2,a", []int{0}, []int{1, 0, 2}},
		{"a|5|4|3|2|1|0", []int{0}, []int{5, 4, 3, 2, 1, 0}},
		{"a|0|1|2|3|4|5", []int{0}, []int{0, 1, 2, 3, 4, 5}},
		// no columns: all keys are the same
		{"a|b|a|c", nil, []int{0, 1, 2}},
		{"a|b|a|c", []int{}, []int{0, 1, 2}},
		// a column below 0, and one at the head's length
		{"a|b|a|c", []int{-1}, []int{0, 1, 2}},
		{"a|b|a|c", []int{1}, []int{0, 1, 2}},
		{"a|b|a|c", []int{-1, 0}, []int{1, 0, 2}},
		{"a|b|a|c", []int{1, 0}, []int{1, 0, 2}},
		{"a|b|a|c", []int{0, 1, -1}, []int{1, 0, 2}},
		{"a|b|a|c", []int{math.MaxInt, math.MinInt, 0, 1 << 32}, []int{1, 0, 2}},
		// a column that is told twice: the first place of it decides
		{"a,b|2,x|1,y|2,a", []int{0, 0}, []int{1, 0, 2}},
		{"a,b|2,x|1,y|2,a", []int{0, 0, 1}, []int{1, 2, 0}},
		{"a,b|2,x|1,y|2,a", []int{0, 1, 0}, []int{1, 2, 0}},
		{"a,b|2,x|1,y|2,a", []int{1, 0, 1}, []int{2, 0, 1}},
		{"a,b|2,x|1,y|3,x", []int{1, 0, 1, 0}, []int{0, 2, 1}},
		{"a,b|3,x|1,y|2,x", []int{1, 0, 1, 0}, []int{2, 0, 1}},
		{"a,b|3,x|1,y|2,x", []int{0, 1, 1, 0, 0}, []int{1, 2, 0}},
		// rows that are shorter than the head, or longer
		{"a,b|1,x|1|1,", []int{0, 1}, []int{1, 2, 0}},
		{"a,b|1,x|1,|1", []int{0, 1}, []int{1, 2, 0}},
		{"a,b|1,x|^|1", []int{0, 1}, []int{1, 2, 0}},
		{"a,b|1,x|^|1", []int{1, 0}, []int{1, 2, 0}},
		{"a,b|1,x|^|2", []int{1}, []int{1, 2, 0}},
		{"a,b|^|,|^", []int{0, 1}, []int{0, 1, 2}},
		{"a,b|,|^|,", []int{0, 1}, []int{0, 1, 2}},
		{"a|1,y|1,x", []int{0}, []int{0, 1}},
		{"a|1,y|1,x", []int{0, 1}, []int{1, 0}},
		{"a|1,y|1|1,x", []int{1}, []int{1, 2, 0}},
		{"^|b|a", []int{0}, []int{1, 0}},
		// no rows, one row
		{"a,b", []int{0}, nil},
		{"a,b", nil, nil},
		{"^", []int{0}, nil},
		{"a,b|1,x", []int{0, 1}, []int{0}},
		{"a,b|^", []int{0, 1}, []int{0}},
		{"a,b|1,x", nil, []int{0}},
		// rows of the same key stand in order of their numbers
		{"a|b|b|a|b|a", []int{0}, []int{2, 4, 0, 1, 3}},
		{"a|a|a|a|a", []int{0}, []int{0, 1, 2, 3}},
		{"a,b|1,d|0,c|1,b|0,a", []int{0}, []int{1, 3, 0, 2}},
		{"a|c|b|a|c|b|a|c|b|a", []int{0}, []int{2, 5, 8, 1, 4, 7, 0, 3, 6}},
		// cells that are empty stand ahead of all
		{"a|a||b|", []int{0}, []int{1, 3, 0, 2}},
		{"a,b|,b|a,|,a|,", []int{0, 1}, []int{3, 2, 0, 1}},
		{"a,b|,b|a,|,a|,", []int{1, 0}, []int{3, 1, 2, 0}},
		{"a,b,c|,,z|,a,|,,y", []int{0, 1, 2}, []int{2, 0, 1}},
		{"a,b,c|z,,|,z,|,,z", []int{0, 1, 2}, []int{2, 1, 0}},
		{"a,b,c|z,,|,z,|,,z", []int{2, 1, 0}, []int{0, 1, 2}},
		{"a,b,c|,,z|a,,|,b,|,,", []int{1, 0, 2}, []int{3, 0, 1, 2}},
		// bytes above 127, byte by byte
		{"a|\xff|\x7f|\x80|z|\x00", []int{0}, []int{4, 3, 1, 2, 0}},
		{"a|\xc3\xa9|f|e|\xc3\xa8", []int{0}, []int{2, 1, 3, 0}},
		{"a|\xff|\xef\xbf\xbd|\xfe|\x80", []int{0}, []int{3, 1, 2, 0}},
		{"a|\xf0\x9f\x98\x80|\xef\xbf\xbf", []int{0}, []int{1, 0}},
		// a cell is the front of another one
		{"a|ab|a|abc||b", []int{0}, []int{3, 1, 0, 2, 4}},
		{"a|a\x00|a|aa", []int{0}, []int{1, 0, 2}},
		{"a,b|ab,c|a,bc|,abc|abc,", []int{0, 1}, []int{2, 1, 0, 3}},
		{"a,b|ab,c|a,bc|,abc|abc,", []int{1, 0}, []int{3, 2, 1, 0}},
		// letters and numbers are bytes
		{"a|a|B|A|b", []int{0}, []int{2, 1, 0, 3}},
		{"a|10|9|1|02", []int{0}, []int{3, 2, 0, 1}},
	} {
		askBuild(t, of(x.table), x.cols, x.want)
		askInOrder(t, of(x.table), x.cols)
		if want := wantBuild(of(x.table), x.cols); !slices.Equal(want, x.want) {
			t.Errorf("the plain reading of %s and %v is %v, not %v", x.table, x.cols, want, x.want)
		}
	}
}

func TestFindByHand(t *testing.T) {
	const five = "a,b|d,x|b,y|f,x|b,x|d,z"
	for _, x := range []struct {
		table string
		cols  []int
		key   string
		want  int
		ok    bool
	}{
		// there once
		{five, []int{0}, "f", 2, true},
		{five, []int{0, 1}, "d,x", 0, true},
		{five, []int{0, 1}, "b,x", 3, true},
		{five, []int{0, 1}, "b,y", 1, true},
		{five, []int{0, 1}, "d,z", 4, true},
		{five, []int{0, 1}, "f,x", 2, true},
		{five, []int{1, 0}, "z,d", 4, true},
		// there several times: the first one
		{five, []int{0}, "b", 1, true},
		{five, []int{0}, "d", 0, true},
		{five, []int{1}, "x", 0, true},
		{"a|b|a|a|a|b", []int{0}, "a", 1, true},
		{"a|b|a|a|a|b", []int{0}, "b", 0, true},
		{"a|a|a|a|a|a", []int{0}, "a", 0, true},
		{"a|a|a|b|b|c|c", []int{0}, "b", 2, true},
		{"a|a|a|b|b|c|c", []int{0}, "c", 4, true},
		// ahead of all, between two, behind all
		{five, []int{0}, "a", 0, false},
		{five, []int{0}, "", 0, false},
		{five, []int{0}, "c", 0, false},
		{five, []int{0}, "e", 0, false},
		{five, []int{0}, "g", 0, false},
		{five, []int{0}, "\xff", 0, false},
		{five, []int{0, 1}, "b,xx", 0, false},
		{five, []int{0, 1}, "b,z", 0, false},
		{five, []int{0, 1}, "d,y", 0, false},
		{five, []int{0, 1}, "x,d", 0, false},
		{five, []int{0, 1}, "a,x", 0, false},
		{five, []int{0, 1}, "g,x", 0, false},
		// with fewer cells than there are columns, or more
		{five, []int{0}, "^", 0, false},
		{five, []int{0}, "f,x", 0, false},
		{five, []int{0}, "f,", 0, false},
		{five, []int{0, 1}, "f", 0, false},
		{five, []int{0, 1}, "^", 0, false},
		{five, []int{0, 1}, "f,x,", 0, false},
		{five, []int{0, 1}, "b", 0, false},
		{five, nil, "", 0, false},
		{five, nil, "d", 0, false},
		{"a,b|b|a", []int{0, 1}, "a", 0, false},
		{"a,b|b|a", []int{0, 1}, "a,", 1, true},
		{"a,b|b|a", []int{0, 1}, "a,,", 0, false},
		// no columns, and a key of no cells
		{five, nil, "^", 0, true},
		{five, []int{}, "^", 0, true},
		{"a|x", nil, "^", 0, true},
		// an order of no numbers
		{"a,b", []int{0}, "", 0, false},
		{"a,b", []int{0}, "x", 0, false},
		{"a,b", nil, "^", 0, false},
		{"^", nil, "^", 0, false},
		// one row
		{"a,b|1,x", []int{0}, "1", 0, true},
		{"a,b|1,x", []int{0}, "0", 0, false},
		{"a,b|1,x", []int{0}, "2", 0, false},
		{"a,b|1,x", []int{1, 0}, "x,1", 0, true},
		// columns that are not there
		{five, []int{-1}, "", 0, true},
		{five, []int{2}, "", 0, true},
		{five, []int{2}, "x", 0, false},
		{five, []int{0, 2}, "f,", 2, true},
		{five, []int{-1, 0}, ",b", 1, true},
		{five, []int{-1, 0}, "b,", 0, false},
		{five, []int{math.MinInt, 0, math.MaxInt}, ",f,", 2, true},
		// a column that is told twice
		{five, []int{0, 0}, "b,b", 1, true},
		{five, []int{0, 0}, "b,d", 0, false},
		{five, []int{0, 0}, "b", 0, false},
		{five, []int{0, 1, 0}, "d,z,d", 4, true},
		{five, []int{0, 1, 0}, "d,z,", 0, false},
		{five, []int{0, 1, 0}, "d,z,e", 0, false},
		// rows that are shorter than the head, or longer
		{"a,b|1,x|1|^|1,", []int{0, 1}, "1,", 1, true},
		{"a,b|1,x|1|^|1,", []int{0, 1}, ",", 2, true},
		{"a,b|1,x|1|^|1,", []int{1}, "", 1, true},
		{"a|1,y|1,x", []int{0, 1}, "1,x", 1, true},
		{"a|1,y|1,x", []int{0}, "1", 0, true},
		{"a|1,y|1,x", []int{2}, "", 0, true},
		// cells that are empty
		{"a|b||a|", []int{0}, "", 1, true},
		{"a,b|,b|b,|b,b", []int{0, 1}, ",b", 0, true},
		{"a,b|,b|b,|b,b", []int{0, 1}, "b,", 1, true},
		{"a,b|,b|b,|b,b", []int{0, 1}, ",", 0, false},
		// bytes above 127
		{"a|\xff|\x7f|\x80|\xc3\xa9", []int{0}, "\x80", 2, true},
		{"a|\xff|\x7f|\x80|\xc3\xa9", []int{0}, "\xff", 0, true},
		{"a|\xff|\x7f|\x80|\xc3\xa9", []int{0}, "\xc3\xa9", 3, true},
		{"a|\xff|\x7f|\x80|\xc3\xa9", []int{0}, "\xc3", 0, false},
		{"a|\xff|\x7f|\x80|\xc3\xa9", []int{0}, "\xef\xbf\xbd", 0, false},
		// a cell is the front of another one
		{"a|ab|a|abc", []int{0}, "a", 1, true},
		{"a|ab|a|abc", []int{0}, "ab", 0, true},
		{"a|ab|a|abc", []int{0}, "abcd", 0, false},
		{"a|ab|abc", []int{0}, "a", 0, false},
		{"a,b|ab,c|a,bc|,abc", []int{0, 1}, "a,bc", 1, true},
		{"a,b|ab,c|a,bc|,abc", []int{0, 1}, "abc,", 0, false},
	} {
		askFind(t, of(x.table), x.cols, list(x.key), x.want, x.ok)
		if want, ok := wantFind(of(x.table), x.cols, wantBuild(of(x.table), x.cols), list(x.key)); want != x.want || ok != x.ok {
			t.Errorf("the plain reading of %s, %v and %s is %d %t", x.table, x.cols, x.key, want, ok)
		}
	}
}

// Any other order: a number of it that has the key, or 0 and false.
func TestFindInAnyOrderByHand(t *testing.T) {
	const three = "a,b|b,x|a,y|c,x"
	for _, order := range [][]int{
		nil,
		{},
		// below 0, and behind the last row: each of these has empty cells alone
		{-1},
		{3},
		{9, -1},
		{-1, 9},
		{math.MinInt, math.MaxInt},
		{math.MaxInt, 0, math.MinInt},
		{-1, 1, 0, 2, 3},
		{1 << 32, 1<<32 + 1, -1 << 32},
		// a number twice
		{1, 1},
		{1, 1, 0, 0, 2, 2},
		{2, 2, 2, 2, 2},
		// in no order
		{0, 1, 2},
		{2, 1, 0},
		{2, 0, 1},
		{0, 2, 1, 0, 1, 2},
		// not all
		{0},
		{1},
		{2},
		{1, 2},
	} {
		for _, cols := range [][]int{nil, {0}, {1}, {1, 0}, {0, 0}, {-1}, {2, 7}} {
			for _, key := range []string{"^", "", ",", "a", "b", "c", "d", "x", "x,b", "y,a", "x,c", "a,a", "c,c", "b,a", "a,b,c"} {
				askAny(t, of(three), cols, order, list(key))
				askAny(t, of("a,b"), cols, order, list(key))
				askAny(t, of("a,b|^|b"), cols, order, list(key))
			}
		}
	}
}

func TestFindInAllOrders(t *testing.T) {
	for _, s := range []string{"a", "a|x", "a|x|", "a,b|b,x|a,y|b", "a|c|b|a|b"} {
		x := of(s)
		for _, order := range upTo(4, -1, 0, 1, 2, 3, 4) {
			for _, cols := range upTo(2, -1, 0, 1) {
				for _, key := range [][]string{nil, {""}, {"b"}, {"x"}, {"b", ""}, {"", "b"}, {"b", "b"}, {"", ""}} {
					askAny(t, x, cols, order, key)
				}
			}
		}
		if t.Failed() {
			return
		}
	}
}

// Keys stand in one order: either way round, and through a third one; alike are just those with the same cells.
func TestOneOrder(t *testing.T) {
	keys := upTo(3, "", "a", "aa", "b", "\xff")
	for _, a := range keys {
		for _, b := range keys {
			c := wantCompare(a, b)
			askCompare(t, a, b, c)
			if same := slices.Equal(a, b); same != (c == 0) {
				t.Errorf("%q and %q are alike: %t, the same: %t", a, b, c == 0, same)
			}
		}
	}
	if t.Failed() {
		return
	}
	keys = upTo(2, "", "a", "aa", "b", "\x00", "\x7f", "\x80")
	stand := make([][]int, len(keys))
	for i, a := range keys {
		for _, b := range keys {
			stand[i] = append(stand[i], Compare(a, b))
		}
	}
	for i := range keys {
		for k := range keys {
			for n := range keys {
				if stand[i][k] <= 0 && stand[k][n] <= 0 && stand[i][n] != min(stand[i][k], stand[k][n]) {
					t.Fatalf("%q, %q and %q: %d, %d, %d", keys[i], keys[k], keys[n], stand[i][k], stand[k][n], stand[i][n])
				}
			}
		}
	}
}

// Each byte, against each other one: alone, at a cell's end, in a second cell.
func TestAllBytes(t *testing.T) {
	for a := range 256 {
		for b := range 256 {
			want := min(1, max(-1, a-b))
			one, other := string([]byte{byte(a)}), string([]byte{byte(b)})
			askCompare(t, []string{one}, []string{other}, want)
			askCompare(t, []string{"x" + one}, []string{"x" + other}, want)
			askCompare(t, []string{"", one, other}, []string{"", other, one}, want)
		}
	}
	x := api.Table{Head: []string{"a"}}
	var want []int
	for row := range 512 {
		// 77 and 256 have no divisor in common: each byte comes twice.
		x.Rows = append(x.Rows, []string{string([]byte{byte(row * 77)})})
	}
	for b := range 256 {
		for row := range 512 {
			if row*77%256 == b {
				want = append(want, row)
			}
		}
	}
	askBuild(t, x, []int{0}, want)
	for b := range 256 {
		askFind(t, x, []int{0}, []string{string([]byte{byte(b)})}, want[2*b], true)
	}
}

func TestAllSmallTables(t *testing.T) {
	someCols := upTo(3, -1, 0, 1, 2)
	for _, rows := range upTo(3, upTo(2, "", "1", "2")...) {
		x := api.Table{Head: []string{"a", "b"}, Rows: rows}
		for _, cols := range upTo(2, 0, 1, 2) {
			ask(t, x, cols)
		}
		if t.Failed() {
			return
		}
	}
	for _, rows := range upTo(2, upTo(3, "", "1")...) {
		x := api.Table{Head: []string{"a", "b"}, Rows: rows}
		for _, cols := range someCols {
			ask(t, x, cols)
			askInOrder(t, x, cols)
		}
		if t.Failed() {
			return
		}
	}
	for _, rows := range upTo(6, []string{"1"}, []string{"2"}, []string{}) {
		ask(t, api.Table{Head: []string{"a"}, Rows: rows}, []int{0})
	}
}

// mixed is a table of so many columns and rows, without an order, the same whenever asked; some of its rows are shorter, or longer, than its head.
func mixed(cols, rows, cells int, from uint32) api.Table {
	next := func(below int) int {
		from = from*1664525 + 1013904223
		return int(from>>8) % below
	}
	x := api.Table{Head: make([]string, cols)}
	for i := range x.Head {
		x.Head[i] = "c" + strconv.Itoa(i)
	}
	for range rows {
		row := make([]string, cols)
		for i := range row {
			if k := next(cells); k > 0 {
				row[i] = strings.Repeat("\xfe", k%3) + strconv.Itoa(k/3)
			}
		}
		switch next(9) {
		case 0:
			row = row[:cols-1]
		case 1:
			row = append(row, "9")
		}
		x.Rows = append(x.Rows, row)
	}
	return x
}

func TestMixedTables(t *testing.T) {
	for n := uint32(0); n < 400; n++ {
		cols := 1 + int(n%5)
		x := mixed(cols, int(n/5%30), 2+int(n%13), n)
		by := upward(cols)
		slices.Reverse(by)
		for _, l := range [][]int{{0}, {cols - 1}, by, append(by, by...), {cols, 0}, {-1, cols - 1, 0, cols - 1}} {
			ask(t, x, l)
			askInOrder(t, x, l)
		}
		if t.Failed() {
			return
		}
	}
}

// All places of cells: which cell of a key is empty makes a difference, wherever it stands.
func TestEmptyCells(t *testing.T) {
	for n := 1; n <= 6; n++ {
		x := api.Table{}
		for set := range 1 << n {
			row := make([]string, n)
			last := 0
			for i := range n {
				if set>>i&1 == 1 {
					row[i], last = "x", i+1
				}
			}
			// Of each other row that ends with empty cells, these are left out.
			if set%4 < 2 {
				row = row[:last]
			}
			x.Rows = append(x.Rows, row)
		}
		downward := upward(n)
		slices.Reverse(downward)
		// By the last column first, the rows' bits are numbers that rise.
		askBuild(t, x, downward, upward(1<<n))
		ask(t, x, upward(n))
		askInOrder(t, x, upward(n))
		for set := range 1 << n {
			askFind(t, x, downward, wantKey(x, set, downward), set, true)
		}
	}
}

// As many rows as a table may have, and one more, and many more: of unlike keys, of the same key, of some keys.
func TestManyRows(t *testing.T) {
	for _, n := range []int{13, api.MaxRows - 1, api.MaxRows, api.MaxRows + 1, 20000} {
		x := api.Table{Head: []string{"same", "some", "down", "mixed"}}
		for row := range n {
			// The last row has 100000, and each one ahead of it one more: as texts they stand like numbers. 7919 divides none of these numbers of rows.
			x.Rows = append(x.Rows, []string{"same", strconv.Itoa(row % 5), strconv.Itoa(100000 + n - 1 - row), strconv.Itoa(100000 + row*7919%n)})
		}
		var some []int
		for rest := range 5 {
			for row := rest; row < n; row += 5 {
				some = append(some, row)
			}
		}
		downward := upward(n)
		slices.Reverse(downward)
		mix := make([]int, n)
		for row := range n {
			mix[row*7919%n] = row
		}
		for _, y := range []struct{ cols, want []int }{
			{nil, upward(n)}, {[]int{0}, upward(n)}, {[]int{0, 4, -1}, upward(n)},
			{[]int{1}, some}, {[]int{0, 1, 0}, some},
			{[]int{2}, downward}, {[]int{0, 2, 1}, downward}, {[]int{3}, mix}, {[]int{0, 3, 2}, mix},
		} {
			askBuild(t, x, y.cols, y.want)
			askInOrderFew(t, x, y.cols)
		}
		for rest := range 5 {
			askFind(t, x, []int{1}, []string{strconv.Itoa(rest)}, rest, true)
		}
		askFind(t, x, []int{1}, []string{"5"}, 0, false)
		askFind(t, x, []int{0}, []string{"same"}, 0, true)
		askFind(t, x, []int{2}, []string{"099999"}, 0, false)
		askFind(t, x, []int{2}, []string{"100000"}, n-1, true)
		askFind(t, x, []int{2}, []string{"1000000"}, 0, false)
		askFind(t, x, []int{2}, []string{strconv.Itoa(100000 + n - 1)}, 0, true)
		askFind(t, x, []int{2}, []string{strconv.Itoa(100000 + n)}, 0, false)
	}
}

// askInOrderFew finds some of many rows.
func askInOrderFew(t *testing.T, x api.Table, cols []int) {
	t.Helper()
	order := Build(x, cols)
	first := map[string]int{}
	for _, row := range order {
		key := fmt.Sprintf("%q", wantKey(x, row, cols))
		if _, known := first[key]; !known {
			first[key] = row
		}
	}
	for row := 0; row < len(x.Rows); row += 1 + len(x.Rows)/200 {
		key := wantKey(x, row, cols)
		askFindIn(t, x, cols, order, key, first[fmt.Sprintf("%q", key)], true)
	}
}

// P1: what is far beyond the limits has an end, too.
func TestHuge(t *testing.T) {
	const n = 1 << 18
	x := of("a,b|b,y|a,z|b,x")
	// columns that are told very often, and very many that are not there
	often := slices.Repeat([]int{0}, 1<<22)
	askBuild(t, x, often, []int{1, 0, 2})
	askBuild(t, x, append(often, 1), []int{1, 2, 0})
	askBuild(t, x, upward(1<<22), []int{1, 2, 0})
	askFind(t, x, often, slices.Repeat([]string{"b"}, len(often)), 0, true)
	askFind(t, x, often, []string{"b"}, 0, false)
	askKey(t, x, 0, often, slices.Repeat([]string{"b"}, len(often)))
	// keys that are very long, and alike up to their end
	long := slices.Repeat([]string{"x"}, 1<<22)
	askCompare(t, long, long[1:], 1)
	askCompare(t, long, slices.Clone(long), 0)
	askFind(t, x, []int{0}, long, 0, false)
	// a cell that is very long, and is told often, held against others
	cell := strings.Repeat("x", 1<<24)
	y := api.Table{Head: []string{"a"}, Rows: [][]string{{cell}, {cell[1:]}, {cell}}}
	askBuild(t, y, []int{0}, []int{1, 0, 2})
	askBuild(t, y, often, []int{1, 0, 2})
	askFind(t, y, []int{0}, []string{cell}, 0, true)
	askFind(t, y, []int{0}, []string{cell + "x"}, 0, false)
	askFind(t, y, often, make([]string, len(often)), 0, false)
	// one such cell, and very many rows beside it
	for range n {
		y.Rows = append(y.Rows, []string{"b"})
	}
	y.Rows[0], y.Rows[n/2] = []string{"c"}, []string{cell}
	order := Build(y, []int{0})
	if !slices.IsSortedFunc(order, func(a, b int) int { return wantText(y.Rows[a][0][:1], y.Rows[b][0][:1]) }) {
		t.Error("the rows beside a long cell are in no order")
	}
	askFindIn(t, y, []int{0}, order, []string{"b"}, 3, true)
	// very many rows without a cell, one with very many, and all columns of it
	wide := api.Table{Rows: make([][]string, n)}
	wide.Rows[1], wide.Rows[3] = make([]string, n), make([]string, n)
	wide.Rows[1][n-1], wide.Rows[3][n-1] = "y", "x"
	want := append(slices.Delete(upward(n), 1, 4), 3, 1)
	want = slices.Insert(want, 1, 2)
	askBuild(t, wide, upward(n), want)
	askBuild(t, wide, upward(n-1), upward(n))
	key := make([]string, n)
	askFindIn(t, wide, upward(n), want, key, 0, true)
	key[n-1] = "y"
	askFindIn(t, wide, upward(n), want, key, 1, true)
	// an order that is very long, of rows that are not there
	askAny(t, x, []int{0}, slices.Repeat([]int{-1, math.MaxInt, 2, math.MinInt}, n), []string{"b"})
	askAny(t, x, nil, slices.Repeat([]int{-5}, n), nil)
}

// roomy is a list with more behind it, that is not the list's.
func roomy[T any](l []T, behind T) []T {
	own := slices.Clone(l)
	own = append(own, behind, behind, behind)
	return own[:len(l)]
}

// roomyTable is a table like this one, whose lists all have more behind them.
func roomyTable(x api.Table) api.Table {
	var rows [][]string
	for _, row := range x.Rows {
		rows = append(rows, roomy(row, "behind"))
	}
	return api.Table{Head: roomy(x.Head, "behind"), Rows: roomy(rows, []string{"behind"})}
}

// whole is all that a table holds, and what stands behind its lists.
func whole(x api.Table) string {
	var b strings.Builder
	fmt.Fprintf(&b, "%q;", x.Head[:cap(x.Head)])
	for _, row := range x.Rows[:cap(x.Rows)] {
		fmt.Fprintf(&b, "%q;", row[:cap(row)])
	}
	return b.String()
}

// R3: an argument stays, and what stands behind it.
func TestArgumentsStay(t *testing.T) {
	for _, s := range []string{"^", "a,b", "a,b|2,x|1,y|2,x|1,a", "a,b|2|^|1,x,3|", "a|b|a|b"} {
		for _, l := range [][]int{nil, {0}, {1, 0}, {1, 0, 1, -1, 2}, {7, -7}} {
			x, cols, order, key := roomyTable(of(s)), roomy(l, -7), roomy([]int{2, 0, 1, 0, -1}, -7), roomy(list("2,x"), "behind")
			told := func() string {
				return fmt.Sprint(whole(x), cols[:cap(cols)], order[:cap(order)]) + fmt.Sprintf("%q", key[:cap(key)])
			}
			before := told()
			for row := -1; row <= len(x.Rows); row++ {
				Compare(Key(x, row, cols), key)
				Compare(key, Key(x, row, cols))
			}
			Compare(key, key[:1])
			Find(x, cols, order, key)
			Find(x, cols, order, key[:1])
			Find(x, cols, roomy(Build(x, cols), -7), key)
			Find(x, cols, nil, nil)
			if after := told(); after != before {
				t.Errorf("%s is now %s", before, after)
			}
		}
	}
}

// spoil writes over a list, and over what stands behind it.
func spoil[T any](l []T, by T) {
	l = l[:cap(l)]
	for i := range l {
		l[i] = by
	}
}

// R3: an answer shares no memory with an argument, nor with another answer.
func TestAnswersShareNothing(t *testing.T) {
	x := of("one,two|first,second|third,fourth")
	cols := []int{1, 0, 1}
	first, second := Key(x, 0, cols), Key(x, 0, cols)
	for i, text := range first {
		for _, other := range slices.Concat(x.Rows[0], second, first[:i]) {
			if unsafe.StringData(text) == unsafe.StringData(other) {
				t.Errorf("%q is shared", text)
			}
		}
	}
	spoil(first, "spoilt")
	if want := list("second,first,second"); !slices.Equal(second, want) || !slices.Equal(Key(x, 0, cols), want) {
		t.Errorf("%q is now %q", want, second)
	}
	for _, by := range [][]int{nil, {0}, {0, 1}, {-1}} {
		one, other := Build(x, by), Build(x, by)
		spoil(one, -7)
		if want := []int{0, 1}; !slices.Equal(other, want) || !slices.Equal(Build(x, by), want) {
			t.Errorf("%v is now %v", want, other)
		}
	}
	spoil(Build(x, cols), -7)
	if !slices.Equal(cols, []int{1, 0, 1}) {
		t.Errorf("columns are now %v", cols)
	}
}

// R4: however maps are gone through, and whatever was asked before, a call tells the same.
func TestTheSameAgain(t *testing.T) {
	x, y := mixed(9, 60, 3, 3), mixed(9, 60, 3, 5)
	cols := []int{4, 8, 0, 4, 3, 9, -1}
	want, other := wantBuild(x, cols), wantBuild(y, cols)
	for range 30 {
		askBuild(t, x, cols, want)
		askBuild(t, y, cols, other)
		key := wantKey(x, want[30], cols)
		row, ok := wantFind(x, cols, want, key)
		askFind(t, x, cols, key, row, ok)
	}
}

func FuzzIndex(f *testing.F) {
	f.Add("a|b|a|b", "b", 0, 0, 1)
	f.Add("a,b|2,x|1,y|2,a", "2,x", 0, 1, 2)
	f.Add("a,b|1|^|1,,|,x,y", ",", 1, 0, -1)
	f.Add("a,b,c|,,z|a,,|,b,|,,", "a,,", 2, 0, 1)
	f.Add("a|\xff|\x7f|\x80|\xc3\xa9", "^", 7, 0, 3)
	f.Fuzz(func(t *testing.T, table, key string, first, second, third int) {
		const most = 200
		x, wanted := of(table[:min(len(table), most)]), list(key[:min(len(key), most)])
		x.Rows = x.Rows[:min(len(x.Rows), 40)]
		numbers := []int{first, second, third, 0, third % 3}
		for _, cols := range [][]int{nil, {first}, {first % 4, second % 4}, {third % 3, first % 3, second % 3, third % 3}, numbers} {
			ask(t, x, cols)
			askInOrder(t, x, cols)
			want, ok := wantFind(x, cols, wantBuild(x, cols), wanted)
			askFind(t, x, cols, wanted, want, ok)
			askAny(t, x, cols, numbers, wanted)
			askAny(t, x, cols, numbers, wantKey(x, third, cols))
		}
		askCompare(t, wanted, x.Head, wantCompare(wanted, x.Head))
	})
}

package lcs

import (
	"fmt"
	"slices"
	"strings"
	"testing"

	"tartan/api"
)

// of are pairs of an A and a B each, that are told one behind the other.
func of(numbers ...int) []api.Pair {
	var l []api.Pair
	for i := 0; i+1 < len(numbers); i += 2 {
		l = append(l, api.Pair{A: numbers[i], B: numbers[i+1]})
	}
	return l
}

// texts are the bytes of a word, each as a text.
func texts(word string) []string {
	l := make([]string, len(word))
	for i := range word {
		l[i] = word[i : i+1]
	}
	return l
}

// What follows, up to the first test, is a plain reading of the chapter.

// longest is how long the longest common row is, by all choices of places of a.
func longest(a, b []string) int {
	most := 0
	for choice := range 1 << len(a) {
		var chosen []string
		for i, text := range a {
			if choice>>i&1 == 1 {
				chosen = append(chosen, text)
			}
		}
		if len(chosen) > most && isWithin(chosen, b) {
			most = len(chosen)
		}
	}
	return most
}

// isWithin tells whether b has these texts in this order, with any others between them.
func isWithin(chosen, b []string) bool {
	for _, text := range b {
		if len(chosen) > 0 && chosen[0] == text {
			chosen = chosen[1:]
		}
	}
	return len(chosen) == 0
}

// wantPairs is the row that the chapter tells, where long is asked for how long a row can be behind a place of a and one of b.
func wantPairs(a, b []string, long func(i, j int) int) []api.Pair {
	var row []api.Pair
	i, j := 0, 0
	for i < len(a) && j < len(b) {
		if a[i] == b[j] {
			row = append(row, api.Pair{A: i, B: j})
			i, j = i+1, j+1
			continue
		}
		if long(i+1, j) >= long(i, j+1) {
			i++
		} else {
			j++
		}
	}
	return row
}

// byChoices asks all choices, so that it is for short lists alone.
func byChoices(a, b []string) func(i, j int) int {
	return func(i, j int) int { return longest(a[i:], b[j:]) }
}

// byMemory keeps what was asked, so that it is for longer ones.
func byMemory(a, b []string) func(i, j int) int {
	known := map[api.Pair]int{}
	var long func(i, j int) int
	long = func(i, j int) int {
		if i == len(a) || j == len(b) {
			return 0
		}
		at := api.Pair{A: i, B: j}
		if n, ok := known[at]; ok {
			return n
		}
		n := max(long(i+1, j), long(i, j+1))
		if a[i] == b[j] {
			n = max(n, long(i+1, j+1)+1)
		}
		known[at] = n
		return n
	}
	return long
}

// short is the beginning of what may be long.
func short(x any) string {
	return fmt.Sprintf("%.200s", fmt.Sprintf("%q", x))
}

// ask holds what both calls tell against the plain reading.
func ask(t *testing.T, a, b []string, long func(i, j int) int) {
	t.Helper()
	want := wantPairs(a, b, long)
	if got := Pairs(a, b); !slices.Equal(got, want) {
		t.Errorf("Pairs(%s, %s): %.200s, not %.200s", short(a), short(b), fmt.Sprint(got), fmt.Sprint(want))
	}
	if got := Length(a, b); got != long(0, 0) {
		t.Errorf("Length(%s, %s): %d, not %d", short(a), short(b), got, long(0, 0))
	}
}

// askRow asks whether what Pairs tells is a common row, and as long as Length tells.
func askRow(t *testing.T, a, b []string) {
	t.Helper()
	row := Pairs(a, b)
	if n := Length(a, b); len(row) != n {
		t.Errorf("Pairs(%s, %s): %d pairs, not %d", short(a), short(b), len(row), n)
	}
	last := api.Pair{A: -1, B: -1}
	for _, p := range row {
		switch {
		case p.A <= last.A || p.B <= last.B || p.A >= len(a) || p.B >= len(b):
			t.Fatalf("Pairs(%s, %s): %v behind %v", short(a), short(b), p, last)
		case a[p.A] != b[p.B]:
			t.Fatalf("Pairs(%s, %s): %v is of texts that are not alike", short(a), short(b), p)
		}
		last = p
	}
}

// lists are all lists of up to n of these.
func lists(n int, of ...string) [][]string {
	all, from := [][]string{nil}, 0
	for range n {
		to := len(all)
		for _, l := range all[from:to] {
			for _, x := range of {
				all = append(all, append(slices.Clone(l), x))
			}
		}
		from = to
	}
	return all
}

func TestByHand(t *testing.T) {
	for _, x := range []struct {
		a, b string
		want []api.Pair
	}{
		// the chapter's two examples
		{"abc", "bca", of(1, 0, 2, 1)},
		{"ab", "ba", of(1, 0)},
		// no texts on one side, and on both
		{"", "", nil},
		{"a", "", nil},
		{"", "a", nil},
		{"abc", "", nil},
		{"", "abc", nil},
		// one text
		{"a", "a", of(0, 0)},
		{"a", "b", nil},
		{"a", "bab", of(0, 1)},
		{"bab", "a", of(1, 0)},
		// alike
		{"abc", "abc", of(0, 0, 1, 1, 2, 2)},
		{"aabba", "aabba", of(0, 0, 1, 1, 2, 2, 3, 3, 4, 4)},
		// nothing in common
		{"abc", "def", nil},
		{"aaa", "bb", nil},
		// one is the front of the other, its end, its middle
		{"ab", "abcd", of(0, 0, 1, 1)},
		{"abcd", "ab", of(0, 0, 1, 1)},
		{"cd", "abcd", of(0, 2, 1, 3)},
		{"abcd", "cd", of(2, 0, 3, 1)},
		{"bc", "abcd", of(0, 1, 1, 2)},
		{"abcd", "bc", of(1, 0, 2, 1)},
		// or stands in it bit by bit
		{"ace", "abcde", of(0, 0, 1, 2, 2, 4)},
		{"abcde", "ace", of(0, 0, 2, 1, 4, 2)},
		// texts that come twice, on one side and on both
		{"aa", "a", of(0, 0)},
		{"a", "aa", of(0, 0)},
		{"aba", "a", of(0, 0)},
		{"baab", "a", of(1, 0)},
		{"a", "baab", of(0, 1)},
		{"aaa", "aa", of(0, 0, 1, 1)},
		{"aab", "aba", of(0, 0, 2, 1)},
		{"abab", "baba", of(1, 0, 2, 1, 3, 2)},
		{"abcabba", "cbabac", of(2, 0, 4, 1, 5, 3, 6, 4)},
		// first texts that are alike are paired, though a longer row seems to pass them by
		{"xabc", "xxabc", of(0, 0, 1, 2, 2, 3, 3, 4)},
		{"xxabc", "xabc", of(0, 0, 2, 1, 3, 2, 4, 3)},
		{"xabx", "xxab", of(0, 0, 1, 2, 2, 3)},
		{"xyxz", "xz", of(0, 0, 3, 1)},
		{"xz", "xyxz", of(0, 0, 1, 3)},
		// and the same behind one that was passed by
		{"qxyxz", "xz", of(1, 0, 4, 1)},
		{"xz", "qxyxz", of(0, 1, 1, 4)},
		// a tie: on behind a's first text
		{"abcd", "cdab", of(2, 0, 3, 1)},
		{"xx", "zx", of(1, 1)},
		{"ax", "xb", of(1, 0)},
		{"apbq", "paqb", of(1, 0, 3, 2)},
		// a tie of nothing
		{"ab", "cd", nil},
		// one step behind b's
		{"abcd", "dabc", of(0, 1, 1, 2, 2, 3)},
		{"ab", "cab", of(0, 1, 1, 2)},
		{"ab", "xa", of(0, 1)},
		{"abc", "bac", of(1, 0, 2, 2)},
		{"abcx", "xabc", of(0, 1, 1, 2, 2, 3)},
		// both, in turn
		{"abxcd", "bycdx", of(1, 0, 3, 2, 4, 3)},
		{"pabq", "rasb", of(1, 1, 2, 3)},
	} {
		a, b := texts(x.a), texts(x.b)
		if got := Pairs(a, b); !slices.Equal(got, x.want) {
			t.Errorf("Pairs(%s, %s): %v, not %v", x.a, x.b, got, x.want)
		}
		if got := Length(a, b); got != len(x.want) {
			t.Errorf("Length(%s, %s): %d, not %d", x.a, x.b, got, len(x.want))
		}
		ask(t, a, b, byChoices(a, b))
	}
}

// Texts are bytes, compared byte by byte, however long and whatever they are.
func TestAnyTexts(t *testing.T) {
	for _, x := range []struct {
		a, b []string
		want []api.Pair
	}{
		// empty texts
		{[]string{""}, []string{""}, of(0, 0)},
		{[]string{""}, nil, nil},
		{[]string{}, []string{""}, nil},
		{[]string{}, []string{}, nil},
		{[]string{"", "a"}, []string{"a", ""}, of(1, 0)},
		{[]string{"", "", "a"}, []string{"", "a"}, of(0, 0, 2, 1)},
		{[]string{"a"}, []string{""}, nil},
		// not valid UTF-8: one wrong byte is not another one, nor what stands for it
		{[]string{"\xff"}, []string{"\xff"}, of(0, 0)},
		{[]string{"\xff"}, []string{"\xfe"}, nil},
		{[]string{"\xff"}, []string{"\uFFFD"}, nil},
		{[]string{"\xc3", "\xa9"}, []string{"\u00e9"}, nil},
		{[]string{"\xff", "\xc3"}, []string{"\xc3", "\xff"}, of(1, 0)},
		{[]string{"a\x80", "a"}, []string{"a", "a\x80", "a"}, of(0, 1, 1, 2)},
		// written otherwise, it is another text
		{[]string{"\u00e9"}, []string{"e\u0301"}, nil},
		{[]string{"A"}, []string{"a"}, nil},
		{[]string{"a "}, []string{"a"}, nil},
		{[]string{"\x00"}, []string{""}, nil},
		{[]string{"a\x00b"}, []string{"a\x00c"}, nil},
		// where one text ends is told
		{[]string{"ab", "c"}, []string{"a", "bc"}, nil},
		{[]string{"a,b"}, []string{"a", "b"}, nil},
		// a text and the front of it
		{[]string{"a", "ab", "abc"}, []string{"abc", "ab", "a"}, of(2, 0)},
		{[]string{"a\nb", "\"", ","}, []string{",", "a\nb", "\""}, of(0, 1, 1, 2)},
	} {
		if got := Pairs(x.a, x.b); !slices.Equal(got, x.want) {
			t.Errorf("Pairs(%q, %q): %v, not %v", x.a, x.b, got, x.want)
		}
		if got := Length(x.a, x.b); got != len(x.want) {
			t.Errorf("Length(%q, %q): %d, not %d", x.a, x.b, got, len(x.want))
		}
		ask(t, x.a, x.b, byChoices(x.a, x.b))
	}
}

// No common row is longer, at all short lists; and it is the one that the chapter tells.
func TestAllShortLists(t *testing.T) {
	for _, all := range [][][]string{
		lists(4, "a", "b", "c"),
		lists(6, "a", "b"),
		lists(3, "", "\xff", "a", "aa", "\xfe"),
	} {
		for _, a := range all {
			for _, b := range all {
				askRow(t, a, b)
				if long := byMemory(a, b); longest(a, b) != long(0, 0) {
					t.Fatalf("the plain readings of %q, %q differ", a, b)
				} else {
					ask(t, a, b, long)
				}
			}
		}
	}
}

func TestOneListIsLonger(t *testing.T) {
	for _, a := range lists(9, "a", "b") {
		for _, b := range lists(2, "a", "b", "c") {
			askRow(t, a, b)
			askRow(t, b, a)
			ask(t, a, b, byMemory(a, b))
			ask(t, b, a, byMemory(b, a))
		}
	}
}

// all puts lists together, in memory of its own.
func all(l ...[]string) []string {
	return slices.Concat(l...)
}

// askAdds asks whether what is common at the front and at the end adds just as much, and whether sides may change places.
func askAdds(t *testing.T, a, b, more []string) {
	t.Helper()
	n := Length(a, b)
	if got := Length(b, a); got != n {
		t.Errorf("Length(%s, %s): %d, but %d the other way round", short(a), short(b), n, got)
	}
	if got := Length(all(more, a), all(more, b)); got != n+len(more) {
		t.Errorf("Length of %s, %s, both behind %s: %d, not %d", short(a), short(b), short(more), got, n+len(more))
	}
	if got := Length(all(a, more), all(b, more)); got != n+len(more) {
		t.Errorf("Length of %s, %s, both ahead of %s: %d, not %d", short(a), short(b), short(more), got, n+len(more))
	}
	// at the front it is paired with itself, and the row behind it is the one that it was
	want := make([]api.Pair, 0, n+len(more))
	for i := range more {
		want = append(want, api.Pair{A: i, B: i})
	}
	for _, p := range Pairs(a, b) {
		want = append(want, api.Pair{A: p.A + len(more), B: p.B + len(more)})
	}
	if got := Pairs(all(more, a), all(more, b)); !slices.Equal(got, want) {
		t.Errorf("Pairs of %s, %s, both behind %s: %.200s, not %.200s", short(a), short(b), short(more), fmt.Sprint(got), fmt.Sprint(want))
	}
	askRow(t, all(a, more), all(b, more))
}

func TestWhatIsCommonAdds(t *testing.T) {
	for _, a := range lists(3, "a", "b", "c") {
		for _, b := range lists(3, "a", "b", "c") {
			for _, more := range lists(2, "a", "b", "") {
				askAdds(t, a, b, more)
			}
		}
	}
}

// mixed are n of so many texts, without an order, the same whenever asked.
func mixed(n, kinds int, from uint32) []string {
	l := make([]string, n)
	for i := range l {
		from = from*1664525 + 1013904223
		l[i] = fmt.Sprint(int(from>>8) % kinds)
	}
	return l
}

// rising are n texts, none of them twice.
func rising(n int) []string {
	l := make([]string, n)
	for i := range l {
		l[i] = fmt.Sprint(i)
	}
	return l
}

func TestLongerLists(t *testing.T) {
	for _, n := range []int{15, 16, 17, 24, 25, 26, 99, 100, 101} {
		for _, kinds := range []int{1, 2, 5, 60, 1000} {
			a := mixed(n, kinds, uint32(kinds))
			for k, m := range []int{n, n - 3, n + 2, 7, 1} {
				b := mixed(m, kinds, uint32(n+k))
				ask(t, a, b, byMemory(a, b))
				ask(t, b, a, byMemory(b, a))
				askRow(t, a, b)
				askAdds(t, a, b, mixed(4, 3, uint32(m)))
			}
		}
	}
}

// As many as a table may have rows, and one more: told by how they were made.
func TestRowsOfATable(t *testing.T) {
	for _, n := range []int{api.MaxRows - 1, api.MaxRows, api.MaxRows + 1} {
		a := rising(n)
		askRow(t, a, a)
		if got := Length(a, a); got != n {
			t.Errorf("%d of %d that are alike", got, n)
		}
		// each seventh one is gone, and one is new behind each fifth one
		var b []string
		var want []api.Pair
		for i, text := range a {
			if i%7 != 3 {
				want = append(want, api.Pair{A: i, B: len(b)})
				b = append(b, text)
			}
			if i%5 == 2 {
				b = append(b, "new")
			}
		}
		if got := Pairs(a, b); !slices.Equal(got, want) {
			t.Errorf("Pairs of %d, some gone, some new: %.200s, not %.200s", n, fmt.Sprint(got), fmt.Sprint(want))
		}
		ask(t, a, b, byMemory(a, b))
		// of what is turned round one is left: the last one of a, as each tie passes a's by
		back := slices.Clone(a)
		slices.Reverse(back)
		if got := Pairs(a, back); !slices.Equal(got, of(n-1, 0)) {
			t.Errorf("Pairs of %d, turned round: %.200s", n, fmt.Sprint(got))
		}
	}
}

func TestVeryLongLists(t *testing.T) {
	const n = 8000
	a := rising(n)
	back := slices.Clone(a)
	slices.Reverse(back)
	if got := Pairs(a, back); !slices.Equal(got, of(n-1, 0)) {
		t.Errorf("Pairs of %d, turned round: %.200s", n, fmt.Sprint(got))
	}
	// what stood in front stands at the end
	const cut = 3000
	moved := all(a[cut:], a[:cut])
	row := Pairs(a, moved)
	if len(row) != n-cut || row[0] != (api.Pair{A: cut, B: 0}) || row[n-cut-1] != (api.Pair{A: n - 1, B: n - cut - 1}) {
		t.Errorf("Pairs of %d, moved: %d of them, %.200s", n, len(row), fmt.Sprint(row))
	}
	askRow(t, mixed(3000, 40, 1), mixed(3003, 40, 2))
}

// With one side short the other one may be as long as it likes.
func TestOneListIsVeryLong(t *testing.T) {
	const n = 100000
	a := rising(n)
	b := []string{"7", "none", "99998", "99999", "7"}
	if got, want := Pairs(a, b), of(7, 0, n-2, 2, n-1, 3); !slices.Equal(got, want) {
		t.Errorf("Pairs: %v, not %v", got, want)
	}
	if got, want := Pairs(b, a), of(0, 7, 2, n-2, 3, n-1); !slices.Equal(got, want) {
		t.Errorf("Pairs the other way round: %v, not %v", got, want)
	}
	if x, y := Length(a, b), Length(b, a); x != 3 || y != 3 {
		t.Errorf("Length: %d and %d, not 3", x, y)
	}
	for _, none := range [][]string{nil, {}, {"none"}} {
		if x, y := Pairs(a, none), Pairs(none, a); len(x)+len(y)+Length(a, none)+Length(none, a) != 0 {
			t.Errorf("%v and %v with %q", x, y, none)
		}
	}
}

// Texts that are alike up to their last bytes are not held against each other again and again.
func TestVeryLongTexts(t *testing.T) {
	const n = 300
	front := strings.Repeat("x", 200000)
	var a, b []string
	for i := range n {
		a = append(a, front+fmt.Sprint(1000+i))
		b = append(b, front+fmt.Sprint(1000+i/2*3))
	}
	x, y := make([]string, n), make([]string, n)
	for i := range n {
		x[i], y[i] = a[i][len(front):], b[i][len(front):]
	}
	if got, want := Pairs(a, b), Pairs(x, y); !slices.Equal(got, want) {
		t.Errorf("Pairs of long texts: %.200s, not %.200s", fmt.Sprint(got), fmt.Sprint(want))
	}
	if got := Length(a, b); got != n/3 {
		t.Errorf("Length of long texts: %d, not %d", got, n/3)
	}
}

// roomy is a list with a few more behind it, that are not the list's.
func roomy(l []string) []string {
	own := slices.Grow(slices.Clone(l), 4)
	behind := own[len(l):cap(own)]
	for i := range behind {
		behind[i] = "behind"
	}
	return own
}

// spoil writes over a list, and over what stands behind it.
func spoil[T any](l []T, by T) {
	l = l[:cap(l)]
	for i := range l {
		l[i] = by
	}
}

func TestAnswersShareNothing(t *testing.T) {
	for _, x := range [][2]string{
		{"", ""},
		{"a", ""},
		{"a", "a"},
		{"abc", "bca"},
		{"abcde", "abcde"},
		{"aabbaabb", "abababab"},
	} {
		a, b := roomy(texts(x[0])), roomy(texts(x[1]))
		before := fmt.Sprintf("%q %q", a[:cap(a)], b[:cap(b)])
		first, second := Pairs(a, b), Pairs(a, b)
		Length(a, b)
		want := fmt.Sprint(second)
		spoil(first, api.Pair{A: -77, B: -78})
		if now := fmt.Sprintf("%q %q", a[:cap(a)], b[:cap(b)]); now != before {
			t.Errorf("the arguments were %s, and are %s", before, now)
		}
		if now := fmt.Sprint(second); now != want {
			t.Errorf("an answer was %s, and is %s", want, now)
		}
		// R4: the same again
		if now := fmt.Sprint(Pairs(a, b)); now != want {
			t.Errorf("told was %s, and then %s", want, now)
		}
		spoil(a, "other")
		spoil(b, "others")
		if now := fmt.Sprint(second); now != want {
			t.Errorf("an answer was %s, and is %s with other arguments", want, now)
		}
	}
}

// Who goes through the pairs may leave them.
func TestPairsAreLeft(t *testing.T) {
	a, b := texts("abcabba"), texts("cbabac")
	whole := Pairs(a, b)
	for n := range whole {
		var row []api.Pair
		for i, j := range common(numbered(a, b)) {
			row = append(row, api.Pair{A: i, B: j})
			if len(row) > n {
				break
			}
		}
		if !slices.Equal(row, whole[:n+1]) {
			t.Errorf("%d of %v: %v", n+1, whole, row)
		}
	}
}

// One list may be both arguments, or a piece of the other one.
func TestArgumentsThatShare(t *testing.T) {
	l := texts("abcabc")
	for i := range l {
		for j := range l {
			a, b := l[i:], l[:j]
			ask(t, a, b, byChoices(a, b))
		}
	}
	if got := strings.Join(l, ""); got != "abcabc" {
		t.Errorf("the list is %s", got)
	}
}

func TestTheSameAgain(t *testing.T) {
	a, b := mixed(200, 6, 3), mixed(190, 6, 4)
	first, n := Pairs(a, b), Length(a, b)
	for range 20 {
		if again := Pairs(a, b); !slices.Equal(again, first) || Length(a, b) != n {
			t.Fatalf("%.200s, and then %.200s", fmt.Sprint(first), fmt.Sprint(again))
		}
	}
}

func FuzzLcs(f *testing.F) {
	f.Add("", "", "")
	f.Add("a b c", "b c a", "a")
	f.Add("a b", "b a", "")
	f.Add("a b c a b b a", "c b a b a c", "\xff \xfe")
	f.Fuzz(func(t *testing.T, x, y, z string) {
		const most = 120
		cut := func(text string) []string {
			l := strings.Split(text, " ")
			return l[:min(len(l), most)]
		}
		a, b, more := cut(x), cut(y), cut(z)
		ask(t, a, b, byMemory(a, b))
		askRow(t, a, b)
		askAdds(t, a, b, more)
		a, b = texts(x[:min(len(x), most)]), texts(y[:min(len(y), most)])
		ask(t, a, b, byMemory(a, b))
		askRow(t, a, b)
		askAdds(t, a, b, more)
	})
}

package bag

import (
	"fmt"
	"slices"
	"strings"
	"testing"

	"tartan/api"
)

// texts are the bytes of a word, each as a text.
func texts(word string) []string {
	l := make([]string, len(word))
	for i := range word {
		l[i] = word[i : i+1]
	}
	return l
}

// What follows, up to the first test, is a plain reading of the chapter.

func wantCount(l []string, s string) int {
	n := 0
	for _, text := range l {
		if text == s {
			n++
		}
	}
	return n
}

// wantOverlap is told text by text: each text of a, once, is looked for in both.
func wantOverlap(a, b []string) int {
	n := 0
	for i, text := range a {
		if !slices.Contains(a[:i], text) {
			n += min(wantCount(a, text), wantCount(b, text))
		}
	}
	return n
}

// wantSame asks for each text of both, as one that is in b alone is not as often in a.
func wantSame(a, b []string) bool {
	for _, text := range slices.Concat(a, b) {
		if wantCount(a, text) != wantCount(b, text) {
			return false
		}
	}
	return true
}

// inOrder is a list with its texts in order.
func inOrder(l []string) []string {
	return slices.Sorted(slices.Values(l))
}

// byOrder is how much is in common, told another way, for long lists: both are put in order and gone through at once.
func byOrder(a, b []string) int {
	a, b = inOrder(a), inOrder(b)
	n := 0
	for len(a) > 0 && len(b) > 0 {
		switch c := strings.Compare(a[0], b[0]); {
		case c < 0:
			a = a[1:]
		case c > 0:
			b = b[1:]
		default:
			a, b, n = a[1:], b[1:], n+1
		}
	}
	return n
}

// short is the beginning of what may be long.
func short(x any) string {
	return fmt.Sprintf("%.200s", fmt.Sprintf("%q", x))
}

func askCount(t *testing.T, l []string, s string, want int) {
	t.Helper()
	if got := Count(l, s); got != want {
		t.Errorf("Count(%s, %s): %d, not %d", short(l), short(s), got, want)
	}
}

// askBoth asks Overlap and Same, either way round.
func askBoth(t *testing.T, a, b []string, n int, same bool) {
	t.Helper()
	for range 2 {
		if got := Overlap(a, b); got != n {
			t.Errorf("Overlap(%s, %s): %d, not %d", short(a), short(b), got, n)
		}
		if got := Same(a, b); got != same {
			t.Errorf("Same(%s, %s): %t, not %t", short(a), short(b), got, same)
		}
		a, b = b, a
	}
}

// ask holds all three calls against the plain reading.
func ask(t *testing.T, a, b []string) {
	t.Helper()
	askBoth(t, a, b, wantOverlap(a, b), wantSame(a, b))
	for _, s := range slices.Concat(a, b, []string{"", "none"}) {
		askCount(t, a, s, wantCount(a, s))
		askCount(t, b, s, wantCount(b, s))
	}
}

// lists are all lists of up to n of these.
func lists(n int, of ...string) [][]string {
	all, from := [][]string{nil}, 0
	for range n {
		to := len(all)
		for _, l := range all[from:to] {
			for _, x := range of {
				all = append(all, append(slices.Clone(l), x))
			}
		}
		from = to
	}
	return all
}

func TestExamples(t *testing.T) {
	if got := Overlap([]string{"a", "a", "b"}, []string{"a", "b", "b"}); got != 2 {
		t.Errorf("Overlap of a, a, b and a, b, b: %d, not 2", got)
	}
	if !Same([]string{"a", "b"}, []string{"b", "a"}) {
		t.Error("Same of a, b and b, a: no")
	}
}

func TestCountByHand(t *testing.T) {
	for _, x := range []struct {
		l    []string
		s    string
		want int
	}{
		// no texts
		{nil, "", 0},
		{nil, "a", 0},
		{[]string{}, "", 0},
		{[]string{}, "a", 0},
		// one text
		{[]string{"a"}, "a", 1},
		{[]string{"a"}, "b", 0},
		{[]string{"a"}, "", 0},
		{[]string{""}, "", 1},
		{[]string{""}, "a", 0},
		// ordinary lists: at the front, within, at the end, more than once, all of it
		{[]string{"id", "name", "town"}, "id", 1},
		{[]string{"id", "name", "town"}, "name", 1},
		{[]string{"id", "name", "town"}, "town", 1},
		{[]string{"id", "name", "town"}, "title", 0},
		{[]string{"a", "b", "a", "a", "c"}, "a", 3},
		{[]string{"a", "b", "a", "a", "c"}, "c", 1},
		{[]string{"a", "a", "a", "a"}, "a", 4},
		{[]string{"", "a", ""}, "", 2},
		{[]string{"", "a", ""}, "a", 1},
		// a text is not what it begins with, ends with or holds
		{[]string{"ab", "abc", "b", "bc"}, "b", 1},
		{[]string{"ab", "abc", "b", "bc"}, "a", 0},
		{[]string{"aa", "aaa"}, "a", 0},
		{[]string{"a", "aa"}, "aaa", 0},
		{[]string{"A", "a ", " a", "a"}, "a", 1},
		// not valid UTF-8: one wrong byte is not another one, nor what stands for it
		{[]string{"\xff", "\xfe", "\uFFFD", "\xff"}, "\xff", 2},
		{[]string{"\xff", "\xfe", "\uFFFD", "\xff"}, "\uFFFD", 1},
		{[]string{"\xff\xfe", "\xfe\xff"}, "\xfe\xff", 1},
		{[]string{"\xc3", "\xa9"}, "\u00e9", 0},
		{[]string{"\u00e9"}, "e\u0301", 0},
		{[]string{"\x00", ""}, "\x00", 1},
		{[]string{"a\x00b", "a\x00c"}, "a\x00b", 1},
	} {
		askCount(t, x.l, x.s, x.want)
	}
}

func TestBothByHand(t *testing.T) {
	for _, x := range []struct {
		a, b []string
		n    int
		same bool
	}{
		// no texts on both sides, and on one
		{nil, nil, 0, true},
		{nil, []string{}, 0, true},
		{[]string{}, []string{}, 0, true},
		{nil, []string{"a"}, 0, false},
		{[]string{}, []string{""}, 0, false},
		{nil, []string{"a", "b", "a"}, 0, false},
		// one text
		{[]string{"a"}, []string{"a"}, 1, true},
		{[]string{"a"}, []string{"b"}, 0, false},
		{[]string{"a"}, []string{""}, 0, false},
		{[]string{""}, []string{""}, 1, true},
		{[]string{"a"}, []string{"b", "a", "c"}, 1, false},
		// alike, and alike but for their order
		{[]string{"a", "b", "c"}, []string{"a", "b", "c"}, 3, true},
		{[]string{"a", "b", "c"}, []string{"c", "a", "b"}, 3, true},
		{[]string{"a", "a", "b"}, []string{"a", "b", "a"}, 3, true},
		{[]string{"id", "name", "town"}, []string{"town", "id", "name"}, 3, true},
		// nothing in common
		{[]string{"a", "b"}, []string{"c", "d"}, 0, false},
		{[]string{"a", "a"}, []string{"b", "b"}, 0, false},
		{[]string{"a", "b", "c"}, []string{"d"}, 0, false},
		// something in common
		{[]string{"id", "name", "town"}, []string{"id", "title", "town", "land"}, 2, false},
		{[]string{"a", "b", "c"}, []string{"c", "d", "e"}, 1, false},
		// twice on one side alone
		{[]string{"a", "a"}, []string{"a"}, 1, false},
		{[]string{"a", "a", "b"}, []string{"a", "b"}, 2, false},
		{[]string{"a", "a"}, []string{"b", "c"}, 0, false},
		// twice on both
		{[]string{"a", "a"}, []string{"a", "a"}, 2, true},
		{[]string{"a", "b", "a"}, []string{"c", "a", "a"}, 2, false},
		{[]string{"a", "a", "b", "b"}, []string{"b", "a", "b", "a"}, 4, true},
		// more often on one side than on the other
		{[]string{"a", "a", "a"}, []string{"a", "a"}, 2, false},
		{[]string{"a", "a", "a", "a", "b"}, []string{"b", "b", "b", "a", "a"}, 3, false},
		{[]string{"a", "a", "b", "b", "c"}, []string{"a", "b", "c", "c", "d"}, 3, false},
		// as many texts, and the same ones, but not as often
		{[]string{"a", "a", "b"}, []string{"a", "b", "b"}, 2, false},
		{[]string{"a", "a", "b", "c"}, []string{"a", "b", "c", "c"}, 3, false},
		// as many texts that are not the same
		{[]string{"a", "b", "c"}, []string{"a", "b", "d"}, 2, false},
		{[]string{"a", "a", "c"}, []string{"a", "b", "d"}, 1, false},
		// the same texts, and not as long
		{[]string{"a", "b", "a", "b"}, []string{"a", "b"}, 2, false},
		{[]string{"a", "b", "c", "c"}, []string{"c", "b", "a"}, 3, false},
		// empty texts
		{[]string{"", ""}, []string{""}, 1, false},
		{[]string{"", "a"}, []string{"a", ""}, 2, true},
		{[]string{"", "", "a"}, []string{"", "a", "a"}, 2, false},
		{[]string{"", "a"}, []string{"a"}, 1, false},
		// not valid UTF-8
		{[]string{"\xff"}, []string{"\xff"}, 1, true},
		{[]string{"\xff"}, []string{"\xfe"}, 0, false},
		{[]string{"\xff"}, []string{"\uFFFD"}, 0, false},
		{[]string{"\xff", "\xfe", "\xff"}, []string{"\xfe", "\xff", "\xfe"}, 2, false},
		{[]string{"\xc3", "\xa9"}, []string{"\xa9", "\xc3"}, 2, true},
		{[]string{"\xc3", "\xa9"}, []string{"\u00e9"}, 0, false},
		{[]string{"\u00e9"}, []string{"e\u0301"}, 0, false},
		// a text is a whole one: not what it begins with, nor two put together
		{[]string{"A"}, []string{"a"}, 0, false},
		{[]string{"a "}, []string{"a"}, 0, false},
		{[]string{"\x00"}, []string{""}, 0, false},
		{[]string{"ab", "c"}, []string{"a", "bc"}, 0, false},
		{[]string{"a,b", "\"", "\n"}, []string{"\n", "a,b", "\""}, 3, true},
	} {
		askBoth(t, x.a, x.b, x.n, x.same)
		ask(t, x.a, x.b)
	}
}

func TestAllShortLists(t *testing.T) {
	for _, all := range [][][]string{
		lists(4, "a", "b", "c"),
		lists(6, "a", "b"),
		lists(3, "", "\xff", "a", "aa", "\xfe"),
	} {
		for _, a := range all {
			for _, b := range all {
				ask(t, a, b)
				if n := byOrder(a, b); n != wantOverlap(a, b) {
					t.Fatalf("the plain readings of %q, %q differ", a, b)
				}
			}
		}
	}
}

func TestOneListIsLonger(t *testing.T) {
	for _, a := range lists(9, "a", "b") {
		for _, b := range lists(2, "a", "b", "c") {
			ask(t, a, b)
		}
	}
}

// Each order of a list is among all of them: each comes to the same as the one that is in order.
func TestOrderIsNotAsked(t *testing.T) {
	all := lists(5, "a", "", "\xff")
	for i, a := range all {
		for _, b := range [][]string{all[(i*7+3)%len(all)], all[len(all)-1-i], nil, a, texts("aaab")} {
			askBoth(t, a, b, Overlap(inOrder(a), inOrder(b)), Same(inOrder(a), inOrder(b)))
		}
		askBoth(t, a, inOrder(a), len(a), true)
		for _, s := range []string{"a", "", "\xff", "b"} {
			askCount(t, a, s, Count(inOrder(a), s))
		}
	}
}

// put is a list with a text more, ahead of what stands at that place.
func put(l []string, at int, s string) []string {
	return slices.Insert(slices.Clone(l), at, s)
}

// askPut puts a text into both, and into one of them, and asks what that adds.
func askPut(t *testing.T, a, b []string, i, j int, s string) {
	t.Helper()
	n, same := Overlap(a, b), Same(a, b)
	inA, inB := wantCount(a, s), wantCount(b, s)
	toA, toB := put(a, i, s), put(b, j, s)
	askBoth(t, toA, toB, n+1, same)
	adds := func(isMore bool) int {
		if isMore {
			return n + 1
		}
		return n
	}
	askBoth(t, toA, b, adds(inB > inA), wantSame(toA, b))
	askBoth(t, a, toB, adds(inA > inB), wantSame(a, toB))
	askCount(t, toA, s, inA+1)
	askCount(t, toB, s, inB+1)
	askCount(t, toA, s+"more", wantCount(a, s+"more"))
	if same && (Same(toA, b) || Same(a, toB)) {
		t.Errorf("%s and %s are the same, and are it still with %s in one alone", short(a), short(b), short(s))
	}
}

func TestWhatIsPutInAdds(t *testing.T) {
	for _, a := range lists(3, "a", "b", "") {
		for _, b := range lists(3, "a", "b", "") {
			for _, s := range []string{"a", "", "c", "\xff"} {
				for i := range len(a) + 1 {
					askPut(t, a, b, i, len(b)-min(i, len(b)), s)
				}
			}
		}
	}
}

// mixed are n of so many texts, without an order, the same whenever asked.
func mixed(n, kinds int, from uint32) []string {
	l := make([]string, n)
	for i := range l {
		from = from*1664525 + 1013904223
		l[i] = fmt.Sprint(int(from>>8) % kinds)
	}
	return l
}

func TestLongerLists(t *testing.T) {
	for _, n := range []int{7, 8, 9, 15, 16, 17, 100, api.MaxRows - 1, api.MaxRows, api.MaxRows + 1} {
		for _, kinds := range []int{1, 2, 9, 300, 5000} {
			a := mixed(n, kinds, uint32(kinds))
			for k, m := range []int{n, n - 3, n + 2, 1} {
				b := mixed(m, kinds, uint32(n+k))
				ask(t, a, b)
				askBoth(t, a, b, byOrder(a, b), slices.Equal(inOrder(a), inOrder(b)))
				askPut(t, a, b, n/2, m/2, b[0])
				askPut(t, a, b, n, 0, a[0])
			}
			back := slices.Clone(a)
			slices.Reverse(back)
			askBoth(t, a, back, n, true)
			back[n/2] += "other"
			askBoth(t, a, back, n-1, false)
		}
	}
}

func TestVeryLongLists(t *testing.T) {
	const n = 400000
	for _, kinds := range []int{1, 3, 5000, 1 << 20} {
		a, b := mixed(n, kinds, 1), mixed(n-n/7, kinds, 2)
		askBoth(t, a, b, byOrder(a, b), false)
		askCount(t, a, b[0], wantCount(a, b[0]))
		askCount(t, a, "none", 0)
		back := slices.Clone(a)
		slices.Reverse(back)
		askBoth(t, a, back, n, true)
		askBoth(t, a, nil, 0, false)
		askBoth(t, a, []string{"none", a[n-1]}, 1, false)
	}
}

func TestVeryLongTexts(t *testing.T) {
	const n = 200
	front := strings.Repeat("x", 200000)
	var a, b []string
	for i := range n {
		a = append(a, front+fmt.Sprint(i/2))
		b = append(b, front+fmt.Sprint(i*2))
	}
	// of a each number up to 99 is there twice, of b each even one once
	askBoth(t, a, b, n/4, false)
	askCount(t, a, b[3], 2)
	askCount(t, b, a[13], 1)
	askCount(t, b, a[14], 0)
	askCount(t, b, front, 0)
}

// roomy is a list with a few more behind it, that are not the list's.
func roomy(l []string) []string {
	own := slices.Grow(slices.Clone(l), 4)
	behind := own[len(l):cap(own)]
	for i := range behind {
		behind[i] = "a"
	}
	return own
}

func TestArgumentsStay(t *testing.T) {
	for _, x := range [][2]string{
		{"", ""},
		{"a", ""},
		{"a", "a"},
		{"cab", "bca"},
		{"cab", "bcd"},
		{"bbaabbaa", "abababab"},
		{"zyxzyxa", "aaz"},
	} {
		a, b := roomy(texts(x[0])), roomy(texts(x[1]))
		told := func() string { return fmt.Sprintf("%q %q", a[:cap(a)], b[:cap(b)]) }
		before := told()
		ask(t, a, b)
		if now := told(); now != before {
			t.Errorf("the arguments were %s, and are %s", before, now)
		}
	}
}

// What one call was given is not told in another one.
func TestNothingIsKept(t *testing.T) {
	a, b := texts("abcab"), texts("bcabd")
	askBoth(t, a, b, 4, false)
	askCount(t, a, "a", 2)
	askBoth(t, b, texts("abbcd"), 5, true)
	a[0], b[0] = "d", "x"
	askBoth(t, a, b, 4, false)
	askCount(t, a, "a", 1)
	askCount(t, a, "d", 1)
}

// One list may be both arguments, or a piece of the other one.
func TestArgumentsThatShare(t *testing.T) {
	l := texts("abcabca")
	for i := range len(l) + 1 {
		for j := range len(l) + 1 {
			ask(t, l[i:], l[:j])
		}
	}
	askBoth(t, l, l, len(l), true)
	if got := strings.Join(l, ""); got != "abcabca" {
		t.Errorf("the list is %s", got)
	}
}

// However its maps are gone through, a call tells the same again.
func TestTheSameAgain(t *testing.T) {
	a, b := mixed(500, 60, 3), mixed(500, 60, 4)
	n := wantOverlap(a, b)
	for range 50 {
		askBoth(t, a, b, n, false)
		askCount(t, a, b[7], wantCount(a, b[7]))
	}
}

func FuzzBag(f *testing.F) {
	f.Add("", "", "")
	f.Add("a a b", "a b b", "a")
	f.Add("a b", "b a", "")
	f.Add("a  \xff \xfe", "\xff a  a", "\xff")
	f.Fuzz(func(t *testing.T, x, y, s string) {
		const most = 120
		cut := func(text string) []string {
			l := strings.Split(text, " ")
			return l[:min(len(l), most)]
		}
		both := func(a, b []string) {
			ask(t, a, b)
			askBoth(t, a, b, byOrder(a, b), slices.Equal(inOrder(a), inOrder(b)))
			askPut(t, a, b, len(a)/2, len(b)/3, s)
		}
		both(cut(x), cut(y))
		both(texts(x[:min(len(x), most)]), texts(y[:min(len(y), most)]))
	})
}

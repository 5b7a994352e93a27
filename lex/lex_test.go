package lex

import (
	"math"
	"slices"
	"strings"
	"testing"
	"unsafe"

	"tartan/api"
)

// goods are delims that may stand between fields, bads are those that may not.
var (
	goods = []byte{',', ';', 'a', 0, 255, 12}
	bads  = []byte{34, 13, 10}
)

// texts are all texts of up to n bytes, made of plain bytes and of those that a field may stumble over.
func texts(n int) []string {
	const alphabet = "a,\"\r\n"
	all, from := []string{""}, 0
	for range n {
		to := len(all)
		for _, s := range all[from:to] {
			for i := range len(alphabet) {
				all = append(all, s+alphabet[i:i+1])
			}
		}
		from = to
	}
	return all
}

// told is all that Field answers.
type told struct {
	cell     string
	at, kind int
	errno    api.Errno
}

func field(s string, at int, delim byte) told {
	cell, next, kind, errno := Field(s, at, delim)
	return told{cell, next, kind, errno}
}

// wantEnd is what ends a field at a place, by what the rest of the text begins with.
func wantEnd(s string, at int, delim byte) (int, int, bool) {
	rest := s[at:]
	switch {
	case rest == "":
		return at, api.EndText, true
	case strings.HasPrefix(rest, string([]byte{delim})):
		return at + 1, api.EndField, true
	case strings.HasPrefix(rest, "\n"):
		return at + 1, api.EndLine, true
	case strings.HasPrefix(rest, "\r\n"):
		return at + 2, api.EndLine, true
	}
	return 0, 0, false
}

// wantField cuts a field out by searching the rest of the text, not byte by byte.
func wantField(s string, at int, delim byte) told {
	if at < 0 || at > len(s) {
		return told{at: at, errno: api.ErrPlace}
	}
	if strings.IndexByte("\"\r\n", delim) >= 0 {
		return told{at: at, errno: api.ErrDelim}
	}
	rest := s[at:]
	if strings.HasPrefix(rest, `"`) {
		return wantQuoted(s, at, delim)
	}
	size := strings.IndexFunc(rest, func(r rune) bool { return r == '\r' || r == '\n' })
	if size < 0 {
		size = len(rest)
	}
	if n := strings.IndexByte(rest[:size], delim); n >= 0 {
		size = n
	}
	if n := strings.IndexByte(rest[:size], '"'); n >= 0 {
		return told{at: at + n, errno: api.ErrQuote}
	}
	next, kind, ok := wantEnd(s, at+size, delim)
	if !ok {
		return told{at: at + size, errno: api.ErrReturn}
	}
	return told{rest[:size], next, kind, api.OK}
}

// wantQuoted tries each place behind a quote, up to the first one at which all quotes in between stand two and two.
func wantQuoted(s string, at int, delim byte) told {
	for behind := at + 2; behind <= len(s); behind++ {
		in := s[at+1 : behind-1]
		even := !strings.Contains(strings.ReplaceAll(in, `""`, ""), `"`)
		if s[behind-1] != '"' || !even || strings.HasPrefix(s[behind:], `"`) {
			continue
		}
		next, kind, ok := wantEnd(s, behind, delim)
		if !ok {
			return told{at: behind, errno: api.ErrBehind}
		}
		return told{strings.ReplaceAll(in, `""`, `"`), next, kind, api.OK}
	}
	return told{at: at, errno: api.ErrOpen}
}

// P2: ordinary fields, the edges, and wrong texts, with what stands beside an error.
func TestFieldByHand(t *testing.T) {
	for _, x := range []struct {
		s     string
		at    int
		delim byte
		want  told
	}{
		{"ab,c", 0, ',', told{"ab", 3, api.EndField, api.OK}},
		{"ab,c", 3, ',', told{"c", 4, api.EndText, api.OK}},
		{"ab,c", 1, ',', told{"b", 3, api.EndField, api.OK}},
		{"ab,c", 0, ';', told{"ab,c", 4, api.EndText, api.OK}},
		{"a\x00b", 0, 0, told{"a", 2, api.EndField, api.OK}},
		{"a\xffb", 0, 255, told{"a", 2, api.EndField, api.OK}},
		{" a , b", 0, ',', told{" a ", 4, api.EndField, api.OK}},
		// the empty field, at each kind of end
		{"", 0, ',', told{"", 0, api.EndText, api.OK}},
		{"a,", 2, ',', told{"", 2, api.EndText, api.OK}},
		{",a", 0, ',', told{"", 1, api.EndField, api.OK}},
		{"\n", 0, ',', told{"", 1, api.EndLine, api.OK}},
		{"\r\n", 0, ',', told{"", 2, api.EndLine, api.OK}},
		{`""`, 0, ',', told{"", 2, api.EndText, api.OK}},
		{`"",`, 0, ',', told{"", 3, api.EndField, api.OK}},
		// breaks of one byte and of two
		{"a\nb", 0, ',', told{"a", 2, api.EndLine, api.OK}},
		{"a\r\nb", 0, ',', told{"a", 3, api.EndLine, api.OK}},
		{"a\n\nb", 0, ',', told{"a", 2, api.EndLine, api.OK}},
		{"a\n\rb", 0, ',', told{"a", 2, api.EndLine, api.OK}},
		{"a\r\n,", 2, ',', told{"", 3, api.EndLine, api.OK}},
		{"\"a\"\nb", 0, ',', told{"a", 4, api.EndLine, api.OK}},
		{"\"a\"\r\nb", 0, ',', told{"a", 5, api.EndLine, api.OK}},
		// in quotes
		{`"ab",c`, 0, ',', told{"ab", 5, api.EndField, api.OK}},
		{`x,"ab"`, 2, ',', told{"ab", 6, api.EndText, api.OK}},
		{`"a""b";`, 0, ';', told{`a"b`, 7, api.EndField, api.OK}},
		{"\"a,\r\n\rb\",", 0, ',', told{"a,\r\n\rb", 9, api.EndField, api.OK}},
		{`""""`, 0, ',', told{`"`, 4, api.EndText, api.OK}},
		{`"a",x`, 2, ',', told{"", 2, 0, api.ErrOpen}},
		// a quote within
		{`a"b`, 0, ',', told{"", 1, 0, api.ErrQuote}},
		{`ab",c`, 0, ',', told{"", 2, 0, api.ErrQuote}},
		{"a\"\r", 0, ',', told{"", 1, 0, api.ErrQuote}},
		{` "a"`, 0, ',', told{"", 1, 0, api.ErrQuote}},
		{`a,"`, 0, ',', told{"a", 2, api.EndField, api.OK}},
		{"a\n\"", 0, ',', told{"a", 2, api.EndLine, api.OK}},
		// a byte 13 that begins no break
		{"\r", 0, ',', told{"", 0, 0, api.ErrReturn}},
		{"a\r", 0, ',', told{"", 1, 0, api.ErrReturn}},
		{"a\rb\n", 0, ',', told{"", 1, 0, api.ErrReturn}},
		{"a\r\r\n", 0, ',', told{"", 1, 0, api.ErrReturn}},
		{"a\r\"", 0, ',', told{"", 1, 0, api.ErrReturn}},
		{"a\r,", 0, ',', told{"", 1, 0, api.ErrReturn}},
		{"a,\r", 0, ',', told{"a", 2, api.EndField, api.OK}},
		// what stands behind a last quote
		{`"a"b`, 0, ',', told{"", 3, 0, api.ErrBehind}},
		{`"a" ,b`, 0, ',', told{"", 3, 0, api.ErrBehind}},
		{"\"a\"\r", 0, ',', told{"", 3, 0, api.ErrBehind}},
		{"\"a\"\rb", 0, ',', told{"", 3, 0, api.ErrBehind}},
		{`x,"a";`, 2, ',', told{"", 5, 0, api.ErrBehind}},
		{`"a""b"c`, 0, ',', told{"", 6, 0, api.ErrBehind}},
		// a last quote that is missing
		{`"`, 0, ',', told{"", 0, 0, api.ErrOpen}},
		{`"a`, 0, ',', told{"", 0, 0, api.ErrOpen}},
		{"\"a,\r\nb", 0, ',', told{"", 0, 0, api.ErrOpen}},
		{`"""`, 0, ',', told{"", 0, 0, api.ErrOpen}},
		{`x,"a""`, 2, ',', told{"", 2, 0, api.ErrOpen}},
		// places
		{"a", -1, ',', told{"", -1, 0, api.ErrPlace}},
		{"a", 1, ',', told{"", 1, api.EndText, api.OK}},
		{"a", 2, ',', told{"", 2, 0, api.ErrPlace}},
		{"", 1, ',', told{"", 1, 0, api.ErrPlace}},
		{"a", math.MinInt, ',', told{"", math.MinInt, 0, api.ErrPlace}},
		{"a", math.MaxInt, ',', told{"", math.MaxInt, 0, api.ErrPlace}},
		// a delim that is not good, and which error is told of several
		{"ab", 1, '"', told{"", 1, 0, api.ErrDelim}},
		{"ab", 0, '\r', told{"", 0, 0, api.ErrDelim}},
		{"ab", 2, '\n', told{"", 2, 0, api.ErrDelim}},
		{"\"", 0, '"', told{"", 0, 0, api.ErrDelim}},
		{"ab", 3, '"', told{"", 3, 0, api.ErrPlace}},
		{"ab", -1, '\n', told{"", -1, 0, api.ErrPlace}},
	} {
		if got := field(x.s, x.at, x.delim); got != x.want {
			t.Errorf("Field(%q, %d, %d) = %+v, not %+v", x.s, x.at, x.delim, got, x.want)
		}
	}
}

// P1, P2: any short text, at all its places and beyond them, by any delim.
func TestFieldOfAnyText(t *testing.T) {
	for _, s := range texts(5) {
		for at := -2; at <= len(s)+2; at++ {
			for _, d := range slices.Concat(goods, bads) {
				if got, want := field(s, at, d), wantField(s, at, d); got != want {
					t.Fatalf("Field(%q, %d, %d) = %+v, not %+v", s, at, d, got, want)
				}
			}
		}
	}
}

// P2: each byte as a delim, and each byte within a field, behind one in quotes, and alone.
func TestFieldOfEachByte(t *testing.T) {
	for d := range 256 {
		for b := range 256 {
			one := string([]byte{byte(b)})
			for _, s := range []string{one, "x" + one + "y", `"x"` + one, one + "\n"} {
				if got, want := field(s, 0, byte(d)), wantField(s, 0, byte(d)); got != want {
					t.Fatalf("Field(%q, 0, %d) = %+v, not %+v", s, d, got, want)
				}
			}
		}
	}
}

// P2: a field ends where it is told to end: what stands behind that changes nothing, what stands ahead neither.
func TestFieldEndsWhereTold(t *testing.T) {
	for _, s := range texts(4) {
		got := field(s, 0, ',')
		if got.errno != api.OK {
			continue
		}
		cut := field(s[:got.at], 0, ',')
		if cut != got {
			t.Fatalf("Field of %q is %+v, and %+v without what stands behind", s, got, cut)
		}
		if got.kind != api.EndText {
			for _, behind := range []string{"x", "\"", "\r", "\n", ","} {
				if more := field(s[:got.at]+behind, 0, ','); more != got {
					t.Fatalf("Field of %q is %+v, and %+v with %q behind", s, got, more, behind)
				}
			}
		}
		for _, ahead := range []string{"x", "\"", "\r", ",,"} {
			more := field(ahead+s, len(ahead), ',')
			more.at -= len(ahead)
			if more != got {
				t.Fatalf("Field of %q is %+v, and %+v with %q ahead", s, got, more, ahead)
			}
		}
	}
}

// P2: breaks, at all places.
func TestBreak(t *testing.T) {
	for _, s := range append(texts(4), "a\x0b\x0c\x0e\x85b") {
		for at := -2; at <= len(s)+2; at++ {
			want := 0
			if at >= 0 && at < len(s) {
				switch {
				case strings.HasPrefix(s[at:], "\r\n"):
					want = 2
				case strings.HasPrefix(s[at:], "\n"):
					want = 1
				}
			}
			if got := Break(s, at); got != want {
				t.Fatalf("Break(%q, %d) = %d, not %d", s, at, got, want)
			}
		}
	}
	for _, at := range []int{math.MinInt, -1, 1, math.MaxInt} {
		if Break("\n", at) != 0 {
			t.Errorf("there is a break at %d", at)
		}
	}
}

// P2: records as they are written.
func TestWriteByHand(t *testing.T) {
	for _, x := range []struct {
		l     []string
		delim byte
		crlf  bool
		want  string
	}{
		{[]string{"a", "a,b"}, ',', false, "a,\"a,b\"\n"},
		{[]string{"a", "a,b"}, ';', false, "a;a,b\n"},
		{[]string{"a", "b"}, ',', true, "a,b\r\n"},
		{nil, ',', false, "\n"},
		{[]string{}, ',', true, "\r\n"},
		{[]string{""}, ',', false, "\n"},
		{[]string{"", "", ""}, ',', false, ",,\n"},
		{[]string{"a"}, ',', false, "a\n"},
		{[]string{`"`, "\r", "\n", "\r\n"}, ',', false, "\"\"\"\",\"\r\",\"\n\",\"\r\n\"\n"},
		{[]string{"a\x00", "b"}, 0, false, "\"a\x00\"\x00b\n"},
		{[]string{"a", ","}, ',', true, "a,\",\"\r\n"},
		{[]string{"\xff", "ä"}, ',', false, "\xff,ä\n"},
		// a delim that is not good is written like any other one
		{[]string{"a", "b"}, '"', false, "a\"b\n"},
		{[]string{"a", "b"}, '\n', true, "a\nb\r\n"},
	} {
		if got := Write(x.l, x.delim, x.crlf); got != x.want {
			t.Errorf("Write(%q, %d, %v) = %q, not %q", x.l, x.delim, x.crlf, got, x.want)
		}
	}
}

// readRecord reads the fields from a place on, up to the end of a record.
func readRecord(t *testing.T, s string, at int, delim byte) ([]string, int) {
	var l []string
	for {
		got := field(s, at, delim)
		if got.errno != api.OK {
			t.Fatalf("Field(%q, %d, %d) = %+v", s, at, delim, got)
		}
		l, at = append(l, got.cell), got.at
		if got.kind == api.EndText {
			t.Fatalf("the record of %q has no break behind it", s)
		}
		if got.kind == api.EndLine {
			return l, at
		}
	}
}

// P2: what is written is read back, field by field, with other records behind it.
func TestWrittenIsReadBack(t *testing.T) {
	cells := append(texts(2), "a\"b", `""`, "\r\n\r\n", "\x00", "\xff;")
	for _, d := range goods {
		for _, crlf := range []bool{false, true} {
			for i, a := range cells {
				b, c := cells[(i*7+3)%len(cells)], cells[(i*11+5)%len(cells)]
				first, second := []string{a, b, c}, []string{b}
				s := Write(first, d, crlf) + Write(second, d, !crlf)
				l, at := readRecord(t, s, 0, d)
				if !slices.Equal(l, first) {
					t.Fatalf("of %q by %d came %q", first, d, l)
				}
				l, at = readRecord(t, s, at, d)
				if !slices.Equal(l, second) || at != len(s) {
					t.Fatalf("of %q by %d came %q, up to %d", second, d, l, at)
				}
			}
		}
	}
}

// R3: an answer shares no memory with an argument, and an argument stays.
func TestAnswersShareNothing(t *testing.T) {
	for _, s := range []string{"abc", "abc,d", `"abc"`} {
		at := strings.Index(s, "a")
		got := field(s, max(0, at-1), ',')
		if got.cell != "abc" || unsafe.StringData(got.cell) == unsafe.StringData(s[at:]) {
			t.Errorf("the cell %q of %q is shared, or another one", got.cell, s)
		}
	}
	l := []string{"a", "b,", "\""}
	Write(l[:2], ',', true)
	if !slices.Equal(l, []string{"a", "b,", "\""}) {
		t.Errorf("the cells are now %q", l)
	}
}

// P1: long texts end as short ones do.
func TestLongTexts(t *testing.T) {
	const size = api.MaxBytes
	for _, x := range []struct {
		s    string
		want told
	}{
		{strings.Repeat("a", size), told{strings.Repeat("a", size), size, api.EndText, api.OK}},
		{strings.Repeat("a", size) + "\"", told{"", size, 0, api.ErrQuote}},
		{`"` + strings.Repeat(`""`, size/2), told{"", 0, 0, api.ErrOpen}},
		{strings.Repeat(`"`, size) + "x", told{"", size, 0, api.ErrBehind}},
		{strings.Repeat("\r", size), told{"", 0, 0, api.ErrReturn}},
	} {
		if got := field(x.s, 0, ','); got != x.want {
			t.Errorf("a long text of %q..: %d, %d, %v", x.s[:4], got.at, got.kind, got.errno)
		}
	}
	l := slices.Repeat([]string{"", `"`, "a"}, size/16)
	got, at := readRecord(t, Write(l, ',', true), 0, ',')
	if !slices.Equal(got, l) || at != len(Write(l, ',', true)) {
		t.Errorf("of %d cells came %d", len(l), len(got))
	}
}

// P1, P2: whatever bytes there are.
func FuzzLex(f *testing.F) {
	for _, s := range []string{"", "a,b", `"`, `"a""b"c`, "a\r\nb", "a\rb", "\"\r\n,\"\n", "\x00\xff"} {
		f.Add(s, 0, byte(','))
		f.Add(s, 1, byte('"'))
		f.Add(s, -1, byte(0))
	}
	f.Fuzz(func(t *testing.T, s string, at int, d byte) {
		if got, want := field(s, at, d), wantField(s, at, d); got != want {
			t.Fatalf("Field(%q, %d, %d) = %+v, not %+v", s, at, d, got, want)
		}
		if slices.Contains(bads, d) {
			return
		}
		l := strings.Split(s, "a")
		if got, _ := readRecord(t, Write(l, d, at%2 == 0), 0, d); !slices.Equal(got, l) {
			t.Fatalf("of %q by %d came %q", l, d, got)
		}
	})
}

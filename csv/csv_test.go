package csv

import (
	"slices"
	"strings"
	"testing"
	"unsafe"

	"tartan/api"
)

// goods are delims that may stand between fields, bads are those that may not.
var (
	goods = []byte{',', ';', 'a', 0, 255, 12}
	bads  = []byte{34, 13, 10}
)

// texts are all texts of up to n bytes, made of plain bytes and of those that a field may stumble over.
func texts(n int) []string {
	const alphabet = "a,\"\r\n"
	all, from := []string{""}, 0
	for range n {
		to := len(all)
		for _, s := range all[from:to] {
			for i := range len(alphabet) {
				all = append(all, s+alphabet[i:i+1])
			}
		}
		from = to
	}
	return all
}

// told is all that Parse answers.
type told struct {
	l     [][]string
	at    int
	errno api.Errno
}

func parse(s string, delim byte) told {
	l, at, errno := Parse(s, delim)
	return told{l, at, errno}
}

// like holds records against each other without Same.
func like(a, b [][]string) bool {
	if len(a) != len(b) {
		return false
	}
	for i := range a {
		if !slices.Equal(a[i], b[i]) {
			return false
		}
	}
	return true
}

func (x told) is(y told) bool {
	return like(x.l, y.l) && x.at == y.at && x.errno == y.errno
}

// wantCell is a field that begins at a place: its cell, the place behind it (ahead of what ends it), or its fault.
func wantCell(s string, begin int, delim byte) (string, int, api.Errno) {
	if !strings.HasPrefix(s[begin:], `"`) {
		for i := begin; i <= len(s); i++ {
			rest := s[i:]
			switch {
			case rest == "", rest[0] == delim, rest[0] == '\n', strings.HasPrefix(rest, "\r\n"):
				return s[begin:i], i, api.OK
			case rest[0] == '"':
				return "", i, api.ErrQuote
			case rest[0] == '\r':
				return "", i, api.ErrReturn
			}
		}
	}
	var cell []byte
	for i := begin + 1; i < len(s); i++ {
		if s[i] != '"' {
			cell = append(cell, s[i])
			continue
		}
		rest := s[i+1:]
		switch {
		case strings.HasPrefix(rest, `"`):
			cell = append(cell, '"')
			i++
		case rest == "", rest[0] == delim, rest[0] == '\n', strings.HasPrefix(rest, "\r\n"):
			return string(cell), i + 1, api.OK
		default:
			return "", i + 1, api.ErrBehind
		}
	}
	return "", begin, api.ErrOpen
}

// wantParse is a plain reading of a text, without the layers below.
func wantParse(s string, delim byte) told {
	if strings.IndexByte("\"\r\n", delim) >= 0 {
		return told{errno: api.ErrDelim}
	}
	if len(s) > 4194304 {
		return told{errno: api.ErrLarge}
	}
	if s == "" {
		return told{}
	}
	l, at := [][]string{nil}, 0
	for {
		last := len(l) - 1
		if len(l) == 2049 || len(l[last]) == 128 {
			return told{at: at, errno: api.ErrLarge}
		}
		cell, behind, errno := wantCell(s, at, delim)
		if errno != api.OK {
			return told{at: behind, errno: errno}
		}
		if len(cell) > 4096 {
			return told{at: at, errno: api.ErrLarge}
		}
		l[last] = append(l[last], cell)
		rest := s[behind:]
		if rest == "" || rest == "\n" || rest == "\r\n" {
			return told{l: l}
		}
		if rest[0] == delim {
			at = behind + 1
			continue
		}
		l, at = append(l, nil), behind+strings.Index(rest, "\n")+1
	}
}

// P2: ordinary texts, the edges, and wrong texts, with what stands beside an error.
func TestParseByHand(t *testing.T) {
	for _, x := range []struct {
		s     string
		delim byte
		want  told
	}{
		{"a,b\nc", ',', told{l: [][]string{{"a", "b"}, {"c"}}}},
		{"a,b\nc", ';', told{l: [][]string{{"a,b"}, {"c"}}}},
		{"a\x00b\x00\n", 0, told{l: [][]string{{"a", "b", ""}}}},
		{"a\xffb", 255, told{l: [][]string{{"a", "b"}}}},
		{" a , b ", ',', told{l: [][]string{{" a ", " b "}}}},
		// no text, and lines in which nothing stands
		{"", ',', told{}},
		{"\n", ',', told{l: [][]string{{""}}}},
		{"\r\n", ',', told{l: [][]string{{""}}}},
		{"\n\n", ',', told{l: [][]string{{""}, {""}}}},
		{"\r\n\n\r\n", ',', told{l: [][]string{{""}, {""}, {""}}}},
		{"a\n\nb", ',', told{l: [][]string{{"a"}, {""}, {"b"}}}},
		{"\na", ',', told{l: [][]string{{""}, {"a"}}}},
		{"a\n\n", ',', told{l: [][]string{{"a"}, {""}}}},
		{`""`, ',', told{l: [][]string{{""}}}},
		{"\"\"\n", ',', told{l: [][]string{{""}}}},
		// a break behind the last record and none, of one byte and of two
		{"a", ',', told{l: [][]string{{"a"}}}},
		{"a\n", ',', told{l: [][]string{{"a"}}}},
		{"a\r\n", ',', told{l: [][]string{{"a"}}}},
		{"a\r\nb\nc\r\n", ',', told{l: [][]string{{"a"}, {"b"}, {"c"}}}},
		{"a\n\"\n\"", ',', told{l: [][]string{{"a"}, {"\n"}}}},
		// a delim at an end
		{",", ',', told{l: [][]string{{"", ""}}}},
		{"a,", ',', told{l: [][]string{{"a", ""}}}},
		{"a,\n", ',', told{l: [][]string{{"a", ""}}}},
		{"a,\nb,", ',', told{l: [][]string{{"a", ""}, {"b", ""}}}},
		{",\r\n,", ',', told{l: [][]string{{"", ""}, {"", ""}}}},
		// records of unlike sizes
		{"a\nb,c\n,,\n", ',', told{l: [][]string{{"a"}, {"b", "c"}, {"", "", ""}}}},
		// in quotes
		{"\"a,\"\"b\r\nc\",d\n\"e\"", ',', told{l: [][]string{{"a,\"b\r\nc", "d"}, {"e"}}}},
		// the place of the first fault
		{"a\n\"", ',', told{at: 2, errno: api.ErrOpen}},
		{"a\"", ',', told{at: 1, errno: api.ErrQuote}},
		{"a,b\r\nc,d\"e,\"", ',', told{at: 8, errno: api.ErrQuote}},
		{"a\n\"b\"c", ',', told{at: 5, errno: api.ErrBehind}},
		{"a,\"b\n", ',', told{at: 2, errno: api.ErrOpen}},
		{"a\nb\rc\n\"", ',', told{at: 3, errno: api.ErrReturn}},
		{"a\n\r", ',', told{at: 2, errno: api.ErrReturn}},
		{"\"a\"\r,\"", ',', told{at: 3, errno: api.ErrBehind}},
		// a delim that is not good, ahead of all else
		{"", '"', told{errno: api.ErrDelim}},
		{"a,b", '\n', told{errno: api.ErrDelim}},
		{"a\"", '\r', told{errno: api.ErrDelim}},
	} {
		if got := parse(x.s, x.delim); !got.is(x.want) {
			t.Errorf("Parse(%q, %d) = %+v, not %+v", x.s, x.delim, got, x.want)
		}
	}
}

// P1, P2: any short text, by any delim.
func TestParseOfAnyText(t *testing.T) {
	for _, s := range texts(6) {
		for _, d := range slices.Concat(goods, bads) {
			if got, want := parse(s, d), wantParse(s, d); !got.is(want) {
				t.Fatalf("Parse(%q, %d) = %+v, not %+v", s, d, got, want)
			}
		}
	}
}

// P1, P2: each byte as a delim, and each byte within a text.
func TestParseOfEachByte(t *testing.T) {
	for d := range 256 {
		for b := range 256 {
			one := string([]byte{byte(b)})
			for _, s := range []string{one, "x" + one + "y", `"x"` + one, one + "\n" + one} {
				if got, want := parse(s, byte(d)), wantParse(s, byte(d)); !got.is(want) {
					t.Fatalf("Parse(%q, %d) = %+v, not %+v", s, d, got, want)
				}
			}
		}
	}
}

// written tells whether a text is records, each cell of which stands there plainly or in quotes.
func written(s string, l [][]string, delim byte) bool {
	for i, record := range l {
		for k, cell := range record {
			form := cell
			if strings.HasPrefix(s, `"`) {
				form = `"` + strings.ReplaceAll(cell, `"`, `""`) + `"`
			} else if strings.ContainsAny(cell, "\"\r\n") || strings.IndexByte(cell, delim) >= 0 {
				return false
			}
			if !strings.HasPrefix(s, form) {
				return false
			}
			s = s[len(form):]
			if k < len(record)-1 {
				if s == "" || s[0] != delim {
					return false
				}
				s = s[1:]
			}
		}
		switch {
		case strings.HasPrefix(s, "\n"):
			s = s[1:]
		case strings.HasPrefix(s, "\r\n"):
			s = s[2:]
		case i < len(l)-1:
			return false
		}
	}
	return s == ""
}

// P2: a text that is parsed is records that are written so.
func TestParsedIsWritten(t *testing.T) {
	for _, s := range texts(6) {
		for _, d := range []byte{',', 'a', 0} {
			if got := parse(s, d); got.errno == api.OK && !written(s, got.l, d) {
				t.Fatalf("%q is not how %q is written", s, got.l)
			}
		}
	}
}

// repeat is a text that stands there n times.
func repeat(s string, n int) string { return strings.Repeat(s, n) }

// P1, P2: what is as large as may be, what is larger by one, and which error comes first.
func TestParseOfLargeTexts(t *testing.T) {
	const commas = 127
	full := repeat(",", commas)
	most := repeat("x", 4096)
	for i, x := range []struct {
		s    string
		want told
	}{
		// fields
		{full, told{l: [][]string{make([]string, 128)}}},
		{full + "\n", told{l: [][]string{make([]string, 128)}}},
		{full + ",", told{at: 128, errno: api.ErrLarge}},
		{full + ",\n", told{at: 128, errno: api.ErrLarge}},
		{full + ",b", told{at: 128, errno: api.ErrLarge}},
		{full + ",\"", told{at: 128, errno: api.ErrLarge}},
		{full + ",\r", told{at: 128, errno: api.ErrLarge}},
		{full + ",\n\"", told{at: 128, errno: api.ErrLarge}},
		{full + "\"", told{at: 127, errno: api.ErrOpen}},
		{full + "x\"," + "b", told{at: 128, errno: api.ErrQuote}},
		{"a,b\r\n" + full + ",", told{at: 5 + 128, errno: api.ErrLarge}},
		{full + "\n" + full, told{l: [][]string{make([]string, 128), make([]string, 128)}}},
		// cells
		{most, told{l: [][]string{{most}}}},
		{`"` + most + `"`, told{l: [][]string{{most}}}},
		{`"` + repeat(`""`, 4096) + `"`, told{l: [][]string{{repeat(`"`, 4096)}}}},
		{most + "x", told{at: 0, errno: api.ErrLarge}},
		{`"` + most + `x"`, told{at: 0, errno: api.ErrLarge}},
		{`"` + repeat(`""`, 4097) + `"`, told{at: 0, errno: api.ErrLarge}},
		{"a\nb," + most + "x,c\n", told{at: 4, errno: api.ErrLarge}},
		{"a\nb,\"" + most + "\n\"\n", told{at: 4, errno: api.ErrLarge}},
		{most + "x\"", told{at: 4097, errno: api.ErrQuote}},
		{most + "x\r", told{at: 4097, errno: api.ErrReturn}},
		{`"` + most + "x", told{at: 0, errno: api.ErrOpen}},
		{`"` + most + `x"y`, told{at: 4099, errno: api.ErrBehind}},
		{most + "x,\"", told{at: 0, errno: api.ErrLarge}},
		{most + "x\n\"", told{at: 0, errno: api.ErrLarge}},
		{"\"\n" + most, told{at: 0, errno: api.ErrOpen}},
		{full + "," + most + "x", told{at: 128, errno: api.ErrLarge}},
		{full + most + "x,", told{at: 127, errno: api.ErrLarge}},
		// records
		{repeat("\n", 2048), told{l: slices.Repeat([][]string{{""}}, 2048)}},
		{repeat("a\r\n", 2047) + "a", told{l: slices.Repeat([][]string{{"a"}}, 2048)}},
		{repeat("a\r\n", 2048), told{l: slices.Repeat([][]string{{"a"}}, 2048)}},
		{repeat("\n", 2048) + "a", told{at: 2048, errno: api.ErrLarge}},
		{repeat("\n", 2049), told{at: 2048, errno: api.ErrLarge}},
		{repeat("a\r\n", 2048) + ",b", told{at: 3 * 2048, errno: api.ErrLarge}},
		{repeat("\n", 2048) + "\"", told{at: 2048, errno: api.ErrLarge}},
		{repeat("\n", 2048) + "a\"", told{at: 2048, errno: api.ErrLarge}},
		{repeat("\n", 2047) + "\"", told{at: 2047, errno: api.ErrOpen}},
		{repeat("\n", 2047) + "a\"\n\n", told{at: 2048, errno: api.ErrQuote}},
		{repeat("\n", 2047) + ",a\n", told{l: append(slices.Repeat([][]string{{""}}, 2047), []string{"", "a"})}},
	} {
		got := parse(x.s, ',')
		if !got.is(x.want) {
			t.Errorf("%d: %d records, %d, %v", i, len(got.l), got.at, got.errno)
		}
		if !got.is(wantParse(x.s, ',')) {
			t.Errorf("%d: not what a plain reading tells", i)
		}
	}
}

// P1, P2: texts of as many bytes as may be, and of one more.
func TestParseOfMostBytes(t *testing.T) {
	line := repeat("x", 2047)
	most := repeat(line+"\n", 2048)
	if len(most) != 4194304 {
		t.Fatal("the text has", len(most), "bytes")
	}
	if got := parse(most, ','); !got.is(told{l: slices.Repeat([][]string{{line}}, 2048)}) {
		t.Errorf("%d records, %d, %v", len(got.l), got.at, got.errno)
	}
	for i, x := range []struct {
		s    string
		d    byte
		want told
	}{
		{most + "x", ',', told{errno: api.ErrLarge}},
		{"a\"" + most, ',', told{errno: api.ErrLarge}},
		{repeat("\"", 4194305), ',', told{errno: api.ErrLarge}},
		{most + "x", '"', told{errno: api.ErrDelim}},
		{most[1:] + `"`, ',', told{at: 4194303, errno: api.ErrLarge}},
		{`"` + repeat(`""`, 4194304/2-1) + "x", ',', told{at: 0, errno: api.ErrOpen}},
		{repeat(`"`, 4194303) + "x", ',', told{at: 0, errno: api.ErrOpen}},
		{repeat(`"`, 4194302) + "x\n", ',', told{at: 4194302, errno: api.ErrBehind}},
		{repeat("x", 4194304), ',', told{at: 0, errno: api.ErrLarge}},
		{repeat("\r", 4194304), ',', told{at: 0, errno: api.ErrReturn}},
	} {
		if got := parse(x.s, x.d); !got.is(x.want) {
			t.Errorf("%d: %d records, %d, %v", i, len(got.l), got.at, got.errno)
		}
	}
}

// P2: records as they are printed, and those that are not.
func TestPrintByHand(t *testing.T) {
	for _, x := range []struct {
		l     [][]string
		delim byte
		crlf  bool
		want  string
		errno api.Errno
	}{
		{[][]string{{"a", "b"}, {"c"}}, ',', false, "a,b\nc\n", api.OK},
		{[][]string{{"a", "b"}, {"c"}}, ',', true, "a,b\r\nc\r\n", api.OK},
		{[][]string{{"a", "b,"}, {"c;"}}, ';', false, "a;b,\n\"c;\"\n", api.OK},
		{[][]string{{"a", "b\x00"}}, 0, false, "a\x00\"b\x00\"\n", api.OK},
		{nil, ',', false, "", api.OK},
		{[][]string{}, ',', true, "", api.OK},
		{[][]string{{""}}, ',', false, "\n", api.OK},
		{[][]string{{""}, {""}}, ',', true, "\r\n\r\n", api.OK},
		{[][]string{{"", ""}}, ',', false, ",\n", api.OK},
		{[][]string{{"\"", "\r", "\n"}}, ',', false, "\"\"\"\",\"\r\",\"\n\"\n", api.OK},
		{[][]string{{"\xff", "ä"}}, ',', false, "\xff,ä\n", api.OK},
		// a record of no cell
		{[][]string{nil}, ',', false, "", api.ErrArg},
		{[][]string{{}}, ',', true, "", api.ErrArg},
		{[][]string{{"a"}, {"b"}, {}}, ',', false, "", api.ErrArg},
		{[][]string{{}, {"b"}}, ',', false, "", api.ErrArg},
		// a delim that is not good
		{[][]string{{"a"}}, '"', false, "", api.ErrDelim},
		{nil, '\r', false, "", api.ErrDelim},
		{[][]string{{}}, '\n', true, "", api.ErrDelim},
	} {
		if got, errno := Print(x.l, x.delim, x.crlf); got != x.want || errno != x.errno {
			t.Errorf("Print(%q, %d, %v) = %q, %v, not %q, %v", x.l, x.delim, x.crlf, got, errno, x.want, x.errno)
		}
	}
}

// P1, P2: what is as large as may be is printed and parsed back, what is larger by one is not; and which error comes first.
func TestPrintOfLargeRecords(t *testing.T) {
	most := repeat("x", 4096)
	one := [][]string{{""}}
	// by a break of one byte this is a text of as many bytes as may be
	text := slices.Repeat([][]string{{repeat("x", 1000), repeat(`"`, 522)}}, 2048)
	ahead := func(l [][]string, record ...string) [][]string {
		return append([][]string{record}, l...)
	}
	behind := func(l [][]string, record ...string) [][]string {
		return append(slices.Clone(l), record)
	}
	for i, x := range []struct {
		l     [][]string
		delim byte
		crlf  bool
		errno api.Errno
	}{
		{[][]string{make([]string, 128)}, ',', false, api.OK},
		{[][]string{make([]string, 129)}, ',', false, api.ErrLarge},
		{behind(one, make([]string, 129)...), ',', false, api.ErrLarge},
		{[][]string{{most}}, ',', true, api.OK},
		{[][]string{{repeat(`"`, 4096), most}}, ',', true, api.OK},
		{[][]string{{most + "x"}}, ',', false, api.ErrLarge},
		{[][]string{{"a"}, {"b", most + "x"}}, ',', false, api.ErrLarge},
		{slices.Repeat(one, 2048), ',', true, api.OK},
		{slices.Repeat(one, 2049), ',', false, api.ErrLarge},
		{text, ',', false, api.OK},
		{text, ',', true, api.ErrLarge},
		{append(slices.Clone(text[1:]), []string{repeat("x", 1001), repeat(`"`, 522)}), ',', false, api.ErrLarge},
		{append(slices.Clone(text[1:]), []string{repeat("x", 999), repeat(`"`, 522)}), ',', false, api.OK},
		{append(slices.Clone(text[1:]), []string{repeat(`"`, 522), repeat("x", 999) + ","}), ',', false, api.ErrLarge},
		{slices.Repeat([][]string{slices.Repeat([]string{most}, 128)}, 2048), ',', false, api.ErrLarge},
		// a record of no cell is told ahead of what is too large, a delim that is not good ahead of both
		{behind(slices.Repeat(one, 2048)), ',', false, api.ErrArg},
		{ahead(slices.Repeat(one, 2048)), ',', false, api.ErrArg},
		{[][]string{{most + "x"}, {}}, ',', false, api.ErrArg},
		{[][]string{make([]string, 129), {}}, ',', false, api.ErrArg},
		{behind(slices.Repeat([][]string{slices.Repeat([]string{most}, 128)}, 16)), ',', false, api.ErrArg},
		{[][]string{{most + "x"}, {}}, '"', false, api.ErrDelim},
		{make([][]string, 1<<20), ',', false, api.ErrArg},
		{slices.Repeat(one, 1<<20), ',', false, api.ErrLarge},
	} {
		s, errno := Print(x.l, x.delim, x.crlf)
		if errno != x.errno {
			t.Errorf("%d: %d bytes, %v", i, len(s), errno)
		}
		if errno != api.OK && s != "" {
			t.Errorf("%d: %d bytes beside %v", i, len(s), errno)
		}
		if errno == api.OK && !parse(s, x.delim).is(told{l: x.l}) {
			t.Errorf("%d: not parsed back", i)
		}
	}
	if s, _ := Print(text, ',', false); len(s) != 4194304 {
		t.Error("the text has", len(s), "bytes")
	}
}

// lists are all lists of up to two records, each of one cell of those or of two.
func lists(cells []string) [][][]string {
	var rows [][]string
	for _, a := range cells {
		rows = append(rows, []string{a})
		for _, b := range cells {
			rows = append(rows, []string{a, b})
		}
	}
	all := [][][]string{nil}
	for _, a := range rows {
		all = append(all, [][]string{a})
		for _, b := range rows {
			all = append(all, [][]string{a, b})
		}
	}
	return all
}

// P2, P3: what is printed is parsed back, whatever cells there are, by either break, and with none behind the last record, if something stands in it.
func TestPrintedIsParsedBack(t *testing.T) {
	cells := append(texts(1), `""`, "\r\n", "\n\r", "a\"", ",\n", " ", "\x00", "\xff;", "ä")
	for _, l := range lists(cells) {
		for _, d := range goods {
			for _, end := range []string{"\n", "\r\n"} {
				s, errno := Print(l, d, end == "\r\n")
				if errno != api.OK || len(l) > 0 && !strings.HasSuffix(s, end) {
					t.Fatalf("of %q by %d came %q, %v", l, d, s, errno)
				}
				if got := parse(s, d); !got.is(told{l: l}) {
					t.Fatalf("of %q by %d, %q, came %+v", l, d, s, got)
				}
				cut := strings.TrimSuffix(s, end)
				if cut == "" || strings.HasSuffix(cut, end) {
					continue
				}
				if got := parse(cut, d); !got.is(told{l: l}) {
					t.Fatalf("of %q by %d, %q, came %+v", l, d, cut, got)
				}
			}
		}
	}
}

// P3: cells of each byte, alone and among others, are printed and parsed back by each delim.
func TestEachByteIsParsedBack(t *testing.T) {
	for d := range 256 {
		for b := range 256 {
			one := string([]byte{byte(b)})
			l := [][]string{{one, "x" + one}, {one + "y", one + one, ""}}
			s, errno := Print(l, byte(d), b%2 == 0)
			if slices.Contains(bads, byte(d)) {
				if s != "" || errno != api.ErrDelim {
					t.Fatalf("by %d came %q, %v", d, s, errno)
				}
				continue
			}
			if got := parse(s, byte(d)); errno != api.OK || !got.is(told{l: l}) {
				t.Fatalf("of %q by %d, %q, came %+v", l, d, s, got)
			}
		}
	}
}

// P2: records that are alike and unlike.
func TestSame(t *testing.T) {
	for _, x := range []struct {
		a, b [][]string
		want bool
	}{
		{nil, nil, true},
		{nil, [][]string{}, true},
		{nil, [][]string{{}}, false},
		{[][]string{nil}, [][]string{{}}, true},
		{[][]string{{}}, [][]string{{""}}, false},
		{[][]string{{"a", "b"}, {"c"}}, [][]string{{"a", "b"}, {"c"}}, true},
		{[][]string{{"a", "b"}, {"c"}}, [][]string{{"a", "b"}, {"d"}}, false},
		{[][]string{{"a", "b"}, {"c"}}, [][]string{{"a", "b"}}, false},
		{[][]string{{"a", "b"}, {"c"}}, [][]string{{"a"}, {"b", "c"}}, false},
		{[][]string{{"a", "b"}, {"c"}}, [][]string{{"c"}, {"a", "b"}}, false},
		{[][]string{{"a", "b"}}, [][]string{{"b", "a"}}, false},
		{[][]string{{"a"}}, [][]string{{"a", ""}}, false},
		{[][]string{{"a"}}, [][]string{{"A"}}, false},
		{[][]string{{"a"}}, [][]string{{"a"}, {}}, false},
		{[][]string{{"\x00\xff"}}, [][]string{{"\x00\xfe"}}, false},
		{[][]string{{"ab"}}, [][]string{{"a", "b"}}, false},
	} {
		if Same(x.a, x.b) != x.want || Same(x.b, x.a) != x.want {
			t.Errorf("Same(%q, %q) is not %v", x.a, x.b, x.want)
		}
	}
	all := lists([]string{"", "a", "b"})
	for i, a := range all {
		for k, b := range lists([]string{"", "a", "b"}) {
			if Same(a, b) != (i == k) {
				t.Fatalf("Same(%q, %q) is %v", a, b, i != k)
			}
		}
	}
}

// within tells whether a text's bytes are bytes of another one.
func within(cell, s string) bool {
	at, from := uintptr(unsafe.Pointer(unsafe.StringData(cell))), uintptr(unsafe.Pointer(unsafe.StringData(s)))
	return cell != "" && at >= from && at < from+uintptr(len(s))
}

// R3: an answer shares no memory with an argument, nor one of its lists with another one; an argument stays.
func TestAnswersShareNothing(t *testing.T) {
	s := "abc,def\nghi\r\n\"jkl\",mno\npqr"
	want := [][]string{{"abc", "def"}, {"ghi"}, {"jkl", "mno"}, {"pqr"}}
	l, _, _ := Parse(s, ',')
	for _, record := range l {
		for _, cell := range record {
			if within(cell, s) {
				t.Errorf("the cell %q is shared", cell)
			}
		}
		_ = append(record, "x", "y")
	}
	if !like(l, want) {
		t.Errorf("the records are now %q", l)
	}
	for i := range l {
		l[i][0] = "z"
		if again, _, _ := Parse(s, ','); !like(again, want) {
			t.Errorf("the records are now %q", again)
		}
	}
	kept := [][]string{{"a", "b,"}, {"\""}, {"c"}}
	if _, errno := Print(kept[:2], ',', true); errno != api.OK || !like(kept, [][]string{{"a", "b,"}, {"\""}, {"c"}}) {
		t.Errorf("the records are now %q", kept)
	}
	Same(kept, kept[:1])
	if !like(kept, [][]string{{"a", "b,"}, {"\""}, {"c"}}) {
		t.Errorf("the records are now %q", kept)
	}
}

// P1, P2, P3: whatever bytes there are.
func FuzzCsv(f *testing.F) {
	for _, s := range []string{"", "a,b\nc", "\n", "a\n\"", "\"a\"\"b\"c", "a\r\nb\r\n", "a\rb", "\"\r\n,\"\n", "\x00\xff"} {
		f.Add(s, byte(','), true)
		f.Add(s, byte('"'), false)
		f.Add(s, byte(0), false)
	}
	f.Fuzz(func(t *testing.T, s string, d byte, crlf bool) {
		got := parse(s, d)
		if want := wantParse(s, d); !got.is(want) {
			t.Fatalf("Parse(%q, %d) = %+v, not %+v", s, d, got, want)
		}
		if got.errno == api.OK && !written(s, got.l, d) {
			t.Fatalf("%q is not how %q is written", s, got.l)
		}
		var l [][]string
		for line := range strings.SplitSeq(s, "a") {
			l = append(l, strings.Split(line, "b"))
		}
		text, errno := Print(l, d, crlf)
		if errno != api.OK {
			return
		}
		if got := parse(text, d); !got.is(told{l: l}) || !Same(got.l, l) {
			t.Fatalf("of %q by %d, %q, came %+v", l, d, text, got)
		}
	})
}

package quote

import (
	"strings"
	"testing"
	"unsafe"

	"tartan/api"
)

// delims has good ones and those that may not stand between fields: no call may stumble over either.
var delims = []byte{',', ';', 0, 255, 'a', 34, 13, 10}

// cells are all texts of up to five bytes, made of plain bytes and of those that a cell is quoted for.
func cells() []string {
	const alphabet = "a,\"\r\n"
	all, from := []string{""}, 0
	for range 5 {
		to := len(all)
		for _, s := range all[from:to] {
			for i := range len(alphabet) {
				all = append(all, s+alphabet[i:i+1])
			}
		}
		from = to
	}
	return append(all, "\x00", "\xff", "a\x00b", "\xff\xfe;", "ä\"ö", strings.Repeat("\"", 9))
}

// wantGet finds, by trying each length, the part of s that could have been written by Quoted and is not cut off from a quote behind it.
func wantGet(s string) (string, int, api.Errno) {
	if !strings.HasPrefix(s, `"`) {
		return "", 0, api.ErrQuote
	}
	for n := 2; n <= len(s); n++ {
		in := s[1 : n-1]
		if s[n-1] == '"' && !strings.HasPrefix(s[n:], `"`) && !strings.Contains(strings.ReplaceAll(in, `""`, ""), `"`) {
			return strings.ReplaceAll(in, `""`, `"`), n, api.OK
		}
	}
	return "", 0, api.ErrOpen
}

// P2: a delim is none of the bytes 34, 13 and 10.
func TestGoodOfEachByte(t *testing.T) {
	for i := range 256 {
		if Good(byte(i)) != (i != 34 && i != 13 && i != 10) {
			t.Errorf("Good(%d) = %v", i, Good(byte(i)))
		}
	}
}

// P2: each byte alone, by each delim, within a cell and at its ends.
func TestPlainOfEachByte(t *testing.T) {
	for d := range 256 {
		for b := range 256 {
			want := b != 34 && b != 13 && b != 10 && b != d
			one := string([]byte{byte(b)})
			// A byte that is neither special nor the delim pads the cell.
			pad := "x"
			if d == 'x' {
				pad = "y"
			}
			for _, s := range []string{one, pad + one, one + pad, pad + one + pad} {
				if Plain(s, byte(d)) != want {
					t.Fatalf("Plain(%q, %d) is not %v", s, d, want)
				}
			}
		}
		if !Plain("", byte(d)) {
			t.Fatalf("Plain of the empty cell by %d", d)
		}
	}
}

// P2: how cells are written.
func TestWritten(t *testing.T) {
	for _, s := range cells() {
		inQuotes := `"` + strings.ReplaceAll(s, `"`, `""`) + `"`
		if got := Quoted(s); got != inQuotes {
			t.Fatalf("Quoted(%q) = %q", s, got)
		}
		for _, d := range delims {
			want := s
			if plain := !strings.ContainsAny(s, "\"\r\n") && strings.IndexByte(s, d) < 0; !plain {
				want = inQuotes
			}
			if got := Put(s, d); got != want {
				t.Fatalf("Put(%q, %d) = %q", s, d, got)
			}
			if got := Size(s, d); got != len(want) {
				t.Fatalf("Size(%q, %d) = %d", s, d, got)
			}
		}
	}
}

// P2: the chapter's examples.
func TestExamples(t *testing.T) {
	if got := Put("a,b", ','); got != `"a,b"` {
		t.Errorf("by a comma: %q", got)
	}
	if got := Put("a,b", ';'); got != "a,b" {
		t.Errorf("by a semicolon: %q", got)
	}
	if got := Quoted(`"`); got != `""""` {
		t.Errorf("one quote: %q", got)
	}
}

// P2: ordinary texts, the edges, and wrong texts, with what stands beside an error.
func TestGetByHand(t *testing.T) {
	for _, x := range []struct {
		s, cell string
		n       int
		e       api.Errno
	}{
		{`"ab"`, "ab", 4, api.OK},
		{`"ab",c`, "ab", 4, api.OK},
		{`""`, "", 2, api.OK},
		{`"",""`, "", 2, api.OK},
		{`""""`, `"`, 4, api.OK},
		{`""""x`, `"`, 4, api.OK},
		{`"a""b"`, `a"b`, 6, api.OK},
		{`"a"b"`, "a", 3, api.OK},
		{`"a"""`, `a"`, 5, api.OK},
		{`"""a"`, `"a`, 5, api.OK},
		{`"a""""b"`, `a""b`, 8, api.OK},
		{"\"\r\n,\"\r\n", "\r\n,", 5, api.OK},
		{"\"\x00\xff\"\x00", "\x00\xff", 4, api.OK},
		{"", "", 0, api.ErrQuote},
		{"a", "", 0, api.ErrQuote},
		{` "a"`, "", 0, api.ErrQuote},
		{`a"b"`, "", 0, api.ErrQuote},
		{"\n", "", 0, api.ErrQuote},
		{`"`, "", 0, api.ErrOpen},
		{`"a`, "", 0, api.ErrOpen},
		{`"""`, "", 0, api.ErrOpen},
		{`"a""`, "", 0, api.ErrOpen},
		{`"a""b`, "", 0, api.ErrOpen},
		{`"""""`, "", 0, api.ErrOpen},
	} {
		cell, n, e := Get(x.s)
		if cell != x.cell || n != x.n || e != x.e {
			t.Errorf("Get(%q) = %q, %d, %v", x.s, cell, n, e)
		}
	}
}

// P1, P2: any text, with a quote ahead and without.
func TestGetOfAnyText(t *testing.T) {
	for _, c := range cells() {
		for _, s := range []string{c, `"` + c} {
			cell, n, e := Get(s)
			wantCell, wantN, wantE := wantGet(s)
			if cell != wantCell || n != wantN || e != wantE {
				t.Fatalf("Get(%q) = %q, %d, %v", s, cell, n, e)
			}
		}
	}
}

// P2: what is quoted is got back, whatever stands behind it, if that begins with no quote.
func TestQuotedIsGotBack(t *testing.T) {
	for _, s := range cells() {
		q := Quoted(s)
		for _, behind := range []string{"", ",", "\n", "\r\n", "x", "\x00", ",\"", "x\"\"", "\n" + q} {
			if cell, n, e := Get(q + behind); cell != s || n != len(q) || e != api.OK {
				t.Fatalf("Get(%q) = %q, %d, %v", q+behind, cell, n, e)
			}
		}
	}
}

// P2: a quote behind what was quoted belongs to it, so its last quote is another one, or missing.
func TestQuoteBehindIsNotTheEnd(t *testing.T) {
	for _, s := range cells() {
		q := Quoted(s)
		if cell, n, e := Get(q + `"`); cell != "" || n != 0 || e != api.ErrOpen {
			t.Fatalf("Get(%q) = %q, %d, %v", q+`"`, cell, n, e)
		}
		if cell, n, e := Get(q + `"x"`); cell != s+`"x` || n != len(q)+3 || e != api.OK {
			t.Fatalf("Get(%q) = %q, %d, %v", q+`"x"`, cell, n, e)
		}
	}
}

// P2: without its last quote nothing that was quoted is got.
func TestLastQuoteIsMissing(t *testing.T) {
	for _, s := range cells() {
		q := Quoted(s)
		if cell, n, e := Get(q[:len(q)-1]); cell != "" || n != 0 || e != api.ErrOpen {
			t.Fatalf("Get(%q) = %q, %d, %v", q[:len(q)-1], cell, n, e)
		}
	}
}

// P2: cells that are unlike are written unlike.
func TestUnlikeIsWrittenUnlike(t *testing.T) {
	for _, d := range delims {
		put, quoted := map[string]string{}, map[string]string{}
		for _, s := range cells() {
			p, q := Put(s, d), Quoted(s)
			if old, ok := put[p]; ok && old != s {
				t.Fatalf("by %d both %q and %q are put as %q", d, old, s, p)
			}
			if old, ok := quoted[q]; ok && old != s {
				t.Fatalf("both %q and %q are quoted as %q", old, s, q)
			}
			put[p], quoted[q] = s, s
		}
	}
}

// R3: an answer shares no memory with an argument.
func TestAnswersShareNothing(t *testing.T) {
	in := `"abc"`
	plain := in[1:4]
	got, _, _ := Get(in)
	for _, x := range []string{Put(plain, ','), got} {
		if x != plain || unsafe.StringData(x) == unsafe.StringData(plain) {
			t.Errorf("%q is shared, or another one", x)
		}
	}
}

// P1: long texts end as short ones do.
func TestLongCells(t *testing.T) {
	for _, s := range []string{strings.Repeat(`"`, api.MaxBytes), strings.Repeat("a", api.MaxBytes), strings.Repeat("a\"\r\n", api.MaxBytes/4)} {
		q := Quoted(s)
		if cell, n, e := Get(q + ","); cell != s || n != len(q) || e != api.OK {
			t.Errorf("a long cell of %q..: %d, %v", s[:4], n, e)
		}
		if Size(s, 'a') != len(q) || Put(s, 'a') != q {
			t.Errorf("a long cell of %q.. is written otherwise than told", s[:4])
		}
		if _, n, e := Get(q[:len(q)-1]); n != 0 || e != api.ErrOpen {
			t.Errorf("a long open cell of %q..: %d, %v", s[:4], n, e)
		}
	}
}

// P1, P2: whatever bytes there are.
func FuzzQuote(f *testing.F) {
	for _, s := range []string{"", "a", `"`, `""`, `"""`, `"a""b"c`, "\"\r\n,\"", "\x00\xff"} {
		f.Add(s, byte(','))
		f.Add(s, byte('"'))
	}
	f.Fuzz(func(t *testing.T, s string, d byte) {
		cell, n, e := Get(s)
		if wantCell, wantN, wantE := wantGet(s); cell != wantCell || n != wantN || e != wantE {
			t.Fatalf("Get(%q) = %q, %d, %v", s, cell, n, e)
		}
		if p := Put(s, d); Size(s, d) != len(p) || Plain(s, d) != (p == s) {
			t.Fatalf("Put(%q, %d) = %q", s, d, p)
		}
		q := Quoted(s)
		if cell, n, e := Get(q + ","); cell != s || n != len(q) || e != api.OK {
			t.Fatalf("Get(%q) = %q, %d, %v", q+",", cell, n, e)
		}
	})
}

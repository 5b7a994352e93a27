// Package quote is layer 1: see shared/doc/01-quote.md.
package quote

import (
	"iter"
	"strings"

	"tartan/api"
)

const (
	quoteByte  = 34
	returnByte = 13
	feedByte   = 10
)

// Good tells whether a byte may stand between fields.
func Good(delim byte) bool {
	switch delim {
	case quoteByte, returnByte, feedByte:
		return false
	}
	return true
}

// Plain tells whether a cell needs no quotes.
func Plain(s string, delim byte) bool {
	plain := true
cell:
	for i := range len(s) {
		// The bytes that no delim may be are those that a plain cell never has.
		if Good(s[i]) && s[i] != delim {
			continue cell
		}
		plain = false
		break cell
	}
	return plain
}

// Put is a cell as it is written.
func Put(s string, delim byte) string {
	if Plain(s, delim) {
		// An answer shares no memory with an argument.
		return strings.Clone(s)
	}
	return Quoted(s)
}

// Quoted is a cell in quotes.
func Quoted(s string) string {
	var out strings.Builder
	out.Grow(quotedSize(s))
	out.WriteByte(quoteByte)
cell:
	for i := range len(s) {
		out.WriteByte(s[i])
		if s[i] != quoteByte {
			continue cell
		}
		out.WriteByte(quoteByte)
	}
	out.WriteByte(quoteByte)
	return out.String()
}

// Get is what stands in quotes, and how many bytes it was written with.
func Get(s string) (string, int, api.Errno) {
	if s == "" || s[0] != quoteByte {
		return "", 0, api.ErrQuote
	}
	last := lastQuote(s)
	// The place 0 is that of the first quote, so it can stand for none.
	if last == 0 {
		return "", 0, api.ErrOpen
	}
	return halved(s[1:last]), last + 1, api.OK
}

// Size is how many bytes a cell is written with.
func Size(s string, delim byte) int {
	if Plain(s, delim) {
		return len(s)
	}
	return quotedSize(s)
}

// lastQuote is the place of the quote that ends what begins with one at place 0; 0, if none does.
func lastQuote(s string) int {
	last, at := 0, 1
text:
	for at < len(s) {
		switch {
		case s[at] != quoteByte:
			at++
			continue text
		case at+1 < len(s) && s[at+1] == quoteByte:
			at += 2
			continue text
		}
		last = at
		break text
	}
	return last
}

// halved is a text, in which all quotes stand two and two, with one for each two.
func halved(s string) string {
	var out strings.Builder
	out.Grow(len(s) - count(s)/2)
	second := false
text:
	for i := range len(s) {
		if s[i] == quoteByte && second {
			second = false
			continue text
		}
		second = s[i] == quoteByte
		out.WriteByte(s[i])
	}
	return out.String()
}

// quotedSize is how many bytes a cell has in quotes, told ahead of writing it.
func quotedSize(s string) int {
	return len(s) + count(s) + 2
}

// count is how many quotes a text has.
func count(s string) int {
	n := 0
	for range quotes(s) {
		n++
	}
	return n
}

// quotes tells the places of a text's quotes, from the left.
func quotes(s string) iter.Seq[int] {
	return func(yield func(int) bool) {
		for i := range len(s) {
			if s[i] == quoteByte && !yield(i) {
				return
			}
		}
	}
}

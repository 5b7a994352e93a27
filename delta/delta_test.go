package delta

import (
	"fmt"
	"math"
	"slices"
	"strconv"
	"strings"
	"testing"
	"unsafe"

	"tartan/api"
)

// list is a list as it is written here: texts with commas between; a stroke upwards alone is a list without texts.
func list(s string) []string {
	if s == "^" {
		return nil
	}
	return strings.Split(s, ",")
}

// parts are what stands in a list as it is written here, with strokes between: a stroke upwards alone is one with nothing in it.
func parts[T any](s string, of func(string) T) []T {
	if s == "^" {
		return nil
	}
	var own []T
	for part := range strings.SplitSeq(s, "|") {
		own = append(own, of(part))
	}
	return own
}

func number(s string) int {
	n, err := strconv.Atoi(s)
	if err != nil {
		panic(err)
	}
	return n
}

// ofPair is a pair: the places of both with a colon between.
func ofPair(s string) api.Pair {
	a, b, _ := strings.Cut(s, ":")
	return api.Pair{A: number(a), B: number(b)}
}

func ofPairs(s string) []api.Pair { return parts(s, ofPair) }

// ofLines are lines: where each stands, and its cells.
func ofLines(s string) []api.Line {
	return parts(s, func(s string) api.Line {
		at, cells, _ := strings.Cut(s, "=")
		return api.Line{At: number(at), Cells: list(cells)}
	})
}

// ofSets are cells that were changed: the pair of rows, the pair of columns, and what each was and is.
func ofSets(s string) []api.Set {
	return parts(s, func(s string) api.Set {
		l := strings.Split(s, " ")
		rows, cols := ofPair(l[0]), ofPair(l[1])
		was, is, _ := strings.Cut(l[2], ">")
		return api.Set{I: rows.A, J: rows.B, P: cols.A, Q: cols.B, Old: was, New: is}
	})
}

// ofSpots are cells of one side: the row and the column with a colon between, and the cell.
func ofSpots(s string) []api.Spot {
	return parts(s, func(s string) api.Spot {
		at, cell, _ := strings.Cut(s, "=")
		place := ofPair(at)
		return api.Spot{Row: place.A, Col: place.B, Cell: cell}
	})
}

// full is a delta with all that one may have: of four columns and five, two of which are the same, and of five rows and six, three of which are.
func full() api.Delta {
	return api.Delta{
		A:    list("a,b,c,d"),
		B:    list("c,e,f,a,g"),
		Cols: ofPairs("2:0|0:3"),
		NA:   5,
		NB:   6,
		Rows: ofPairs("3:0|1:2|0:4"),
		Dels: ofLines("2=d0,d1,d2,d3|4=,,,"),
		Inss: ofLines("1=i0,i1,i2,i3,i4|3=,,,,|5=i5,i6,i7,i8,i9"),
		Sets: ofSets("3:0 2:0 s0>t0|3:0 0:3 >t1|1:2 0:3 s2>|0:4 2:0 s3>t3"),
		Lost: ofSpots("0:1=l0|0:3=|1:1=l2|1:3=l3|3:1=l4|3:3=l5"),
		Gain: ofSpots("0:1=g0|0:2=|0:4=g2|2:1=g3|2:2=g4|2:4=g5|4:1=g6|4:2=g7|4:4=g8"),
	}
}

// still is a delta without a change, of so many columns and rows.
func still(cols, rows int) api.Delta {
	return api.Delta{A: names(cols), B: names(cols), Cols: itself(cols), NA: rows, NB: rows, Rows: itself(rows)}
}

// names are so many, all unlike.
func names(n int) []string {
	own := make([]string, n)
	for i := range own {
		own[i] = "n" + strconv.Itoa(i)
	}
	return own
}

// itself is each of so many, paired with itself.
func itself(n int) []api.Pair {
	own := make([]api.Pair, n)
	for i := range own {
		own[i] = api.Pair{A: i, B: i}
	}
	return own
}

// upTo are all lists of up to n of these.
func upTo[T any](n int, of ...T) [][]T {
	lists, from := [][]T{nil}, 0
	for range n {
		to := len(lists)
		for _, l := range lists[from:to] {
			for _, x := range of {
				lists = append(lists, append(slices.Clone(l), x))
			}
		}
		from = to
	}
	return lists
}

// pairings are all pairs that may be of so many.
func pairings(na, nb int) [][]api.Pair {
	var all []api.Pair
	for a := range na {
		for b := range nb {
			all = append(all, api.Pair{A: a, B: b})
		}
	}
	return slices.DeleteFunc(upTo(min(na, nb), all...), func(l []api.Pair) bool {
		return wantOut(l, na, nb) || wantTwicePaired(l) || wantFalling(l)
	})
}

// right has beside its names and its pairs all that should be told of them, with cells that are all unlike, and those of Sets that are wanted, by their number.
func right(d api.Delta, wanted func(n int) bool) api.Delta {
	cells := 0
	cell := func() string {
		cells++
		return "x" + strconv.Itoa(cells)
	}
	line := func(at, width int) api.Line {
		l := api.Line{At: at}
		for range width {
			l.Cells = append(l.Cells, cell())
		}
		return l
	}
	d.Dels, d.Inss, d.Sets, d.Lost, d.Gain = nil, nil, nil, nil, nil
	for _, at := range wantAlone(d.NA, d.Rows, sideA) {
		d.Dels = append(d.Dels, line(at, len(d.A)))
	}
	for _, at := range wantAlone(d.NB, d.Rows, sideB) {
		d.Inss = append(d.Inss, line(at, len(d.B)))
	}
	for _, at := range wantPlaces(d.NA, len(d.A), d.Rows, d.Cols, sideA) {
		d.Lost = append(d.Lost, api.Spot{Row: at.A, Col: at.B, Cell: cell()})
	}
	for _, at := range wantPlaces(d.NB, len(d.B), d.Rows, d.Cols, sideB) {
		d.Gain = append(d.Gain, api.Spot{Row: at.A, Col: at.B, Cell: cell()})
	}
	n := 0
	for _, row := range d.Rows {
		for _, col := range d.Cols {
			if wanted(n) {
				d.Sets = append(d.Sets, api.Set{I: row.A, J: row.B, P: col.A, Q: col.B, Old: cell(), New: cell()})
			}
			n++
		}
	}
	return d
}

func all(int) bool { return true }

func none(int) bool { return false }

// rights are all deltas that may be of up to so many columns and rows, with each choice of Sets.
func rights(cols, rows int) []api.Delta {
	var own []api.Delta
	add := func(d api.Delta) {
		cells := len(d.Rows) * len(d.Cols)
		choices := 1 << min(cells, 4)
		for choice := range choices {
			// Of more than four cells the others are like those four.
			own = append(own, right(d, func(n int) bool { return choice>>(n%4)&1 == 1 }))
		}
	}
	for a := 1; a <= cols; a++ {
		for b := 1; b <= cols; b++ {
			for _, l := range pairings(a, b) {
				for na := range rows + 1 {
					for nb := range rows + 1 {
						for _, m := range pairings(na, nb) {
							add(api.Delta{A: names(a), B: names(b), Cols: l, NA: na, NB: nb, Rows: m})
						}
					}
				}
			}
		}
	}
	return own
}

// tell is all that a delta holds: two are alike just if it is.
func tell(d api.Delta) string {
	b := fmt.Appendf(nil, "A%q B%q Cols%v NA%d NB%d Rows%v", d.A, d.B, d.Cols, d.NA, d.NB, d.Rows)
	for k, l := range [][]api.Line{d.Dels, d.Inss} {
		b = append(b, []string{" Dels", " Inss"}[k]...)
		for _, x := range l {
			b = fmt.Appendf(b, "{%d %q}", x.At, x.Cells)
		}
	}
	b = append(b, " Sets"...)
	for _, x := range d.Sets {
		b = fmt.Appendf(b, "{%d:%d %d:%d %q>%q}", x.I, x.J, x.P, x.Q, x.Old, x.New)
	}
	for k, l := range [][]api.Spot{d.Lost, d.Gain} {
		b = append(b, []string{" Lost", " Gain"}[k]...)
		for _, x := range l {
			b = fmt.Appendf(b, "{%d:%d %q}", x.Row, x.Col, x.Cell)
		}
	}
	return string(b)
}

// short is the beginning of what may be long.
func short(d api.Delta) string { return fmt.Sprintf("%.1500s", tell(d)) }

// What follows, up to the first asking function, is a plain reading of the chapter, and of what it takes from the one of pairs.

func sideA(p api.Pair) int { return p.A }

func sideB(p api.Pair) int { return p.B }

// wantAlone are those of so many that are on that side of no pair, rising; what is beyond the limits is not gone through, as it is wrong already.
func wantAlone(n int, l []api.Pair, side func(api.Pair) int) []int {
	var own []int
	for x := 0; x < min(n, 500); x++ {
		if !slices.ContainsFunc(l, func(p api.Pair) bool { return side(p) == x }) {
			own = append(own, x)
		}
	}
	return own
}

// wantPlaces are, for each row that is in a pair, each column that is in none.
func wantPlaces(n, width int, rows, cols []api.Pair, side func(api.Pair) int) []api.Pair {
	alone := wantAlone(n, rows, side)
	var own []api.Pair
	for row := 0; row < min(n, 500); row++ {
		if slices.Contains(alone, row) {
			continue
		}
		for _, col := range wantAlone(width, cols, side) {
			own = append(own, api.Pair{A: row, B: col})
		}
	}
	return own
}

func wantTwiceNamed(l []string) bool {
	seen := map[string]int{}
	for _, name := range l {
		seen[name]++
	}
	return len(seen) < len(l)
}

func wantOut(l []api.Pair, na, nb int) bool {
	for _, p := range l {
		if p.A < 0 || p.A > na-1 || p.B < 0 || p.B > nb-1 {
			return true
		}
	}
	return false
}

func wantTwicePaired(l []api.Pair) bool {
	as, bs := map[int]int{}, map[int]int{}
	for _, p := range l {
		as[p.A]++
		bs[p.B]++
	}
	return len(as) < len(l) || len(bs) < len(l)
}

func wantFalling(l []api.Pair) bool {
	for i := range l {
		if i > 0 && l[i].B < l[i-1].B {
			return true
		}
	}
	return false
}

func wantLines(l []api.Line, width int, alone []int) bool {
	var at []int
	for _, x := range l {
		if len(x.Cells) != width {
			return false
		}
		at = append(at, x.At)
	}
	return slices.Equal(at, alone)
}

func wantSpots(l []api.Spot, places []api.Pair) bool {
	var at []api.Pair
	for _, x := range l {
		at = append(at, api.Pair{A: x.Row, B: x.Col})
	}
	return slices.Equal(at, places)
}

func wantAnyLong(l ...string) bool {
	for _, text := range l {
		if len(text) > 1000 {
			return true
		}
	}
	return false
}

func cellsOf(l []api.Line) []string {
	var own []string
	for _, x := range l {
		own = append(own, x.Cells...)
	}
	return own
}

func textsOf(l []api.Spot) []string {
	var own []string
	for _, x := range l {
		own = append(own, x.Cell)
	}
	return own
}

func oldAndNew(l []api.Set) ([]string, []string) {
	var was, is []string
	for _, x := range l {
		was, is = append(was, x.Old), append(is, x.New)
	}
	return was, is
}

// step is one of the things that may be wrong.
type step struct {
	name  string
	errno api.Errno
	wrong func(d api.Delta) bool
}

// steps are all of them, in the chapter's order.
func steps() []step {
	return []step{
		{"A empty", api.ErrEmpty, func(d api.Delta) bool { return len(d.A) == 0 }},
		{"B empty", api.ErrEmpty, func(d api.Delta) bool { return len(d.B) == 0 }},
		{"A twice", api.ErrTwice, func(d api.Delta) bool { return wantTwiceNamed(d.A) }},
		{"B twice", api.ErrTwice, func(d api.Delta) bool { return wantTwiceNamed(d.B) }},
		{"A large", api.ErrLarge, func(d api.Delta) bool { return len(d.A) > 40 }},
		{"B large", api.ErrLarge, func(d api.Delta) bool { return len(d.B) > 40 }},
		{"NA large", api.ErrLarge, func(d api.Delta) bool { return d.NA > 400 }},
		{"NB large", api.ErrLarge, func(d api.Delta) bool { return d.NB > 400 }},
		{"Cols place", api.ErrPlace, func(d api.Delta) bool { return wantOut(d.Cols, len(d.A), len(d.B)) }},
		{"Cols twice", api.ErrTwice, func(d api.Delta) bool { return wantTwicePaired(d.Cols) }},
		{"Cols order", api.ErrOrder, func(d api.Delta) bool { return wantFalling(d.Cols) }},
		{"Rows arg", api.ErrArg, func(d api.Delta) bool { return d.NA < 0 || d.NB < 0 }},
		{"Rows place", api.ErrPlace, func(d api.Delta) bool { return wantOut(d.Rows, d.NA, d.NB) }},
		{"Rows twice", api.ErrTwice, func(d api.Delta) bool { return wantTwicePaired(d.Rows) }},
		{"Rows order", api.ErrOrder, func(d api.Delta) bool { return wantFalling(d.Rows) }},
		{"Dels", api.ErrForm, func(d api.Delta) bool { return !wantLines(d.Dels, len(d.A), wantAlone(d.NA, d.Rows, sideA)) }},
		{"Inss", api.ErrForm, func(d api.Delta) bool { return !wantLines(d.Inss, len(d.B), wantAlone(d.NB, d.Rows, sideB)) }},
		{"Lost", api.ErrForm, func(d api.Delta) bool {
			return !wantSpots(d.Lost, wantPlaces(d.NA, len(d.A), d.Rows, d.Cols, sideA))
		}},
		{"Gain", api.ErrForm, func(d api.Delta) bool {
			return !wantSpots(d.Gain, wantPlaces(d.NB, len(d.B), d.Rows, d.Cols, sideB))
		}},
		{"Sets order", api.ErrForm, wantSetsMixed},
		{"Sets rows", api.ErrForm, func(d api.Delta) bool {
			return slices.ContainsFunc(d.Sets, func(s api.Set) bool { return !slices.Contains(d.Rows, api.Pair{A: s.I, B: s.J}) })
		}},
		{"Sets cols", api.ErrForm, func(d api.Delta) bool {
			return slices.ContainsFunc(d.Sets, func(s api.Set) bool { return !slices.Contains(d.Cols, api.Pair{A: s.P, B: s.Q}) })
		}},
		{"Sets alike", api.ErrForm, func(d api.Delta) bool {
			return slices.ContainsFunc(d.Sets, func(s api.Set) bool { return s.Old == s.New })
		}},
		{"A long", api.ErrLarge, func(d api.Delta) bool { return wantAnyLong(d.A...) }},
		{"B long", api.ErrLarge, func(d api.Delta) bool { return wantAnyLong(d.B...) }},
		{"Dels long", api.ErrLarge, func(d api.Delta) bool { return wantAnyLong(cellsOf(d.Dels)...) }},
		{"Inss long", api.ErrLarge, func(d api.Delta) bool { return wantAnyLong(cellsOf(d.Inss)...) }},
		{"Old long", api.ErrLarge, func(d api.Delta) bool { was, _ := oldAndNew(d.Sets); return wantAnyLong(was...) }},
		{"New long", api.ErrLarge, func(d api.Delta) bool { _, is := oldAndNew(d.Sets); return wantAnyLong(is...) }},
		{"Lost long", api.ErrLarge, func(d api.Delta) bool { return wantAnyLong(textsOf(d.Lost)...) }},
		{"Gain long", api.ErrLarge, func(d api.Delta) bool { return wantAnyLong(textsOf(d.Gain)...) }},
	}
}

// wantSetsMixed tells whether Sets are not in order, or two have the same J and the same Q.
func wantSetsMixed(d api.Delta) bool {
	for k, s := range d.Sets {
		if k == 0 {
			continue
		}
		ahead := d.Sets[k-1]
		if s.J < ahead.J || s.J == ahead.J && s.Q <= ahead.Q {
			return true
		}
	}
	return false
}

func wantCheck(d api.Delta) api.Errno {
	for _, s := range steps() {
		if s.wrong(d) {
			return s.errno
		}
	}
	return api.OK
}

func wantTurnedPairs(l []api.Pair) []api.Pair {
	var own []api.Pair
	for _, p := range l {
		at := len(own)
		for at > 0 && own[at-1].B > p.A {
			at--
		}
		own = slices.Insert(own, at, api.Pair{A: p.B, B: p.A})
	}
	return own
}

func wantTurn(d api.Delta) api.Delta {
	own := api.Delta{
		A: d.B, B: d.A, Cols: wantTurnedPairs(d.Cols), NA: d.NB, NB: d.NA, Rows: wantTurnedPairs(d.Rows),
		Dels: d.Inss, Inss: d.Dels, Lost: d.Gain, Gain: d.Lost,
	}
	for _, s := range d.Sets {
		at := len(own.Sets)
		for at > 0 && (own.Sets[at-1].J > s.I || own.Sets[at-1].J == s.I && own.Sets[at-1].Q > s.P) {
			at--
		}
		own.Sets = slices.Insert(own.Sets, at, api.Set{I: s.J, J: s.I, P: s.Q, Q: s.P, Old: s.New, New: s.Old})
	}
	return own
}

func wantNone(d api.Delta) bool {
	return len(d.Rows) == d.NA && tell(d) == tell(api.Delta{
		A: d.A, B: d.A, Cols: itself(len(d.A)), NA: d.NA, NB: d.NA, Rows: itself(len(d.Rows)),
	})
}

func askCheck(t *testing.T, d api.Delta, want api.Errno) {
	t.Helper()
	if got := Check(d); got != want {
		t.Errorf("Check(%s) is %v, not %v", short(d), got, want)
	}
}

func askTurn(t *testing.T, d, want api.Delta) {
	t.Helper()
	if got := Turn(d); tell(got) != tell(want) {
		t.Errorf("Turn(%s) is %s, not %s", short(d), short(got), short(want))
	}
}

func askNone(t *testing.T, d api.Delta, want bool) {
	t.Helper()
	if got := None(d); got != want {
		t.Errorf("None(%s) is %v", short(d), got)
	}
}

// askSame asks either way round.
func askSame(t *testing.T, a, b api.Delta, want bool) {
	t.Helper()
	if one, other := Same(a, b), Same(b, a); one != want || other != want {
		t.Errorf("Same of %s and %s is %v, and the other way round %v", short(a), short(b), one, other)
	}
}

// ask asks all calls about one delta.
func ask(t *testing.T, d api.Delta) {
	t.Helper()
	want, turned := wantCheck(d), wantTurn(d)
	askCheck(t, d, want)
	askTurn(t, d, turned)
	askNone(t, d, wantNone(d))
	askSame(t, d, d, true)
	askSame(t, d, turned, tell(d) == tell(turned))
	if want == api.OK {
		askHeld(t, d)
	}
}

// askHeld asks what holds of each delta that may be, by the calls alone.
func askHeld(t *testing.T, d api.Delta) {
	t.Helper()
	turned := Turn(d)
	if again := Turn(turned); !Same(again, d) || tell(again) != tell(d) {
		t.Errorf("%s, turned twice, is %s", short(d), short(again))
	}
	if errno := Check(turned); errno != api.OK {
		t.Errorf("%s may be, but turned it is %s: %v", short(d), short(turned), errno)
	}
	if None(turned) != None(d) {
		t.Errorf("%s has a change one way round alone", short(d))
	}
}

func TestExamples(t *testing.T) {
	d := api.Delta{A: []string{"a"}, B: []string{"b"}}
	askCheck(t, d, api.OK)
	d.NA = 1
	askCheck(t, d, api.ErrForm)
	d = api.Delta{A: []string{"a", "b"}, B: []string{"a", "b"}}
	askCheck(t, d, api.OK)
	d.NA = 1
	askCheck(t, d, api.ErrForm)
}

// set puts another one at a place, if there is such a place.
func set[T any](l []T, at int, by func(*T)) {
	if at < len(l) {
		by(&l[at])
	}
}

// out is a list with one left out, if there is such a one.
func out[T any](l []T, at int) []T {
	if at >= len(l) {
		return l
	}
	return slices.Delete(slices.Clone(l), at, at+1)
}

// in is a list with one put in, as far behind as it can be.
func in[T any](l []T, at int, x T) []T {
	return slices.Insert(slices.Clone(l), min(at, len(l)), x)
}

// about is a list in which two have changed places, if there are such.
func about[T any](l []T, one, other int) []T {
	own := slices.Clone(l)
	if max(one, other) < len(own) {
		own[one], own[other] = own[other], own[one]
	}
	return own
}

// spoiling makes one thing wrong of what full tells.
type spoiling struct {
	step string
	name string
	do   func(d *api.Delta)
}

// spoilings are those of heads and of pairs, those of what is told of whole rows, of cells of one side, of cells that were changed, and of long texts.
func spoilings() []spoiling {
	return slices.Concat(headSpoilings(), pairSpoilings(), lineSpoilings(), spotSpoilings(), setSpoilings(), longSpoilings())
}

func headSpoilings() []spoiling {
	return []spoiling{
		{"A empty", "nil", func(d *api.Delta) { d.A = nil }},
		{"A empty", "made", func(d *api.Delta) { d.A = []string{} }},
		{"B empty", "nil", func(d *api.Delta) { d.B = nil }},
		{"B empty", "made", func(d *api.Delta) { d.B = []string{} }},
		{"A twice", "first and last", func(d *api.Delta) { set(d.A, 3, func(s *string) { *s = d.A[0] }) }},
		{"A twice", "side by side", func(d *api.Delta) { set(d.A, 2, func(s *string) { *s = d.A[1] }) }},
		{"A twice", "empty", func(d *api.Delta) { d.A = append(d.A, "", "") }},
		{"B twice", "first and last", func(d *api.Delta) { set(d.B, 4, func(s *string) { *s = d.B[0] }) }},
		{"B twice", "side by side", func(d *api.Delta) { set(d.B, 2, func(s *string) { *s = d.B[1] }) }},
		{"B twice", "empty", func(d *api.Delta) { d.B = append(d.B, "", "") }},
		{"A large", "41", func(d *api.Delta) { d.A = names(41) }},
		{"A large", "100", func(d *api.Delta) { d.A = names(100) }},
		{"B large", "41", func(d *api.Delta) { d.B = names(41) }},
		{"B large", "100", func(d *api.Delta) { d.B = names(100) }},
		{"NA large", "401", func(d *api.Delta) { d.NA = 401 }},
		{"NA large", "most", func(d *api.Delta) { d.NA = math.MaxInt }},
		{"NB large", "401", func(d *api.Delta) { d.NB = 401 }},
		{"NB large", "most", func(d *api.Delta) { d.NB = math.MaxInt }},
	}
}

func pairSpoilings() []spoiling {
	put := func(at int, p api.Pair) func(d *api.Delta) {
		return func(d *api.Delta) { set(d.Cols, at, func(x *api.Pair) { *x = p }) }
	}
	row := func(at int, p api.Pair) func(d *api.Delta) {
		return func(d *api.Delta) { set(d.Rows, at, func(x *api.Pair) { *x = p }) }
	}
	return []spoiling{
		{"Cols place", "A is behind the last one", put(0, ofPair("4:0"))},
		{"Cols place", "A is below 0", put(1, ofPair("-1:3"))},
		{"Cols place", "B is behind the last one", put(1, ofPair("0:5"))},
		{"Cols place", "B is below 0", put(0, ofPair("2:-1"))},
		{"Cols place", "one more", func(d *api.Delta) { d.Cols = append(d.Cols, ofPair("41:41")) }},
		{"Cols twice", "A", func(d *api.Delta) { set(d.Cols, 1, func(x *api.Pair) { x.A = d.Cols[0].A }) }},
		{"Cols twice", "B", func(d *api.Delta) { set(d.Cols, 1, func(x *api.Pair) { x.B = d.Cols[0].B }) }},
		{"Cols twice", "both", func(d *api.Delta) { set(d.Cols, 1, func(x *api.Pair) { *x = d.Cols[0] }) }},
		{"Cols order", "", func(d *api.Delta) { d.Cols = about(d.Cols, 0, 1) }},
		{"Rows arg", "NA", func(d *api.Delta) { d.NA = -1 }},
		{"Rows arg", "NB", func(d *api.Delta) { d.NB = -1 }},
		{"Rows arg", "both", func(d *api.Delta) { d.NA, d.NB = math.MinInt, math.MinInt }},
		{"Rows place", "A is behind the last one", row(0, ofPair("5:0"))},
		{"Rows place", "A is below 0", row(2, ofPair("-1:4"))},
		{"Rows place", "B is behind the last one", row(2, ofPair("0:6"))},
		{"Rows place", "B is below 0", row(0, ofPair("3:-1"))},
		{"Rows place", "one more", func(d *api.Delta) { d.Rows = append(d.Rows, ofPair("500:500")) }},
		{"Rows place", "no rows", func(d *api.Delta) { d.NA = 0 }},
		{"Rows twice", "A", func(d *api.Delta) { set(d.Rows, 1, func(x *api.Pair) { x.A = d.Rows[0].A }) }},
		{"Rows twice", "B", func(d *api.Delta) { set(d.Rows, 1, func(x *api.Pair) { x.B = d.Rows[0].B }) }},
		{"Rows twice", "both", func(d *api.Delta) { set(d.Rows, 2, func(x *api.Pair) { *x = d.Rows[0] }) }},
		{"Rows order", "the first ones", func(d *api.Delta) { d.Rows = about(d.Rows, 0, 1) }},
		{"Rows order", "the last ones", func(d *api.Delta) { d.Rows = about(d.Rows, 1, 2) }},
	}
}

func lineSpoilings() []spoiling {
	var own []spoiling
	for _, x := range []struct {
		step string
		of   func(d *api.Delta) *[]api.Line
		// A row that is in a pair, ahead of the first one that is in none, or behind it; how many there are; how many cells one has.
		ahead, behind, rows, width int
	}{
		{"Dels", func(d *api.Delta) *[]api.Line { return &d.Dels }, 1, 3, 5, 4},
		{"Inss", func(d *api.Delta) *[]api.Line { return &d.Inss }, 0, 2, 6, 5},
	} {
		add := func(name string, by func(l []api.Line) []api.Line) {
			own = append(own, spoiling{x.step, name, func(d *api.Delta) { *x.of(d) = by(*x.of(d)) }})
		}
		put := func(name string, at int, by func(l *api.Line)) {
			add(name, func(l []api.Line) []api.Line { set(l, at, by); return l })
		}
		line := func(at int) api.Line { return api.Line{At: at, Cells: names(x.width)} }
		add("none", func([]api.Line) []api.Line { return nil })
		add("the first one left out", func(l []api.Line) []api.Line { return out(l, 0) })
		add("the second one left out", func(l []api.Line) []api.Line { return out(l, 1) })
		add("the first one alone", func(l []api.Line) []api.Line { return l[:min(len(l), 1)] })
		add("the first one twice", func(l []api.Line) []api.Line { return slices.Concat(l[:min(len(l), 1)], l) })
		add("the last one twice", func(l []api.Line) []api.Line { return slices.Concat(l, l[max(len(l)-1, 0):]) })
		add("all twice", func(l []api.Line) []api.Line { return slices.Concat(l, l) })
		add("one too many, ahead", func(l []api.Line) []api.Line { return in(l, 0, line(x.ahead)) })
		add("one too many, between", func(l []api.Line) []api.Line { return in(l, 1, line(x.behind)) })
		add("one too many, behind the last row", func(l []api.Line) []api.Line { return append(l, line(x.rows)) })
		add("one too many, below 0", func(l []api.Line) []api.Line { return in(l, 0, line(-1)) })
		add("another order", func(l []api.Line) []api.Line { return about(l, 0, 1) })
		put("a row that is in a pair, ahead", 0, func(l *api.Line) { l.At = x.ahead })
		put("a row that is in a pair, behind", 0, func(l *api.Line) { l.At = x.behind })
		put("behind the last row", 1, func(l *api.Line) { l.At = x.rows })
		put("below 0", 0, func(l *api.Line) { l.At = -1 })
		put("a cell too few", 0, func(l *api.Line) { l.Cells = names(x.width - 1) })
		put("a cell too few in the second one", 1, func(l *api.Line) { l.Cells = names(x.width - 1) })
		put("a cell too many", 0, func(l *api.Line) { l.Cells = names(x.width + 1) })
		put("a cell too many in the second one", 1, func(l *api.Line) { l.Cells = names(x.width + 1) })
		put("no cells", 0, func(l *api.Line) { l.Cells = nil })
		put("many cells", 1, func(l *api.Line) { l.Cells = names(500) })
	}
	return own
}

func spotSpoilings() []spoiling {
	var own []spoiling
	for _, x := range []struct {
		step string
		of   func(d *api.Delta) *[]api.Spot
		// How many columns are in no pair; how many rows and columns there are; a row that is in no pair; the last one that is in a pair.
		alone, rows, cols, gone, last int
	}{
		{"Lost", func(d *api.Delta) *[]api.Spot { return &d.Lost }, 2, 5, 4, 2, 3},
		{"Gain", func(d *api.Delta) *[]api.Spot { return &d.Gain }, 3, 6, 5, 1, 4},
	} {
		add := func(name string, by func(l []api.Spot) []api.Spot) {
			own = append(own, spoiling{x.step, name, func(d *api.Delta) { *x.of(d) = by(*x.of(d)) }})
		}
		put := func(name string, at int, by func(l *api.Spot)) {
			add(name, func(l []api.Spot) []api.Spot { set(l, at, by); return l })
		}
		add("none", func([]api.Spot) []api.Spot { return nil })
		add("the first one left out", func(l []api.Spot) []api.Spot { return out(l, 0) })
		add("the third one left out", func(l []api.Spot) []api.Spot { return out(l, 2) })
		add("the last one left out", func(l []api.Spot) []api.Spot { return l[:max(len(l)-1, 0)] })
		add("the first row left out", func(l []api.Spot) []api.Spot { return l[min(len(l), x.alone):] })
		add("the last row left out", func(l []api.Spot) []api.Spot { return l[:max(len(l)-x.alone, 0)] })
		add("a column left out", func(l []api.Spot) []api.Spot {
			return slices.DeleteFunc(l, func(s api.Spot) bool { return s.Col == 1 })
		})
		add("the first one twice", func(l []api.Spot) []api.Spot { return slices.Concat(l[:min(len(l), 1)], l) })
		add("the last one twice", func(l []api.Spot) []api.Spot { return slices.Concat(l, l[max(len(l)-1, 0):]) })
		add("all twice", func(l []api.Spot) []api.Spot { return slices.Concat(l, l) })
		add("one too many, of a row in no pair", func(l []api.Spot) []api.Spot { return in(l, x.alone, api.Spot{Row: x.gone, Col: 1}) })
		add("one too many, of a column in a pair", func(l []api.Spot) []api.Spot { return in(l, 0, api.Spot{Row: 0, Col: 0}) })
		add("one too many, behind the last row", func(l []api.Spot) []api.Spot { return append(l, api.Spot{Row: x.rows, Col: 1}) })
		add("one too many, behind the last column", func(l []api.Spot) []api.Spot { return append(l, api.Spot{Row: x.last, Col: x.cols}) })
		add("one too many, below 0", func(l []api.Spot) []api.Spot { return in(l, 0, api.Spot{Row: -1, Col: 1}) })
		add("another order in a row", func(l []api.Spot) []api.Spot { return about(l, 0, 1) })
		add("another order of rows", func(l []api.Spot) []api.Spot { return about(l, 1, x.alone) })
		add("column by column", func(l []api.Spot) []api.Spot {
			own := slices.Clone(l)
			slices.SortStableFunc(own, func(s, t api.Spot) int { return s.Col - t.Col })
			return own
		})
		put("a row in no pair", x.alone, func(s *api.Spot) { s.Row = x.gone })
		put("a column in a pair", 0, func(s *api.Spot) { s.Col = 0 })
		put("another row", 0, func(s *api.Spot) { s.Row = x.last })
		put("another column", 0, func(s *api.Spot) { s.Col = x.cols - 1 })
		put("the row below 0", 0, func(s *api.Spot) { s.Row = -1 })
		put("the column below 0", 0, func(s *api.Spot) { s.Col = -1 })
		put("behind the last row", 3*x.alone-1, func(s *api.Spot) { s.Row = x.rows })
		put("behind the last column", 3*x.alone-1, func(s *api.Spot) { s.Col = x.cols })
		put("row and column changed about", 1, func(s *api.Spot) { s.Row, s.Col = s.Col, s.Row })
	}
	return own
}

func setSpoilings() []spoiling {
	put := func(at int, by func(s *api.Set)) func(d *api.Delta) {
		return func(d *api.Delta) { set(d.Sets, at, by) }
	}
	turn := func(by func(l []api.Set) []api.Set) func(d *api.Delta) {
		return func(d *api.Delta) { d.Sets = by(d.Sets) }
	}
	more := func(s string) func(d *api.Delta) {
		return func(d *api.Delta) { d.Sets = append(d.Sets, ofSets(s)...) }
	}
	return []spoiling{
		{"Sets order", "another order of J", turn(func(l []api.Set) []api.Set { return about(l, 2, 3) })},
		{"Sets order", "another order of Q", turn(func(l []api.Set) []api.Set { return about(l, 0, 1) })},
		{"Sets order", "the last one first", turn(func(l []api.Set) []api.Set { return about(l, 0, 3) })},
		{"Sets order", "order of I", turn(func(l []api.Set) []api.Set {
			own := slices.Clone(l)
			slices.SortStableFunc(own, func(s, t api.Set) int { return s.I - t.I })
			return own
		})},
		{"Sets order", "order of P", turn(func(l []api.Set) []api.Set {
			own := slices.Clone(l)
			slices.SortStableFunc(own, func(s, t api.Set) int { return s.P - t.P })
			return own
		})},
		{"Sets order", "the first one twice", turn(func(l []api.Set) []api.Set { return slices.Concat(l[:min(len(l), 1)], l) })},
		{"Sets order", "the last one twice", turn(func(l []api.Set) []api.Set { return slices.Concat(l, l[max(len(l)-1, 0):]) })},
		{"Sets order", "of another cell, at the same place", more("0:4 2:0 u>v")},
		{"Sets order", "all twice", turn(func(l []api.Set) []api.Set { return slices.Concat(l, l) })},
		{"Sets rows", "I is in no pair", put(3, func(s *api.Set) { s.I = 2 })},
		{"Sets rows", "J is in no pair", put(3, func(s *api.Set) { s.J = 5 })},
		{"Sets rows", "I and J are in no pair", more("4:5 2:0 u>v")},
		{"Sets rows", "I and J are of two pairs", put(3, func(s *api.Set) { s.I = 1 })},
		{"Sets rows", "I and J have changed places", func(d *api.Delta) { d.Sets = ofSets("4:0 2:0 u>v") }},
		{"Sets rows", "I is below 0", put(0, func(s *api.Set) { s.I = -1 })},
		{"Sets rows", "J is below 0", put(0, func(s *api.Set) { s.J = -1 })},
		{"Sets rows", "I is behind the last one", put(0, func(s *api.Set) { s.I = 5 })},
		{"Sets rows", "J is behind the last one", put(3, func(s *api.Set) { s.J = 6 })},
		{"Sets cols", "P is in no pair", put(3, func(s *api.Set) { s.P = 1 })},
		{"Sets cols", "Q is in no pair", put(3, func(s *api.Set) { s.Q = 1 })},
		{"Sets cols", "P and Q are in no pair", more("0:4 3:4 u>v")},
		{"Sets cols", "P and Q are of two pairs", put(3, func(s *api.Set) { s.P = 0 })},
		{"Sets cols", "P and Q have changed places", func(d *api.Delta) { d.Sets = ofSets("0:4 3:0 u>v") }},
		{"Sets cols", "P is below 0", put(0, func(s *api.Set) { s.P = -1 })},
		{"Sets cols", "Q is below 0", put(0, func(s *api.Set) { s.Q = -1 })},
		{"Sets cols", "P is behind the last one", put(0, func(s *api.Set) { s.P = 4 })},
		{"Sets cols", "Q is behind the last one", put(3, func(s *api.Set) { s.Q = 5 })},
		{"Sets alike", "Old is New", put(0, func(s *api.Set) { s.Old = s.New })},
		{"Sets alike", "in the last one", put(3, func(s *api.Set) { s.New = s.Old })},
		{"Sets alike", "both are empty", put(1, func(s *api.Set) { s.New = "" })},
		{"Sets alike", "one more", more("0:4 0:3 u>u")},
	}
}

// texts are all places of a delta's names and cells, by the step that tells them.
func texts(d *api.Delta) map[string][]*string {
	own := map[string][]*string{}
	add := func(step string, s *string) { own[step] = append(own[step], s) }
	for i := range d.A {
		add("A long", &d.A[i])
	}
	for i := range d.B {
		add("B long", &d.B[i])
	}
	for i := range d.Dels {
		for k := range d.Dels[i].Cells {
			add("Dels long", &d.Dels[i].Cells[k])
		}
	}
	for i := range d.Inss {
		for k := range d.Inss[i].Cells {
			add("Inss long", &d.Inss[i].Cells[k])
		}
	}
	for i := range d.Sets {
		add("Old long", &d.Sets[i].Old)
		add("New long", &d.Sets[i].New)
	}
	for i := range d.Lost {
		add("Lost long", &d.Lost[i].Cell)
	}
	for i := range d.Gain {
		add("Gain long", &d.Gain[i].Cell)
	}
	return own
}

func longSpoilings() []spoiling {
	var own []spoiling
	for _, step := range []string{"A long", "B long", "Dels long", "Inss long", "Old long", "New long", "Lost long", "Gain long"} {
		for _, last := range []bool{false, true} {
			own = append(own, spoiling{step, fmt.Sprint("the last one: ", last), func(d *api.Delta) {
				l := texts(d)[step]
				if len(l) == 0 {
					return
				}
				at := 0
				if last {
					at = len(l) - 1
				}
				*l[at] = strings.Repeat("l", 1001)
			}})
		}
	}
	return own
}

// Each error alone, told by hand; the plain reading tells the same.
func TestEachError(t *testing.T) {
	errnos := map[string]api.Errno{}
	for _, s := range steps() {
		errnos[s.name] = s.errno
	}
	seen := map[string]bool{}
	for _, s := range spoilings() {
		d := full()
		s.do(&d)
		seen[s.step] = true
		if want := wantCheck(d); want != errnos[s.step] {
			t.Errorf("%s, %s: the plain reading tells %v of %s", s.step, s.name, want, short(d))
		}
		askCheck(t, d, errnos[s.step])
		ask(t, d)
	}
	if len(seen) != len(steps()) {
		t.Errorf("of %d steps %d are asked", len(steps()), len(seen))
	}
}

// Each error stands ahead of all that the chapter names behind it.
func TestEachTwoErrors(t *testing.T) {
	at, errnos := map[string]int{}, map[string]api.Errno{}
	for i, s := range steps() {
		at[s.name], errnos[s.name] = i, s.errno
	}
	both := map[string]bool{}
	for _, one := range spoilings() {
		for _, other := range spoilings() {
			d := full()
			one.do(&d)
			other.do(&d)
			want := wantCheck(d)
			askCheck(t, d, want)
			if at[one.step] <= at[other.step] || errnos[one.step] == errnos[other.step] {
				continue
			}
			// What was spoilt last is the earlier one: that is spoilt now, whatever the other one had done.
			if want != errnos[other.step] {
				t.Errorf("%s, %s and %s, %s: the plain reading tells %v", one.step, one.name, other.step, other.name, want)
			}
			if steps()[at[one.step]].wrong(d) {
				both[other.step+" and "+one.step] = true
			}
		}
	}
	never := list("A empty and A twice,A empty and A large,A empty and A long,B empty and B twice,B empty and B large,B empty and B long")
	for k, other := range steps() {
		for _, one := range steps()[k+1:] {
			name := other.name + " and " + one.name
			if one.errno != other.errno && both[name] == slices.Contains(never, name) {
				t.Errorf("%s were both wrong: %v", name, both[name])
			}
		}
	}
}

// The errors' numbers are those that the chapter tells.
func TestNumbersOfErrors(t *testing.T) {
	for _, x := range []struct {
		d    api.Delta
		want int
	}{
		{api.Delta{}, 8},
		{api.Delta{A: list("a,a"), B: list("a")}, 10},
		{api.Delta{A: list("a"), B: list("a"), NA: 401}, 7},
		{api.Delta{A: list("a"), B: list("a"), NA: -1}, 1},
		{api.Delta{A: list("a"), B: list("a"), Cols: ofPairs("1:0")}, 11},
		{api.Delta{A: list("a,b"), B: list("a,b"), Cols: ofPairs("0:1|1:0")}, 12},
		{api.Delta{A: list("a"), B: list("a"), NB: 1}, 13},
		{api.Delta{A: list("a"), B: list("a")}, 0},
	} {
		askCheck(t, x.d, api.Errno(x.want))
	}
}

// What may be, by hand.
func TestMayBe(t *testing.T) {
	for i, d := range []api.Delta{
		full(),
		{A: list("a"), B: list("a")},
		{A: list(""), B: list("")},
		{A: list(""), B: list("\xff,\x00"), NA: 400, NB: 0, Dels: right(api.Delta{A: list("a"), NA: 400}, none).Dels},
		{A: list("a,b"), B: list("b,a"), Cols: ofPairs("1:0|0:1")},
		{A: list("a"), B: list("b"), Cols: ofPairs("0:0")},
		{A: list("a,b"), B: list("c"), NA: 1, Dels: ofLines("0=x,y")},
		{A: list("a,b"), B: list("c"), NB: 1, Inss: ofLines("0=x")},
		{A: list("a,b"), B: list("c"), NA: 1, NB: 1, Dels: ofLines("0=x,y"), Inss: ofLines("0=x")},
		{A: list("a,b"), B: list("c"), NA: 1, NB: 1, Rows: ofPairs("0:0"), Lost: ofSpots("0:0=x|0:1=y"), Gain: ofSpots("0:0=z")},
		{A: list("a,b"), B: list("b"), Cols: ofPairs("1:0"), NA: 1, NB: 1, Rows: ofPairs("0:0"), Lost: ofSpots("0:0=x")},
		{A: list("b"), B: list("a,b"), Cols: ofPairs("0:1"), NA: 1, NB: 1, Rows: ofPairs("0:0"), Gain: ofSpots("0:0=x")},
		{A: list("a"), B: list("a"), Cols: ofPairs("0:0"), NA: 2, NB: 2, Rows: ofPairs("1:0|0:1")},
		{A: list("a"), B: list("a"), Cols: ofPairs("0:0"), NA: 2, NB: 2, Rows: ofPairs("1:0|0:1"), Sets: ofSets("1:0 0:0 x>y|0:1 0:0 >z")},
		{A: list("a"), B: list("a"), Cols: ofPairs("0:0"), NA: 2, NB: 2, Rows: ofPairs("1:1"), Dels: ofLines("0="), Inss: ofLines("0="), Sets: ofSets("1:1 0:0 x>")},
		still(1, 0), still(40, 0), still(1, 400), still(40, 400),
	} {
		if got := Check(d); got != api.OK {
			t.Errorf("%d: Check(%s) is %v", i, short(d), got)
		}
		ask(t, d)
	}
}

// What right makes is what full has, but for cells.
func TestFull(t *testing.T) {
	d := full()
	want := right(d, func(n int) bool { return n == 0 || n == 1 || n == 3 || n == 4 })
	for _, x := range []*api.Delta{&d, &want} {
		for _, l := range texts(x) {
			for _, s := range l {
				*s = ""
			}
		}
	}
	if tell(d) != tell(want) {
		t.Errorf("%s is not %s", short(d), short(want))
	}
}

// A name or a cell may have 1000 bytes, be they what they may, and not one more, wherever it stands.
func TestLongTexts(t *testing.T) {
	for k, x := range []string{"x", "\x00", "\xff", "\n"} {
		d := full()
		n := 0
		for _, l := range texts(&d) {
			for _, s := range l {
				// A text that all others are unlike.
				n++
				*s = strconv.Itoa(n) + strings.Repeat(x, 1000-len(strconv.Itoa(n)))
			}
		}
		askCheck(t, d, api.OK)
		ask(t, d)
		for step, l := range texts(&d) {
			if k > 0 && step != "Gain long" {
				continue
			}
			for _, s := range l {
				was := *s
				*s = was + x
				askCheck(t, d, api.ErrLarge)
				*s = strings.Repeat(was, 1000)
				askCheck(t, d, api.ErrLarge)
				*s = was
			}
		}
		askCheck(t, d, api.OK)
	}
	// Runes of more than a byte each are told by their bytes.
	d := full()
	d.A[0] = strings.Repeat("ä", 500)
	askCheck(t, d, api.OK)
	d.A[0] = strings.Repeat("ä", 500) + "x"
	askCheck(t, d, api.ErrLarge)
}

// There may be 40 names and 400 rows, and not one more, on either side.
func TestLimits(t *testing.T) {
	for _, x := range []struct {
		a, b, na, nb int
		want         api.Errno
	}{
		{40, 40, 400, 400, api.OK}, {40, 1, 0, 400, api.OK}, {1, 40, 400, 0, api.OK},
		{41, 40, 400, 400, api.ErrLarge}, {40, 41, 400, 400, api.ErrLarge}, {41, 41, 0, 0, api.ErrLarge},
		{40, 40, 401, 400, api.ErrLarge}, {40, 40, 400, 401, api.ErrLarge}, {1, 1, 401, 401, api.ErrLarge},
		{1, 1, 401, 0, api.ErrLarge}, {1, 1, 0, 401, api.ErrLarge}, {1, 1, math.MaxInt, 0, api.ErrLarge},
		{1, 1, -1, 0, api.ErrArg}, {1, 1, 0, -1, api.ErrArg}, {1, 1, math.MinInt, math.MinInt, api.ErrArg},
		{1, 1, -1, 401, api.ErrLarge}, {1, 1, 401, -1, api.ErrLarge}, {0, 41, 401, -1, api.ErrEmpty}, {41, 0, -1, 401, api.ErrEmpty},
	} {
		for _, cols := range []int{0, 1, min(x.a, x.b)} {
			for _, rows := range []int{0, 1, max(min(x.na, x.nb), 0)} {
				d := api.Delta{A: names(x.a), B: names(x.b), Cols: itself(cols), NA: x.na, NB: x.nb, Rows: itself(rows)}
				if x.want == api.OK {
					d.Rows = itself(min(rows, x.na, x.nb))
					d = right(d, all)
				}
				askCheck(t, d, x.want)
				if rows < 2 {
					ask(t, d)
				}
			}
		}
	}
}

// Turn of what may be, and of what may not be, by hand.
func TestTurnByHand(t *testing.T) {
	askTurn(t, full(), api.Delta{
		A:    list("c,e,f,a,g"),
		B:    list("a,b,c,d"),
		Cols: ofPairs("3:0|0:2"),
		NA:   6,
		NB:   5,
		Rows: ofPairs("4:0|2:1|0:3"),
		Dels: ofLines("1=i0,i1,i2,i3,i4|3=,,,,|5=i5,i6,i7,i8,i9"),
		Inss: ofLines("2=d0,d1,d2,d3|4=,,,"),
		Sets: ofSets("4:0 0:2 t3>s3|2:1 3:0 >s2|0:3 3:0 t1>|0:3 0:2 t0>s0"),
		Lost: ofSpots("0:1=g0|0:2=|0:4=g2|2:1=g3|2:2=g4|2:4=g5|4:1=g6|4:2=g7|4:4=g8"),
		Gain: ofSpots("0:1=l0|0:3=|1:1=l2|1:3=l3|3:1=l4|3:3=l5"),
	})
	askTurn(t, api.Delta{}, api.Delta{})
	askTurn(t, api.Delta{A: list("a"), NB: 3}, api.Delta{B: list("a"), NA: 3})
	askTurn(t, api.Delta{NA: -7, NB: math.MaxInt}, api.Delta{NA: math.MaxInt, NB: -7})
	askTurn(t, api.Delta{Cols: ofPairs("1:5|0:6|1:4|0:5"), Rows: ofPairs("9:-1|9:-2|-3:0")},
		api.Delta{Cols: ofPairs("6:0|5:0|5:1|4:1"), Rows: ofPairs("0:-3|-1:9|-2:9")})
	askTurn(t, api.Delta{Dels: ofLines("5=a|1=b,c|1=^")}, api.Delta{Inss: ofLines("5=a|1=b,c|1=^")})
	askTurn(t, api.Delta{Gain: ofSpots("5:1=a|0:-2=b|0:-2=c")}, api.Delta{Lost: ofSpots("5:1=a|0:-2=b|0:-2=c")})
	for _, x := range []struct{ sets, want string }{
		{"0:9 0:9 a>b", "9:0 9:0 b>a"},
		{"1:0 0:0 a>b|0:1 0:0 c>d", "1:0 0:0 d>c|0:1 0:0 b>a"},
		{"0:0 1:0 a>b|0:0 0:1 c>d", "0:0 1:0 d>c|0:0 0:1 b>a"},
		// The row decides ahead of the column.
		{"1:0 0:9 a>b|0:1 5:0 c>d", "1:0 0:5 d>c|0:1 9:0 b>a"},
		// Of the same row and column they stay in order, whatever their old places, or their texts.
		{"4:7 3:6 a>b|4:5 3:9 c>d|4:6 3:2 e>f|4:5 3:9 a>b", "7:4 6:3 b>a|5:4 9:3 d>c|6:4 2:3 f>e|5:4 9:3 b>a"},
		{"4:7 3:6 z>z|1:0 8:8 m>n|4:0 3:0 a>a|4:2 2:8 o>p|1:0 8:8 k>l", "0:1 8:8 n>m|0:1 8:8 l>k|2:4 8:2 p>o|7:4 6:3 z>z|0:4 0:3 a>a"},
		{"-1:0 0:0 a>b|-2:0 0:0 c>d|-2:0 -1:0 e>f", "0:-2 0:-1 f>e|0:-2 0:0 d>c|0:-1 0:0 b>a"},
	} {
		d, want := api.Delta{Sets: ofSets(x.sets)}, api.Delta{Sets: ofSets(x.want)}
		askTurn(t, d, want)
		if plain := wantTurn(d); tell(plain) != tell(want) {
			t.Errorf("the plain reading tells %s", short(plain))
		}
	}
	far := api.Delta{Sets: []api.Set{{I: math.MaxInt, P: math.MinInt}, {I: math.MaxInt, P: math.MaxInt}, {I: math.MinInt, P: math.MaxInt}, {I: math.MinInt, P: math.MinInt}}}
	askTurn(t, far, api.Delta{Sets: []api.Set{{J: math.MinInt, Q: math.MinInt}, {J: math.MinInt, Q: math.MaxInt}, {J: math.MaxInt, Q: math.MinInt}, {J: math.MaxInt, Q: math.MaxInt}}})
}

// None by hand: of each part that is not as it is without a change.
func TestNoneByHand(t *testing.T) {
	two := func(by func(d *api.Delta)) api.Delta {
		d := still(3, 2)
		by(&d)
		return d
	}
	for i, x := range []struct {
		d    api.Delta
		want bool
	}{
		{api.Delta{}, true},
		{api.Delta{NA: 1, NB: 1, Rows: ofPairs("0:0")}, true},
		{api.Delta{NA: 1, NB: 1}, false},
		{api.Delta{NA: -1, NB: -1}, false},
		{api.Delta{NA: math.MaxInt, NB: math.MaxInt}, false},
		{api.Delta{NA: math.MinInt, NB: math.MinInt}, false},
		{api.Delta{A: list("a"), B: list("a")}, false},
		{api.Delta{A: list("a"), B: list("a"), Cols: ofPairs("0:0")}, true},
		{api.Delta{A: list("a,a"), B: list("a,a"), Cols: ofPairs("0:0|1:1")}, true},
		{api.Delta{Cols: ofPairs("0:0")}, false},
		{still(3, 2), true}, {still(1, 0), true}, {still(40, 400), true}, {still(41, 401), true}, {full(), false},
		{two(func(d *api.Delta) { d.A = names(2) }), false},
		{two(func(d *api.Delta) { d.A = names(4) }), false},
		{two(func(d *api.Delta) { d.B = names(2) }), false},
		{two(func(d *api.Delta) { d.B = names(4) }), false},
		{two(func(d *api.Delta) { d.B[2] = "x" }), false},
		{two(func(d *api.Delta) { d.A[0], d.A[1] = d.A[1], d.A[0] }), false},
		{two(func(d *api.Delta) { d.A, d.B = list("x,y,z"), list("x,y,z") }), true},
		{two(func(d *api.Delta) { d.A, d.B = names(4), names(4) }), false},
		{two(func(d *api.Delta) { d.A, d.B = names(2), names(2) }), false},
		{two(func(d *api.Delta) { d.Cols = itself(2) }), false},
		{two(func(d *api.Delta) { d.Cols = itself(4) }), false},
		{two(func(d *api.Delta) { d.Cols = ofPairs("1:0|0:1|2:2") }), false},
		{two(func(d *api.Delta) { d.Cols = ofPairs("1:1|0:0|2:2") }), false},
		{two(func(d *api.Delta) { d.Cols = ofPairs("0:0|1:1|1:1") }), false},
		{two(func(d *api.Delta) { d.NA = 3 }), false},
		{two(func(d *api.Delta) { d.NB = 1 }), false},
		{two(func(d *api.Delta) { d.NA, d.NB = 1, 1 }), false},
		{two(func(d *api.Delta) { d.NA, d.NB = 3, 3 }), false},
		{two(func(d *api.Delta) { d.NA, d.NB, d.Rows = 3, 3, itself(3) }), true},
		{two(func(d *api.Delta) { d.NA, d.Rows = 3, itself(3) }), false},
		{two(func(d *api.Delta) { d.NB, d.Rows = 3, itself(3) }), false},
		{two(func(d *api.Delta) { d.Rows = itself(3) }), false},
		{two(func(d *api.Delta) { d.Rows = itself(1) }), false},
		{two(func(d *api.Delta) { d.Rows = ofPairs("1:0|0:1") }), false},
		{two(func(d *api.Delta) { d.Rows = ofPairs("1:1|0:0") }), false},
		{two(func(d *api.Delta) { d.Dels = ofLines("0=^") }), false},
		{two(func(d *api.Delta) { d.Inss = ofLines("0=^") }), false},
		{two(func(d *api.Delta) { d.Sets = make([]api.Set, 1) }), false},
		{two(func(d *api.Delta) { d.Lost = make([]api.Spot, 1) }), false},
		{two(func(d *api.Delta) { d.Gain = make([]api.Spot, 1) }), false},
		{two(func(d *api.Delta) {
			d.Dels, d.Inss, d.Sets, d.Lost, d.Gain = []api.Line{}, []api.Line{}, []api.Set{}, []api.Spot{}, []api.Spot{}
		}), true},
	} {
		if got := None(x.d); got != x.want {
			t.Errorf("%d: None(%s) is %v", i, short(x.d), got)
		}
		if plain := wantNone(x.d); plain != x.want {
			t.Errorf("%d: the plain reading of %s tells %v", i, short(x.d), plain)
		}
	}
}

// otherNumbers are some that differ from one.
func otherNumbers(x int) []int { return []int{x - 1, x + 1, -x - 1, math.MinInt, math.MaxInt} }

// otherTexts are some, most of which differ from one.
func otherTexts(s string) []string {
	return []string{s + "?", "?" + s, "", s[min(len(s), 1):], strings.Repeat("y", 1001), "x", "n1"}
}

func otherPairs(p api.Pair) []api.Pair {
	own := []api.Pair{{A: p.B, B: p.A}}
	for _, n := range otherNumbers(p.A) {
		own = append(own, api.Pair{A: n, B: p.B})
	}
	for _, n := range otherNumbers(p.B) {
		own = append(own, api.Pair{A: p.A, B: n})
	}
	return own
}

func otherLines(l api.Line) []api.Line {
	var own []api.Line
	for _, n := range otherNumbers(l.At) {
		own = append(own, api.Line{At: n, Cells: l.Cells})
	}
	for _, cells := range otherLists(l.Cells, otherTexts, "more") {
		own = append(own, api.Line{At: l.At, Cells: cells})
	}
	return own
}

func otherSpots(s api.Spot) []api.Spot {
	own := []api.Spot{{Row: s.Col, Col: s.Row, Cell: s.Cell}}
	for _, n := range otherNumbers(s.Row) {
		own = append(own, api.Spot{Row: n, Col: s.Col, Cell: s.Cell})
	}
	for _, n := range otherNumbers(s.Col) {
		own = append(own, api.Spot{Row: s.Row, Col: n, Cell: s.Cell})
	}
	for _, text := range otherTexts(s.Cell) {
		own = append(own, api.Spot{Row: s.Row, Col: s.Col, Cell: text})
	}
	return own
}

func otherSets(s api.Set) []api.Set {
	var own []api.Set
	put := func(by func(x *api.Set)) {
		x := s
		by(&x)
		own = append(own, x)
	}
	put(func(x *api.Set) { x.Old, x.New = x.New, x.Old })
	put(func(x *api.Set) { x.I, x.J = x.J, x.I })
	put(func(x *api.Set) { x.P, x.Q = x.Q, x.P })
	for _, of := range []func(x *api.Set) *int{
		func(x *api.Set) *int { return &x.I }, func(x *api.Set) *int { return &x.J },
		func(x *api.Set) *int { return &x.P }, func(x *api.Set) *int { return &x.Q },
	} {
		for _, n := range otherNumbers(*of(&s)) {
			put(func(x *api.Set) { *of(x) = n })
		}
	}
	for _, text := range otherTexts(s.Old) {
		put(func(x *api.Set) { x.Old = text })
	}
	for _, text := range otherTexts(s.New) {
		put(func(x *api.Set) { x.New = text })
	}
	return own
}

// otherLists are lists that differ from one in one thing, in how many there are, or in order.
func otherLists[T any](l []T, by func(T) []T, more T) [][]T {
	own := [][]T{nil, append(slices.Clone(l), l...)}
	for at := range len(l) + 1 {
		own = append(own, slices.Insert(slices.Clone(l), at, more))
	}
	for at, x := range l {
		own = append(own, out(l, at), in(l, at, x))
		if at > 0 {
			own = append(own, about(l, at-1, at))
		}
		for _, y := range by(x) {
			own = append(own, in(out(l, at), at, y))
		}
	}
	return own
}

// near are deltas that differ from one in just one part: in one number or text of it, in how long a list is, or in order.
func near(d api.Delta) []api.Delta {
	var own []api.Delta
	put := func(by func(x *api.Delta)) {
		x := d
		by(&x)
		own = append(own, x)
	}
	for _, l := range otherLists(d.A, otherTexts, "more") {
		put(func(x *api.Delta) { x.A = l })
	}
	for _, l := range otherLists(d.B, otherTexts, "more") {
		put(func(x *api.Delta) { x.B = l })
	}
	for _, l := range otherLists(d.Cols, otherPairs, api.Pair{A: 1, B: 1}) {
		put(func(x *api.Delta) { x.Cols = l })
	}
	for _, n := range otherNumbers(d.NA) {
		put(func(x *api.Delta) { x.NA = n })
	}
	for _, n := range otherNumbers(d.NB) {
		put(func(x *api.Delta) { x.NB = n })
	}
	for _, l := range otherLists(d.Rows, otherPairs, api.Pair{A: 1, B: 1}) {
		put(func(x *api.Delta) { x.Rows = l })
	}
	for _, l := range otherLists(d.Dels, otherLines, api.Line{At: 1, Cells: names(len(d.A))}) {
		put(func(x *api.Delta) { x.Dels = l })
	}
	for _, l := range otherLists(d.Inss, otherLines, api.Line{At: 1, Cells: names(len(d.B))}) {
		put(func(x *api.Delta) { x.Inss = l })
	}
	for _, l := range otherLists(d.Sets, otherSets, api.Set{I: 1, J: 1, P: 1, Q: 1, Old: "o", New: "n"}) {
		put(func(x *api.Delta) { x.Sets = l })
	}
	for _, l := range otherLists(d.Lost, otherSpots, api.Spot{Row: 1, Col: 1, Cell: "c"}) {
		put(func(x *api.Delta) { x.Lost = l })
	}
	for _, l := range otherLists(d.Gain, otherSpots, api.Spot{Row: 1, Col: 1, Cell: "c"}) {
		put(func(x *api.Delta) { x.Gain = l })
	}
	same := tell(d)
	return slices.DeleteFunc(own, func(x api.Delta) bool { return tell(x) == same })
}

// Whatever one part tells otherwise, all calls tell what they should.
func TestNear(t *testing.T) {
	for _, d := range []api.Delta{full(), Turn(full()), still(3, 3), still(1, 0), {}} {
		for _, x := range near(d) {
			ask(t, x)
			askSame(t, d, x, false)
		}
	}
}

// One part that differs is a change, if there was none.
func TestNoneOfNear(t *testing.T) {
	for _, d := range []api.Delta{still(3, 3), still(1, 0), still(1, 1), {}} {
		askNone(t, d, true)
		for _, x := range near(d) {
			askNone(t, x, false)
		}
	}
}

// Each two that differ in one part from a third one.
func TestSameOfNear(t *testing.T) {
	l := near(full())
	told := make([]string, len(l))
	for i, x := range l {
		told[i] = tell(x)
	}
	for i := range l {
		for k := range i + 1 {
			if got := Same(l[i], l[k]); got != (told[i] == told[k]) {
				t.Fatalf("Same of %s and %s is %v", short(l[i]), short(l[k]), got)
			}
		}
	}
}

// R5: it is never asked whether what is empty is nil.
func TestEmptyOrNone(t *testing.T) {
	is := api.Delta{
		A: []string{}, B: []string{}, Cols: []api.Pair{}, Rows: []api.Pair{}, Dels: []api.Line{}, Inss: []api.Line{},
		Sets: []api.Set{}, Lost: []api.Spot{}, Gain: []api.Spot{},
	}
	askSame(t, is, api.Delta{}, true)
	askNone(t, is, true)
	askTurn(t, is, is)
	askCheck(t, is, api.ErrEmpty)
	is.A, is.B = list("a"), list("b")
	askSame(t, is, api.Delta{A: list("a"), B: list("b")}, true)
	askCheck(t, is, api.OK)
	askSame(t, api.Delta{Dels: ofLines("3=^")}, api.Delta{Dels: []api.Line{{At: 3, Cells: []string{}}}}, true)
	askSame(t, api.Delta{Inss: ofLines("3=^")}, api.Delta{Inss: []api.Line{{At: 3, Cells: []string{}}}}, true)
	askSame(t, api.Delta{Inss: ofLines("3=^")}, api.Delta{Inss: ofLines("3=")}, false)
	askSame(t, api.Delta{Dels: ofLines("3=^")}, api.Delta{}, false)
}

// Parts that hold the same, elsewhere.
func TestSameElsewhere(t *testing.T) {
	askSame(t, full(), full(), true)
	for _, x := range []struct{ a, b api.Delta }{
		{api.Delta{A: list("a")}, api.Delta{B: list("a")}},
		{api.Delta{A: list("a,b")}, api.Delta{A: list("a"), B: list("b")}},
		{api.Delta{A: []string{"ab"}}, api.Delta{A: []string{"a", "b"}}},
		{api.Delta{A: []string{"a", "bc"}}, api.Delta{A: []string{"ab", "c"}}},
		{api.Delta{Cols: itself(1)}, api.Delta{Rows: itself(1)}},
		{api.Delta{NA: 1}, api.Delta{NB: 1}},
		{api.Delta{Dels: ofLines("0=a")}, api.Delta{Inss: ofLines("0=a")}},
		{api.Delta{Dels: ofLines("0=a,b")}, api.Delta{Dels: ofLines("0=a|0=b")}},
		{api.Delta{Lost: ofSpots("0:0=a")}, api.Delta{Gain: ofSpots("0:0=a")}},
		{api.Delta{Lost: ofSpots("0:1=a")}, api.Delta{Lost: ofSpots("1:0=a")}},
		{api.Delta{Sets: ofSets("0:1 2:3 a>b")}, api.Delta{Sets: ofSets("2:3 0:1 a>b")}},
		{api.Delta{Sets: ofSets("0:1 2:3 a>b")}, api.Delta{Sets: ofSets("1:0 3:2 b>a")}},
		{api.Delta{Sets: ofSets("0:1 2:3 \xff>b")}, api.Delta{Sets: ofSets("0:1 2:3 \ufffd>b")}},
	} {
		askSame(t, x.a, x.b, false)
		askSame(t, x.a, x.a, true)
		askSame(t, x.b, x.b, true)
	}
}

// All that may be of up to three columns and three rows.
func TestAllSmall(t *testing.T) {
	for _, d := range rights(3, 3) {
		if want := wantCheck(d); want != api.OK {
			t.Fatalf("the plain reading of %s tells %v", short(d), want)
		}
		ask(t, d)
	}
}

// All that differ in one part from what may be, of up to two columns and two rows.
func TestAllNearSmall(t *testing.T) {
	for k, d := range rights(2, 2) {
		// Some of them, as there are many.
		if k%7 != 0 {
			continue
		}
		for _, x := range near(d) {
			ask(t, x)
		}
	}
}

// Two parts that differ, or one that differs twice.
func TestNearTwice(t *testing.T) {
	d := right(api.Delta{A: names(2), B: names(2), Cols: ofPairs("1:0"), NA: 2, NB: 1, Rows: ofPairs("1:0")}, all)
	askCheck(t, d, api.OK)
	for _, x := range near(d) {
		for k, y := range near(x) {
			if k%5 == 0 {
				ask(t, y)
			}
		}
	}
}

// All short lists of whole rows, for all pairs of rows.
func TestAllLines(t *testing.T) {
	var pool []api.Line
	for at := -1; at <= 3; at++ {
		for width := 1; width <= 3; width++ {
			pool = append(pool, api.Line{At: at, Cells: names(width)})
		}
	}
	lists := upTo(3, pool...)
	for na := range 4 {
		for _, rows := range pairings(na, 2) {
			d := right(api.Delta{A: names(2), B: names(1), NA: na, NB: 2, Rows: rows}, none)
			ok := 0
			for _, l := range lists {
				x := d
				x.Dels = l
				want := wantCheck(x)
				if want == api.OK {
					ok++
				}
				askCheck(t, x, want)
				x = wantTurn(x)
				askCheck(t, x, wantCheck(x))
			}
			if ok != 1 {
				t.Errorf("%d lists are right", ok)
			}
		}
	}
}

// All short lists of cells of one side, for all pairs of rows and of columns.
func TestAllSpots(t *testing.T) {
	var pool []api.Spot
	for row := range 3 {
		for col := range 3 {
			pool = append(pool, api.Spot{Row: row, Col: col})
		}
	}
	pool[8] = api.Spot{Row: -1, Col: -1}
	lists := upTo(4, pool...)
	for _, rows := range pairings(2, 2) {
		for _, cols := range []string{"^", "0:0", "1:0", "0:1", "1:0|0:1"} {
			d := right(api.Delta{A: names(2), B: names(2), Cols: ofPairs(cols), NA: 2, NB: 2, Rows: rows}, none)
			ok := 0
			for _, l := range lists {
				x := d
				x.Lost = l
				want := wantCheck(x)
				if want == api.OK {
					ok++
				}
				askCheck(t, x, want)
				x = d
				x.Gain = l
				askCheck(t, x, wantCheck(x))
			}
			if ok != 1 {
				t.Errorf("%d lists are right", ok)
			}
		}
	}
}

// All short lists of cells that were changed, in any order, right and wrong ones.
func TestAllSets(t *testing.T) {
	pool := ofSets("1:0 1:0 a>b|1:0 0:1 c>d|0:1 1:0 e>f|0:1 0:1 g>h|0:0 1:0 a>b|1:0 1:1 a>b|0:1 0:1 g>g|0:1 1:0 >x")
	d := right(api.Delta{A: names(2), B: names(2), Cols: ofPairs("1:0|0:1"), NA: 2, NB: 2, Rows: ofPairs("1:0|0:1")}, none)
	ok := 0
	for _, l := range upTo(4, pool...) {
		x := d
		x.Sets = l
		if wantCheck(x) == api.OK {
			ok++
		}
		ask(t, x)
	}
	// Of four places each is told or not, one of them in two ways.
	if ok != 24 {
		t.Errorf("%d lists are right", ok)
	}
}

// The largest deltas there may be: pairs in any order, all cells told.
func TestLargest(t *testing.T) {
	falling := func(n int) []api.Pair {
		own := itself(n)
		for i := range own {
			own[i].A = n - 1 - i
		}
		return own
	}
	for _, cols := range [][]api.Pair{nil, itself(40), falling(40), falling(40)[5:9]} {
		for _, rows := range [][]api.Pair{nil, itself(400), falling(400), falling(400)[30:333]} {
			d := right(api.Delta{A: names(40), B: names(40), Cols: cols, NA: 400, NB: 400, Rows: rows}, all)
			if len(d.Sets) != len(cols)*len(rows) {
				t.Fatal(len(d.Sets))
			}
			askCheck(t, d, api.OK)
			askHeld(t, d)
			for _, by := range []func(d *api.Delta){
				func(d *api.Delta) { d.Dels = out(d.Dels, len(d.Dels)-1) },
				func(d *api.Delta) { d.Inss = append(d.Inss, api.Line{At: 399, Cells: names(40)}) },
				func(d *api.Delta) { d.Lost = about(d.Lost, len(d.Lost)-2, len(d.Lost)-1) },
				func(d *api.Delta) { d.Gain = append(d.Gain, api.Spot{Row: 399, Col: 39}) },
				func(d *api.Delta) { d.Sets = append(d.Sets, api.Set{I: 399, J: 399, P: 39, Q: 39, New: "x"}) },
			} {
				x := d
				if len(x.Dels) == 0 || len(x.Lost) == 0 {
					x.Dels, x.Lost = append(x.Dels, api.Line{}, api.Line{}), append(x.Lost, api.Spot{}, api.Spot{})
				}
				by(&x)
				askCheck(t, x, api.ErrForm)
			}
		}
	}
}

// many are so many of one.
func many[T any](n int, x T) []T {
	own := make([]T, n)
	for i := range own {
		own[i] = x
	}
	return own
}

// P1: however much is told, each call ends.
func TestHuge(t *testing.T) {
	const n = 1 << 17
	for i, x := range []struct {
		want api.Errno
		by   func(d *api.Delta)
	}{
		{api.ErrLarge, func(d *api.Delta) { d.A = names(n) }},
		{api.ErrTwice, func(d *api.Delta) { d.B = append(names(n), "n0") }},
		{api.ErrTwice, func(d *api.Delta) { d.A, d.B = many(n, "a"), many(n, "b") }},
		{api.ErrPlace, func(d *api.Delta) { d.Cols = itself(n) }},
		{api.ErrTwice, func(d *api.Delta) { d.Cols = many(n, api.Pair{}) }},
		{api.ErrPlace, func(d *api.Delta) { d.Rows = itself(n) }},
		{api.ErrTwice, func(d *api.Delta) { d.Rows = many(n, api.Pair{A: 4, B: 5}) }},
		{api.ErrLarge, func(d *api.Delta) { d.NA, d.NB = math.MaxInt, math.MaxInt }},
		{api.ErrArg, func(d *api.Delta) { d.NA, d.NB = math.MinInt, math.MinInt }},
		{api.ErrForm, func(d *api.Delta) { d.Dels = many(n, d.Dels[0]) }},
		{api.ErrForm, func(d *api.Delta) { d.Inss = append(d.Inss, many(n, d.Inss[2])...) }},
		{api.ErrForm, func(d *api.Delta) { d.Dels[0].Cells = names(n) }},
		{api.ErrForm, func(d *api.Delta) { d.Sets = many(n, d.Sets[0]) }},
		{api.ErrForm, func(d *api.Delta) { d.Sets = append(d.Sets, many(n, d.Sets[3])...) }},
		{api.ErrForm, func(d *api.Delta) { d.Lost = many(n, d.Lost[0]) }},
		{api.ErrForm, func(d *api.Delta) { d.Gain = append(d.Gain, many(n, d.Gain[0])...) }},
		{api.ErrLarge, func(d *api.Delta) { d.A[0] = strings.Repeat("x", 8*n) }},
		{api.ErrLarge, func(d *api.Delta) { d.Sets[0].New = strings.Repeat("x", 8*n) }},
		{api.ErrLarge, func(d *api.Delta) { d.Dels[1].Cells[3] = strings.Repeat("x", 8*n) }},
	} {
		d := full()
		x.by(&d)
		if got := Check(d); got != x.want {
			t.Errorf("%d: Check is %v, not %v", i, got, x.want)
		}
		turned := Turn(d)
		if len(turned.A) != len(d.B) || len(turned.Cols) != len(d.Cols) || len(turned.Sets) != len(d.Sets) || len(turned.Gain) != len(d.Lost) {
			t.Errorf("%d: Turn leaves something out", i)
		}
		if None(d) || !Same(d, d) || Same(d, full()) || Same(d, turned) {
			t.Errorf("%d: None or Same tell a wrong thing", i)
		}
	}
}

// Very many Sets, in an order that is not theirs, of few rows and columns: of the same in order as they stood.
func TestManySets(t *testing.T) {
	const n = 60000
	var d api.Delta
	x := uint32(1)
	for k := range n {
		x = x*1664525 + 1013904223
		d.Sets = append(d.Sets, api.Set{I: int(x >> 20 % 40), J: k, P: int(x >> 28 % 8), Q: n - k, Old: strconv.Itoa(k)})
	}
	got := Turn(d)
	if len(got.Sets) != n {
		t.Fatal(len(got.Sets))
	}
	seen := make([]bool, n)
	for k, s := range got.Sets {
		if s.New != strconv.Itoa(s.I) || s.P != n-s.I || s.Old != "" || d.Sets[s.I].I != s.J || d.Sets[s.I].P != s.Q || seen[s.I] {
			t.Fatalf("%d: %v is of no cell", k, s)
		}
		seen[s.I] = true
		if k == 0 {
			continue
		}
		ahead := got.Sets[k-1]
		if ahead.J > s.J || ahead.J == s.J && (ahead.Q > s.Q || ahead.Q == s.Q && ahead.I > s.I) {
			t.Fatalf("%d: %v stands ahead of %v", k, ahead, s)
		}
	}
	huge := still(1, 400)
	for k := range 400 {
		huge.Sets = append(huge.Sets, api.Set{I: k, J: k, Old: "x"})
	}
	askCheck(t, huge, api.OK)
}

// roomy is a list with more behind it, that is not the list's.
func roomy[T any](l []T, behind T) []T {
	own := slices.Clone(l)
	own = append(own, behind, behind, behind)
	return own[:len(l)]
}

// roomyDelta is a delta like this one, whose lists all have more behind them.
func roomyDelta(d api.Delta) api.Delta {
	behind := api.Line{At: 77, Cells: []string{"behind"}}
	lines := func(l []api.Line) []api.Line {
		own := slices.Clone(l)
		for i := range own {
			own[i].Cells = roomy(own[i].Cells, "behind")
		}
		return roomy(own, behind)
	}
	return api.Delta{
		A: roomy(d.A, "behind"), B: roomy(d.B, "behind"), NA: d.NA, NB: d.NB,
		Cols: roomy(d.Cols, api.Pair{A: 77}), Rows: roomy(d.Rows, api.Pair{A: 77}),
		Dels: lines(d.Dels), Inss: lines(d.Inss), Sets: roomy(d.Sets, api.Set{I: 77}),
		Lost: roomy(d.Lost, api.Spot{Row: 77}), Gain: roomy(d.Gain, api.Spot{Row: 77}),
	}
}

// whole is a delta whose lists reach as far as there is room.
func whole(d api.Delta) api.Delta {
	lines := func(l []api.Line) []api.Line {
		own := slices.Clone(l[:cap(l)])
		for i := range own {
			own[i].Cells = own[i].Cells[:cap(own[i].Cells)]
		}
		return own
	}
	return api.Delta{
		A: d.A[:cap(d.A)], B: d.B[:cap(d.B)], Cols: d.Cols[:cap(d.Cols)], NA: d.NA, NB: d.NB, Rows: d.Rows[:cap(d.Rows)],
		Dels: lines(d.Dels), Inss: lines(d.Inss), Sets: d.Sets[:cap(d.Sets)], Lost: d.Lost[:cap(d.Lost)], Gain: d.Gain[:cap(d.Gain)],
	}
}

// R3: an argument stays, and what stands behind its lists.
func TestArgumentsStay(t *testing.T) {
	l := []api.Delta{full(), Turn(full()), still(3, 4), {}, {Sets: ofSets("9:0 9:0 a>b|8:0 8:0 c>d"), Rows: ofPairs("9:0|8:0")}}
	for _, s := range spoilings() {
		d := full()
		s.do(&d)
		l = append(l, d)
	}
	for _, d := range l {
		x, y := roomyDelta(d), roomyDelta(d)
		before := tell(whole(x))
		Check(x)
		Turn(x)
		None(x)
		Same(x, y)
		Same(y, x)
		Same(x, x)
		if tell(whole(x)) != before || tell(whole(y)) != before {
			t.Errorf("%.900s is now %.900s and %.900s", before, tell(whole(x)), tell(whole(y)))
		}
	}
}

// lists are all lists of a delta, each as a thing that writes over it, and over what stands behind it.
func lists(d api.Delta) []func() {
	own := []func(){
		func() { spoil(d.A, "spoilt") }, func() { spoil(d.B, "spoilt") },
		func() { spoil(d.Cols, api.Pair{A: -9, B: -9}) }, func() { spoil(d.Rows, api.Pair{A: -9, B: -9}) },
		func() { spoil(d.Sets, api.Set{I: -9}) }, func() { spoil(d.Lost, api.Spot{Row: -9}) }, func() { spoil(d.Gain, api.Spot{Row: -9}) },
	}
	for _, l := range [][]api.Line{d.Dels, d.Inss} {
		for _, x := range l {
			own = append(own, func() { spoil(x.Cells, "spoilt") })
		}
	}
	// The lines last, as they hold lists.
	return append(own, func() { spoil(d.Dels, api.Line{At: -9}) }, func() { spoil(d.Inss, api.Line{At: -9}) })
}

// spoil writes over a list, and over what stands behind it.
func spoil[T any](l []T, by T) {
	l = l[:cap(l)]
	for i := range l {
		l[i] = by
	}
}

// R3: an answer shares no memory with an argument, nor with another answer: no list, and no text.
func TestAnswersShareNothing(t *testing.T) {
	for _, of := range []func() api.Delta{full, func() api.Delta { return roomyDelta(full()) }, func() api.Delta { return Turn(full()) }, func() api.Delta { return still(3, 3) }} {
		d := of()
		want, back := tell(wantTurn(d)), tell(d)
		first, second := Turn(d), Turn(d)
		seen := map[*byte]bool{}
		for _, x := range []*api.Delta{&d, &first, &second} {
			for _, l := range texts(x) {
				for _, s := range l {
					if *s == "" {
						continue
					}
					if seen[unsafe.StringData(*s)] {
						t.Errorf("%q is shared", *s)
					}
					seen[unsafe.StringData(*s)] = true
				}
			}
		}
		for _, spoil := range lists(first) {
			spoil()
		}
		if tell(d) != back || tell(second) != want {
			t.Errorf("%s is, an answer written over, %s, and the other answer %s", back, short(d), short(second))
		}
		for _, spoil := range lists(d) {
			spoil()
		}
		if tell(second) != want {
			t.Errorf("%s is, the argument written over, %s", want, short(second))
		}
	}
}

// R3: no two lists of an answer share memory, nor what stands behind them.
func TestListsOfAnswersShareNothing(t *testing.T) {
	d := full()
	// What both sides hold is one list in the argument.
	d.B, d.Rows, d.Inss, d.Gain = d.A, d.Cols, d.Dels, d.Lost
	d.Dels[1].Cells = d.Dels[0].Cells
	for k := range lists(Turn(d)) {
		got, want := Turn(d), Turn(d)
		lists(got)[k]()
		lists(want)[k]()
		// Of two answers, both written over at one list, all else is as it was.
		changed := 0
		for _, x := range [][2]any{
			{got.A, Turn(d).A}, {got.B, Turn(d).B}, {got.Cols, Turn(d).Cols}, {got.Rows, Turn(d).Rows}, {got.Dels, Turn(d).Dels},
			{got.Inss, Turn(d).Inss}, {got.Sets, Turn(d).Sets}, {got.Lost, Turn(d).Lost}, {got.Gain, Turn(d).Gain},
		} {
			if fmt.Sprint(x[0]) != fmt.Sprint(x[1]) {
				changed++
			}
		}
		if changed != 1 || tell(got) != tell(want) {
			t.Errorf("%d: %d parts of %s are written over", k, changed, short(got))
		}
	}
}

// R4: whatever was asked before, a call tells the same.
func TestTheSameAgain(t *testing.T) {
	d, wrong := full(), full()
	wrong.Sets = about(wrong.Sets, 0, 1)
	for range 30 {
		askCheck(t, d, api.OK)
		askCheck(t, wrong, api.ErrForm)
		askTurn(t, d, wantTurn(d))
		askTurn(t, wrong, wantTurn(d))
		askNone(t, d, false)
		askNone(t, still(2, 2), true)
		askSame(t, d, wrong, false)
		askSame(t, d, full(), true)
	}
}

// P1, P2: whatever is told.
func FuzzDelta(f *testing.F) {
	f.Add("a,b,c,d", "c,e,a,f,g", "\x03\x01\x01\x03", "\x04\x01\x02\x03\x01\x04", 5, 6, uint64(27), "", "s")
	f.Add("a,b", "a,b", "\x01\x01\x02\x02", "\x01\x01\x02\x02", 2, 2, uint64(0), "", "")
	f.Add("a,b", "b", "\x02\x01", "\x01\x02\x02\x03", 3, 3, uint64(1), "\x00\x07\x01\x20", "\xff")
	f.Add("a,a", "b", "\x00\x01", "\x09\x01", -1, 401, uint64(1), "\x01\x00", "x")
	f.Add("", "^", "", "", 0, 1, uint64(0), "\x02\x33\x05\x05", "a,b")
	f.Fuzz(func(t *testing.T, a, b, cols, rows string, na, nb int, wanted uint64, changes, text string) {
		pairsOf := func(s string) []api.Pair {
			var l []api.Pair
			for at := 0; at+1 < min(len(s), 12); at += 2 {
				l = append(l, api.Pair{A: int(s[at])%16 - 1, B: int(s[at+1])%16 - 1})
			}
			return l
		}
		d := api.Delta{
			A: list(a[:min(len(a), 12)]), B: list(b[:min(len(b), 12)]),
			Cols: pairsOf(cols), NA: na % 9, NB: nb % 9, Rows: pairsOf(rows),
		}
		d = right(d, func(n int) bool { return wanted>>(n%64)&1 == 1 })
		ask(t, d)
		for at := 0; at+1 < min(len(changes), 6); at += 2 {
			l := near(d)
			x := l[(int(changes[at])<<8+int(changes[at+1]))%len(l)]
			askSame(t, d, x, tell(d) == tell(x))
			d = x
			ask(t, d)
		}
		d.NA = na
		ask(t, d)
		for _, l := range texts(&d) {
			for k, s := range l {
				if k%3 == 0 {
					*s = text
				}
			}
		}
		ask(t, d)
	})
}

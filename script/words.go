package script

import (
	"strconv"
	"strings"

	"stopcock/api"
	"stopcock/stream"
)

const (
	maxDigits = 13
	maxText   = 16 // of a T
	noFrame   = "x"
)

// words are the words of a line that have not been read yet, and whether one that was read is wrong.
type words struct {
	rest []string
	bad  bool
}

// more tells whether there are words left.
func (w *words) more() bool { return !w.bad && len(w.rest) > 0 }

// next reads a word, if there is one.
func (w *words) next() string {
	if !w.more() {
		return "" // which no word may be
	}
	x := w.rest[0]
	w.rest = w.rest[1:]
	return x
}

// parse reads an N that stands alone.
func parse(x string) (int64, bool) {
	if len(x) == 0 || len(x) > maxDigits || x[0] == '0' && len(x) > 1 {
		return 0, false
	}
	var n int64
	for i := range len(x) {
		if x[i] < '0' || x[i] > '9' {
			return 0, false
		}
		n = 10*n + int64(x[i]-'0')
	}
	return n, true
}

// long reads an N.
func (w *words) long() int64 {
	n, ok := parse(w.next())
	w.bad = w.bad || !ok
	return n
}

// number reads an N, too.
func (w *words) number() int { return int(w.long()) }

// list reads an L.
func (w *words) list() []int {
	var l []int
	for _, x := range strings.Split(w.next(), ",") {
		n, ok := parse(x)
		w.bad = w.bad || !ok
		l = append(l, int(n))
	}
	return l
}

// isText tells whether x is a T.
func isText(x string) bool {
	for i := range len(x) {
		if !(x[i] >= 'a' && x[i] <= 'z' || x[i] >= '0' && x[i] <= '9') {
			return false
		}
	}
	return len(x) <= maxText
}

// text reads a T behind something.
func (w *words) text(behind string) string {
	x, ok := strings.CutPrefix(w.next(), behind)
	if !ok || !isText(x) {
		w.bad = true
		return ""
	}
	return x
}

// item reads an ITEM, and returns its bytes.
func (w *words) item() string {
	var f api.Frame
	switch x := w.next(); x {
	case "begin":
		f.Kind = api.Begin
	case "end":
		f.Kind = api.End
	case "bad":
		return noFrame
	default:
		w.rest = append([]string{x}, w.rest...)
		f = api.Frame{Kind: api.Query, Text: w.text("query:")}
	}
	b, _ := stream.Bytes([]api.Frame{f})
	return string(b)
}

// digits writes a number.
func digits(n int) string { return strconv.Itoa(n) }

// joined writes numbers with blanks between.
func joined(numbers ...int) string {
	var l []string
	for _, n := range numbers {
		l = append(l, digits(n))
	}
	return strings.Join(l, " ")
}

// table writes how many elements a list has, and a line for each of them.
func table[T any](l []T, line func(T) string) string {
	var b strings.Builder
	b.WriteString(digits(len(l)))
	for _, x := range l {
		b.WriteString("\n ")
		b.WriteString(line(x))
	}
	return b.String()
}

// wide writes a number of 64 bits.
func wide(n uint64) string { return strconv.FormatUint(n, 10) }

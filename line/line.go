// Package line is layer 1: texts, line by line. See shared/doc/01-line.md.
package line

import (
	"slices"
	"strings"

	"quiltwork/api"
)

// end stands behind each line of a text.
const end = "\n"

// Cut tells the lines of a text. What stands behind the last byte 10 is a line only if it is not empty.
func Cut(s string) []string {
	var l []string
	for s != "" {
		first, rest, _ := strings.Cut(s, end)
		l = append(l, first)
		s = rest
	}
	return l
}

// Text tells all lines, each with a byte 10 behind.
func Text(l []string) string {
	var b strings.Builder
	for _, s := range l {
		b.WriteString(s)
		b.WriteString(end)
	}
	return b.String()
}

// Right tells whether s is a line of at most MaxLine bytes.
func Right(s string) bool {
	return len(s) <= api.MaxLine && !strings.Contains(s, end)
}

// All tells whether all lines are right.
func All(l []string) bool {
	for _, s := range l {
		if !Right(s) {
			return false
		}
	}
	return true
}

// Splice puts the lines of with in the place of old, which must stand in l from place at on.
func Splice(l []string, at int, old, with []string) ([]string, bool) {
	if !stands(l, at, old) {
		return nil, false
	}
	behind := at + len(old)
	out := make([]string, 0, len(l)-len(old)+len(with))
	out = append(out, piece(l, 0, at)...)
	out = append(out, with...)
	out = append(out, piece(l, behind, len(l))...)
	return out, true
}

// Find tells the first place, from on, at which part stands; -1, if there is none.
func Find(l, part []string, from int) int {
	for at := max(from, 0); at <= len(l)-len(part); at++ {
		if stands(l, at, part) {
			return at
		}
	}
	return -1
}

// Head tells with how many lines both begin alike.
func Head(a, b []string) int {
	n := 0
	for n < len(a) && n < len(b) && a[n] == b[n] {
		n++
	}
	return n
}

// Tail tells with how many lines both end alike; it may count lines that Head counts too.
func Tail(a, b []string) int {
	n := 0
	for n < len(a) && n < len(b) && a[len(a)-1-n] == b[len(b)-1-n] {
		n++
	}
	return n
}

// Same tells whether both have the same lines.
func Same(a, b []string) bool {
	return slices.Equal(a, b)
}

// stands tells whether part is what l has from place at on. A place above how many lines there are leaves less than no room, so that not even no lines stand there.
func stands(l []string, at int, part []string) bool {
	if at < 0 || len(part) > len(l)-at {
		return false
	}
	return Same(piece(l, at, at+len(part)), part)
}

// piece cuts the lines from place from up to place to out of a row. Its room ends where it ends, so that nothing put behind it is written into the row.
func piece(l []string, from, to int) []string {
	return l[from:to:to]
}

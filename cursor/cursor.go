// Package cursor tells places in a text, and its lines.
package cursor

import (
	"iter"
	"slices"

	"entrepot/api"
)

// Line of a text: its first byte, the place behind its last one, and where the next line begins.
type Line struct{ From, To, Next int }

// Lines tells the lines of s, in order.
func Lines(s string) []Line {
	return slices.Collect(lines(s))
}

// Rows tells the lines of s that are not blank, in order.
func Rows(s string) []Line {
	var rows []Line
	for l := range lines(s) {
		if !Blank(s, l) {
			rows = append(rows, l)
		}
	}
	return rows
}

// Blank tells whether l, a line of s, has blanks alone.
func Blank(s string, l Line) bool {
	// Of lines that are not of s nothing is promised, but that the call ends.
	if l.From < 0 || l.From > l.To || l.To > len(s) {
		return false
	}
	for _, sign := range s[l.From:l.To] {
		if !blank(sign) {
			return false
		}
	}
	return true
}

// Where tells the line and the column, both from 1 on, of the place at.
func Where(s string, at int) (int, int, api.Errno) {
	if at < 0 {
		return 0, 0, api.ErrPlace
	}
	line := 0
	for from, end := range spans(s) {
		line++
		if at <= end {
			return line, at - from + 1, api.OK
		}
	}
	return 0, 0, api.ErrPlace
}

// Place tells the place that Where finds in that line and column.
func Place(s string, line, col int) (int, api.Errno) {
	if col < 1 {
		return 0, api.ErrPlace
	}
	number := 0
	for from, end := range spans(s) {
		number++
		// Not from+col: of a great col that may go round.
		if number == line && col-1 <= end-from {
			return from + col - 1, api.OK
		}
	}
	return 0, api.ErrPlace
}

// lines goes through the lines of s.
func lines(s string) iter.Seq[Line] {
	return func(yield func(Line) bool) {
		for from, end := range spans(s) {
			// Behind a line feed that is the last byte there is a place, but no line.
			if from == len(s) || !yield(lineOf(s, from, end)) {
				return
			}
		}
	}
}

// spans goes through the parts of s that line feeds part: where each begins, and the place
// of the line feed behind it, or of the end of s. The last part may be empty; so each place
// of s, its end too, is in just one of them.
func spans(s string) iter.Seq2[int, int] {
	return func(yield func(int, int) bool) {
		from := 0
		// Bytes that are no signs come as signs of one byte, and no part of a longer sign
		// is a line feed: so each line feed is met at its place.
		for at, sign := range s {
			if sign != '\n' {
				continue
			}
			if !yield(from, at) {
				return
			}
			from = at + 1
		}
		yield(from, len(s))
	}
}

// lineOf makes the line of a part of s.
func lineOf(s string, from, end int) Line {
	if end == len(s) {
		return Line{From: from, To: end, Next: end}
	}
	l := Line{From: from, To: end, Next: end + 1}
	if end > from && s[end-1] == '\r' {
		l.To--
	}
	return l
}

func blank(sign rune) bool {
	return sign == ' ' || sign == '\t'
}

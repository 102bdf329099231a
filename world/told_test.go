package world

import (
	"fmt"
	"strings"
	"testing"
)

// head is the first line of most scripts here.
const head = "bridge owner o admin a window 100 turn 10 bond 5"

// story is a script with what is told of it. A row is a line and, behind an arrow, what is told of it: its lines are parted by strokes, and the first one stands without its number. A row without an arrow tells nothing.
type story struct {
	name  string
	first string // its first line; none: head
	rows  string
}

// lines are those of a story's script, and of what is told of each, without the numbers ahead.
func (s story) lines() (script []string, told [][]string) {
	script, told = []string{s.first}, [][]string{nil}
	if s.first == "" {
		script[0] = head
	}
	for _, row := range strings.Split(strings.Trim(s.rows, "\n"), "\n") {
		line, answer, tells := strings.Cut(row, " => ")
		script = append(script, line)
		if tells {
			told = append(told, strings.Split(answer, "|"))
		} else {
			told = append(told, nil)
		}
	}
	return script, told
}

func (s story) script() string {
	l, _ := s.lines()
	return strings.Join(l, "\n") + "\n"
}

// transcript is what is told of it.
func (s story) transcript() string {
	var out strings.Builder
	_, told := s.lines()
	for i, l := range told {
		for j, text := range l {
			if j == 0 {
				fmt.Fprintf(&out, "%d ", i+1)
			}
			fmt.Fprintln(&out, text)
		}
	}
	return out.String()
}

// wantPlayed wants a script to be played, and the transcript.
func wantPlayed(t testing.TB, what, script, transcript string) {
	t.Helper()
	got, line, e := Run(script)
	if got == transcript && line == 0 && e == 0 {
		return
	}
	g, w := strings.Split(got, "\n"), strings.Split(transcript, "\n")
	for i := range min(len(g), len(w)) {
		if g[i] != w[i] {
			t.Errorf("%s: told is %q, not %q", what, g[i], w[i])
			break
		}
	}
	t.Errorf("%s: line %d, error %d, %d lines told, not %d", what, line, int(e), len(g), len(w))
}

// wantTold wants a story to be told just so, and by the second reckoning, too.
func wantTold(t testing.TB, s story) {
	t.Helper()
	wantPlayed(t, s.name, s.script(), s.transcript())
	if told, line, e := reckoned(s.script()); told != s.transcript() || line != 0 || e != 0 {
		t.Errorf("%s: the second reckoning tells line %d, error %d:\n%s", s.name, line, e, told)
	}
}

// wantRefused wants a script to be none.
func wantRefused(t testing.TB, script string, wantedLine, wanted int) {
	t.Helper()
	short := script[:min(len(script), 300)]
	if got, line, e := Run(script); got != "" || line != wantedLine || int(e) != wanted {
		t.Errorf("%q: %d bytes told, line %d, error %d, not line %d, error %d", short, len(got), line, int(e), wantedLine, wanted)
	}
	if _, line, e := reckoned(script); line != wantedLine || e != wanted {
		t.Errorf("%q: the second reckoning tells line %d, error %d", short, line, e)
	}
}

// times is a line so many times.
func times(n int, line string) string { return strings.Repeat(line+"\n", n) }

// numbered are lines of which each has its number in it: from the first one on, so many.
func numbered(first, n int, format string) string {
	var out strings.Builder
	for i := range n {
		out.WriteString(strings.ReplaceAll(format, "%", fmt.Sprint(first+i)) + "\n")
	}
	return out.String()
}

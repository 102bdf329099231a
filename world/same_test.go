package world

import (
	"fmt"
	"math/rand"
	"slices"
	"strconv"
	"strings"
	"sync"
	"testing"
)

// scripts are those of all stories, and some by chance.
func scripts() []string {
	var l []string
	for _, s := range stories() {
		l = append(l, s.script())
	}
	for seed := range 40 {
		a := &author{Rand: rand.New(rand.NewSource(int64(1000000 + seed)))}
		l = append(l, a.script())
	}
	return l
}

func TestP24_2_Twice(t *testing.T) {
	all := scripts()
	var once []string
	for _, script := range all {
		told, line, e := Run(script)
		if line != 0 || e != 0 {
			t.Fatalf("line %d, error %d:\n%s", line, int(e), script)
		}
		once = append(once, told)
	}
	for i, script := range slices.Backward(all) {
		wantPlayed(t, fmt.Sprint("script ", i, " once more"), script, once[i])
	}
}

// Scripts that are played side by side have nothing to do with each other.
func TestP24_2_R5_Beside(t *testing.T) {
	all := scripts()
	if testing.Short() {
		all = slices.DeleteFunc(all, func(s string) bool { return len(s) > 3000 })
	}
	once := make([]string, len(all))
	for i, script := range all {
		once[i], _, _ = Run(script)
	}
	var wait sync.WaitGroup
	for n := range 4 {
		wait.Go(func() {
			for i := range all {
				i = (i + n*len(all)/4) % len(all)
				if told, line, e := Run(all[i]); told != once[i] || line != 0 || e != 0 {
					t.Errorf("script %d beside others: line %d, error %d", i, line, int(e))
				}
			}
		})
	}
	wait.Wait()
}

// Lines that say nothing change but the numbers ahead.
func TestP24_2_LinesThatSayNothing(t *testing.T) {
	nothing := []string{"", " ", "\t", "#", "# begin", " \t # end", "#bridge", "##\xff\r"}
	for i, script := range scripts() {
		r := rand.New(rand.NewSource(int64(i)))
		script = strings.TrimSuffix(script, "\n")
		var lines []string
		place := map[int]int{}
		for j, line := range strings.Split(script, "\n") {
			for range r.Intn(3) {
				lines = append(lines, nothing[r.Intn(len(nothing))])
			}
			lines = append(lines, line+[]string{"", " ", "\t#", "# x"}[r.Intn(4)])
			place[j+1] = len(lines)
		}
		told, _, _ := Run(script)
		between := strings.Join(lines, "\n") + strings.Repeat("\n#", r.Intn(3)) + strings.Repeat("\n", r.Intn(3))
		if len(between) <= 65536 {
			wantPlayed(t, fmt.Sprint("script ", i), between, renumbered(told, place))
		}
	}
}

// renumbered is a transcript with other numbers of lines.
func renumbered(told string, place map[int]int) string {
	lines := strings.SplitAfter(told, "\n")
	for i, line := range lines {
		number, rest, is := strings.Cut(line, " ")
		if n, err := strconv.Atoi(number); is && err == nil {
			lines[i] = fmt.Sprint(place[n], " ", rest)
		}
	}
	return strings.Join(lines, "")
}

// A script that is cut behind a line that is not within a block has a transcript that begins the whole one's; within one it is none.
func TestP24_2_Cut(t *testing.T) {
	for i, script := range scripts() {
		if len(script) > 6000 {
			continue
		}
		whole, _, _ := Run(script)
		inside, first, before := false, false, ""
		for at := range len(script) {
			if script[at] != '\n' {
				continue
			}
			words := strings.Fields(strings.Split(script[strings.LastIndex(script[:at], "\n")+1:at], "#")[0])
			if line := strings.Join(words, " "); line == "begin" || line == "end" {
				inside = line == "begin"
			}
			first = first || len(words) > 0
			for _, part := range []string{script[:at], script[:at+1]} {
				told, line, e := Run(part)
				switch {
				case inside || !first:
					if told != "" || line != strings.Count(part, "\n")+1 || e != 241 {
						t.Errorf("script %d, cut behind %d bytes, in a block: line %d, error %d", i, len(part), line, int(e))
					}
				case line != 0 || e != 0 || !strings.HasPrefix(whole, told) || !strings.HasPrefix(told, before):
					t.Errorf("script %d, cut behind %d bytes: line %d, error %d, told:\n%s\nof:\n%s", i, len(part), line, int(e), told, whole)
				default:
					before = told
				}
			}
		}
	}
}

// A script's own memory is its own: of one that is in a greater text nothing else is seen.
func TestP24_2_R4_WhereTheScriptStands(t *testing.T) {
	script := wholeStories()[0].script()
	for _, ahead := range []string{"", "X", "begin\n"} {
		for _, behind := range []string{"", "X", "\nend", "0"} {
			text := ahead + script + behind
			wantPlayed(t, "in a text", text[len(ahead):len(ahead)+len(script)], wholeStories()[0].transcript())
		}
	}
}

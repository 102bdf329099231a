package world

import (
	"fmt"
	"math/rand"
	"strings"
	"testing"
)

// Scripts of all sorts, against the second reckoning.

// wantAsReckoned wants a script to be answered as the second reckoning does.
func wantAsReckoned(t testing.TB, script string) string {
	t.Helper()
	got, line, e := Run(script)
	wanted, wantedLine, wantedError := reckoned(script)
	if got != wanted || line != wantedLine || int(e) != wantedError {
		t.Fatalf("script:\n%s\nline %d, error %d, transcript:\n%s\nnot line %d, error %d, transcript:\n%s", script, line, int(e), got, wantedLine, wantedError, wanted)
	}
	return got
}

// author writes scripts by chance.
type author struct {
	*rand.Rand
	lines  []string
	time   int
	inside bool
	letter int // so many are in the prelude
}

func (a *author) one(of ...string) string { return of[a.Intn(len(of))] }

func (a *author) say(format string, x ...any) { a.lines = append(a.lines, fmt.Sprintf(format, x...)) }

// fill puts something at each place of a form.
func (a *author) fill(form string) string {
	words := strings.Fields(form)
	for i, w := range words {
		switch w {
		case "WHO":
			words[i] = a.one("o", "a", "p", "q", "l", "w", "x", "p", "q", "l", "w", "time", "abcdefghijklmnopqrst", "7")
		case "T":
			words[i] = a.one("0", "0", "0", "0", "0", "1", "2", "63", "64", "4611686018427387903")
		case "A":
			words[i] = a.one("0", "1", "2", "5", "30", "70", "100000000000000000000", "115792089237316195423570985008687907853269984665640564039457584007913129639935")
		case "G":
			words[i] = a.one("0", "99", "100", "100", "100", "101", "1099511627776", "1099511627777")
		case "N", "I":
			words[i] = a.one("0", "1", "1", "1", "1", "2", "2", "3", "4", "1099511627776", "1099511627777", "4611686018427387903")
		case "C": // a count of entries
			words[i] = fmt.Sprint(a.Intn(a.letter + 4))
		case "W": // workers
			words[i] = a.one("1", "2", "16", "0", "17")
		case "B":
			words[i] = a.one("true", "false")
		case "H":
			words[i] = a.one("lower", "upper")
		case "L":
			words[i] = a.sent()
		}
	}
	return strings.Join(words, " ")
}

func (a *author) sent() string {
	if a.Intn(4) > 0 {
		return a.part()
	}
	var parts []string
	for range 1 + a.Intn(4) {
		parts = append(parts, a.part())
	}
	return "many " + strings.Join(parts, " ; ")
}

func (a *author) part() string {
	form := a.one("move T A to WHO", "burn T A to WHO", "burn 0 5 to WHO", "allow T A to WHO", "pull T A from WHO to WHO", "retry N", "cancel N", "token T", "pause T", "resume T", "code 020105", "code HEX", "call 1 T A gas 200", "call N T A gas 10000 A A")
	if strings.Contains(form, "HEX") { // the programs: answers 5, gives up, answers its argument, sends what came along to the caller, is none
		form = "code " + a.one("020105"+"01", "00", "100001", "1412151b020107"+"01", "ff", strings.Repeat("00", 1025))
	}
	return a.fill(form)
}

// prelude makes something that can be asserted.
func (a *author) prelude() {
	bond := a.one("0", "5", "6277101735386680763835789423207666416102355444464034512895")
	a.say("bridge owner o admin a window %s turn 10 bond %s", a.one("100", "30", "1", "1099511627776"), bond)
	a.say("%s", a.one("o list 0", "# nothing", "o list 0"))
	a.say("begin\n%s\np deposit 0 70 for q gas 100\nq send burn 0 %d to r\nend", a.one("a send token 0", "a send token 0", "a send token 1"), a.Intn(80))
	a.letter = a.Intn(9)
	if a.Intn(3) == 0 {
		a.letter = 30 + a.Intn(20)
	}
	for range a.letter {
		a.say("q send burn 0 %d to r", a.Intn(4))
	}
	a.say("follow 1")
}

func (a *author) op() string {
	return a.fill(a.one("o list T", "WHO list T", "o stop T", "o open T", "WHO deposit 0 A for WHO gas G", "WHO deposit T A for WHO gas G", "WHO send L", "q send L", "WHO post C B", "l post C false", "p post C true",
		"WHO confirm", "p confirm", "w challenge N", "WHO challenge 1", "w duel N", "WHO duel 1", "l split N against w B", "p split 1 against WHO B", "WHO split N against WHO B", "w pick N H", "WHO pick 1 H", "w prove N", "WHO prove 1",
		"x expire N against w", "WHO expire 1 against WHO", "x claim I", "x claim 0"))
}

func (a *author) other() string {
	return a.fill(a.one("follow W", "follow 1", "cut 1", "cut 2", "cut N", "WHO assert", "p assert", "w watch 1", "w watch W", "WHO watch 1", "l defend", "p defend", "WHO defend", "look I", "held T", "supply T", "balance T WHO", "ticket N", "receipt C", "count", "top", "confirmed", "pending", "duels"))
}

// duelOp is one of those by which a duel goes on.
func (a *author) duelOp() string {
	n := a.one("1", "1", "1", "2")
	return a.fill(a.one("w duel "+n, "l split "+n+" against w B", "l split "+n+" against w B", "w pick "+n+" H", "w pick "+n+" H", "w prove "+n, "x expire "+n+" against w", "x duel "+n, "l split "+n+" against x true", "x pick "+n+" H"))
}

func (a *author) script() string {
	a.prelude()
	mode := a.Intn(3)
	if mode == 1 {
		a.say("l post %d %s", 1+a.Intn(a.letter+3), a.one("true", "false", "false"))
		a.say("w duel 1")
	}
	for range 10 + a.Intn(60) {
		switch k := a.Intn(20); {
		case k == 0 && !a.inside:
			a.say("begin")
			a.inside = true
		case k <= 2 && a.inside:
			a.say("end")
			a.inside = false
		case k <= 3 && !a.inside:
			a.time += a.Intn(3) * a.Intn(8)
			if a.Intn(3) == 0 {
				a.time += []int{-1, 10, 11, 30, 100}[a.Intn(5)]
			}
			a.time = max(a.time, 0)
			a.say("time %d", a.time)
		case k <= 4:
			a.say("%s", a.one("", "# remark", " \t ", "#"))
		case mode == 1 && k <= 12:
			a.say("%s", a.duelOp())
		case mode == 2 && k <= 8:
			a.say("%s", a.fill(a.one("q send burn 0 3 to r", "p post C true", "p confirm", "x claim 0", "x claim 1")))
		case k <= 13 || a.inside:
			a.say("%s", a.op())
		default:
			a.say("%s", a.other())
		}
	}
	if a.inside {
		a.say("end")
	}
	return strings.Join(a.lines, "\n") + a.one("", "\n")
}

// spoilt is a script with something else in the place of some of its bytes, words or lines.
func (a *author) spoilt(script string) string {
	lines := strings.Split(script, "\n")
	for range 1 + a.Intn(2) {
		i := a.Intn(len(lines))
		words := strings.Split(lines[i], " ")
		j := a.Intn(len(words))
		switch a.Intn(9) {
		case 0:
			words = append(words[:j], words[j+1:]...)
		case 1:
			words[j] += " " + words[j]
		case 2:
			words[j] += a.one("#", "\t", "x", "0", "A", "\r", "\x00", "é", "\xff", ";")
		case 3:
			words[j] = a.one("0", "01", "-1", "+1", "4611686018427387904", "begin", "end", "many", ";", "true", "P", "", "bridge", "for")
		case 4:
			words[0] = a.one("begin", "end", "") + " " + words[0]
		case 5:
			lines[i] += "\n" + lines[a.Intn(len(lines))]
			continue
		case 6:
			k := a.Intn(len(lines))
			lines[i], lines[k] = lines[k], lines[i]
			continue
		case 7:
			b := []byte(lines[i] + " ")
			b[a.Intn(len(b))] = byte(a.Intn(256))
			lines[i] = string(b)
			continue
		case 8:
			lines = append(lines[:i], lines[i+1:]...)
			if len(lines) == 0 {
				lines = []string{""}
			}
			continue
		}
		lines[i] = strings.Join(words, " ")
	}
	return strings.Join(lines, "\n")
}

func TestW12_RandomScripts(t *testing.T) {
	n := 3000
	if testing.Short() {
		n = 300
	}
	seen := map[string]int{}
	for seed := range n {
		a := &author{Rand: rand.New(rand.NewSource(int64(seed)))}
		script := a.script()
		for _, line := range strings.Split(wantAsReckoned(t, script), "\n") {
			if w := strings.Fields(line); len(w) > 2 && (w[2] == "refused" || w[2] == "ok") {
				seen[w[1]+" "+strings.Join(w[2:min(4, len(w))], " ")]++
			}
		}
		for range 4 {
			wantAsReckoned(t, a.spoilt(script))
		}
	}
	t.Log(seen)
}

// Lines of words of all sorts, in any order.
func TestP24_1_RandomLines(t *testing.T) {
	words := strings.Fields("bridge owner o admin a window 100 turn 10 bond 5 time begin end list stop open deposit for gas send move burn allow pull from to retry cancel token pause resume code 00 call many ; post true false confirm challenge duel split against pick lower upper prove expire claim follow cut assert watch defend look held supply balance ticket receipt count top confirmed pending duels p q 0 1 2 # 01 P 115792089237316195423570985008687907853269984665640564039457584007913129639936")
	n := 100000
	if testing.Short() {
		n = 10000
	}
	r := rand.New(rand.NewSource(7))
	for range n {
		var line []string
		for range 1 + r.Intn(7) {
			line = append(line, words[r.Intn(len(words))])
		}
		wantAsReckoned(t, head+"\n"+strings.Join(line, " ")+"\n")
	}
}

// Any bytes are answered.
func TestP24_1_RandomBytes(t *testing.T) {
	r := rand.New(rand.NewSource(8))
	for range 2000 {
		b := make([]byte, r.Intn(300))
		for i := range b {
			b[i] = byte(r.Intn(256))
			if r.Intn(3) == 0 {
				b[i] = " \n\t#a0;\r"[r.Intn(8)]
			}
		}
		wantAsReckoned(t, string(b))
		wantAsReckoned(t, head+"\n"+string(b))
	}
}

// FuzzAgainstTheWords tries any text as a script, by itself and behind a beginning.
func FuzzAgainstTheWords(f *testing.F) {
	for _, s := range stories() {
		if script := s.script(); len(script) < 3000 {
			f.Add(script)
		}
	}
	for seed := range 20 {
		a := &author{Rand: rand.New(rand.NewSource(int64(2000000 + seed)))}
		script := a.script()
		f.Add(script)
		f.Add(a.spoilt(script))
	}
	f.Fuzz(func(t *testing.T, script string) {
		if len(script) > 5000 {
			return
		}
		wantAsReckoned(t, script)
		wantAsReckoned(t, head+"\no list 0\na send token 0\np deposit 0 70 for q gas 100\nq send burn 0 30 to r\nfollow 1\np post 2 true\nl post 4 false\nw duel 2\n"+script)
	})
}

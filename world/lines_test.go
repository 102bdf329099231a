package world

import (
	"fmt"
	"slices"
	"strings"
	"testing"
)

// The forms of all lines, as the chapter tells them: WHO a name, N a number, A an amount, HEX digits, A.. amounts; all else are words.
const (
	opForms = `WHO list N · WHO stop N · WHO open N · WHO deposit N A for WHO gas N · WHO post N true · WHO post N false · WHO confirm · WHO challenge N · WHO duel N · WHO split N against WHO true · WHO split N against WHO false · WHO pick N lower · WHO pick N upper · WHO prove N · WHO expire N against WHO · WHO claim N
· WHO send move N A to WHO · WHO send burn N A to WHO · WHO send allow N A to WHO · WHO send pull N A from WHO to WHO · WHO send retry N · WHO send cancel N · WHO send token N · WHO send pause N · WHO send resume N · WHO send code HEX · WHO send call N N A gas N A..
· WHO send many move N A to WHO · WHO send many retry N ; cancel N · WHO send many call N N A gas N A A ; code HEX ; pull N A from WHO to WHO`
	restForms   = `time N · follow N · cut N · WHO assert · WHO watch N · WHO defend · look N · held N · supply N · balance N WHO · ticket N · receipt N · count · top · confirmed · pending · duels`
	bridgesForm = `bridge owner WHO admin WHO window N turn N bond A`
)

func formsOf(forms string) []string {
	l := strings.Split(forms, "·")
	for i := range l {
		l[i] = strings.TrimSpace(l[i])
	}
	return l
}

// good are words that may stand at a place; wrong are such as may not.
func good(place string) []string {
	switch place {
	case "WHO":
		return []string{"p", "0", "z9", "abcdefghijklmnopqrst", "time", "begin", "end", "list", "bridge", "many", "follow", "01234567890123456789"}
	case "N":
		return []string{"1", "0", "9", "10", "64", "4611686018427387903", "1099511627776"}
	case "A":
		return []string{"1", "0", "10", "4611686018427387904", most}
	case "HEX":
		return []string{"00", "ff", "0123456789abcdef", strings.Repeat("ab", 2000)}
	case "A..":
		return []string{"", "0", "1 2", most + " 0 7", "1 2 3 4 5 6 7 8 9 10 11"}
	}
	return []string{place}
}

func wrong(place string) []string {
	number := []string{"x", "01", "00", "+1", "-1", "-0", "1x", "x1", "0x1", "1_0", "1.0", "1e3", "²", "1\r", "1\x00", "١"}
	switch place {
	case "WHO":
		return []string{"P", "p_", "pQ", "abcdefghijklmnopqrstu", "012345678901234567890", "é", "p\xff", "\x00", "p\x00", "p\r", "p\v", "p\f", "p;", "p.", "/", ":", "`", "{", "@", "p\u00a0"}
	case "N":
		return append(number, "4611686018427387904", "4611686018427387905", "9223372036854775808", "18446744073709551616", "18446744073709551617", most)
	case "A":
		return append(number, "115792089237316195423570985008687907853269984665640564039457584007913129639936", most+"0")
	case "HEX":
		return []string{"0", "000", "0g", "g0", "AB", "aB", "0x00", "-0", "é", "0\xff", "`0", "0:", "/0"}
	case "A..":
		return append(number, "1 x", "1 01 1", "115792089237316195423570985008687907853269984665640564039457584007913129639936")
	}
	return []string{place + "x", "x" + place, strings.ToUpper(place[:1]) + place[1:] + "X", place + place, "\xff" + place}
}

// filled is a form with the first good word at each of its places.
func filled(form string) []string {
	words := strings.Fields(form)
	for i, w := range words {
		words[i] = good(w)[0]
	}
	return words
}

// with is a line with something else in the place of one of its words.
func with(words []string, i int, word string) string {
	l := slices.Clone(words)
	l[i] = word
	return strings.Join(l, " ")
}

// wantForm wants a script to be one with each line of a form, behind what stands ahead of it, and none with any line that is nearly of the form; the line's number is told then.
func wantForm(t *testing.T, form, ahead string) {
	t.Helper()
	number := strings.Count(ahead, "\n") + 1
	may := func(line string) {
		t.Helper()
		if _, n, e := Run(ahead + line); n != 0 || e != 0 {
			t.Errorf("%q: line %d, error %d", line, n, int(e))
		}
	}
	mayNot := func(line string) {
		t.Helper()
		for _, behind := range []string{"", "\n", "\n" + line + "\n", "\ncount\n\xff\nend"} {
			if s, n, e := Run(ahead + line + behind); s != "" || n != number || e != 241 {
				t.Errorf("%q: line %d, error %d, not line %d", line+behind, n, int(e), number)
			}
		}
	}
	words, places := filled(form), strings.Fields(form)
	for i, place := range places {
		for _, word := range good(place) {
			may(with(words, i, word))
		}
		for _, word := range wrong(place) {
			mayNot(with(words, i, word))
		}
		for _, line := range []string{with(words, i, ""), with(words, i, words[i]+" x"), with(words, i, "x "+words[i]), with(words, i, words[i]+" "+words[i])} {
			if !isLetterStill(line) && strings.TrimSpace(line) != "" {
				mayNot(line)
			}
		}
	}
	mayNot(strings.Join(words, " ") + " X")
	mayNot("X " + strings.Join(words, " "))
	// Blanks, tabs and a remark are no words.
	line := strings.Join(words, " ")
	for _, l := range []string{" " + line, line + " ", "\t" + line + "\t", strings.ReplaceAll(line, " ", "\t"), strings.ReplaceAll(line, " ", " \t  "), line + "#", line + "#x", line + " # x y ; bridge", line + "\t##\xff"} {
		may(l)
	}
	if len(words) > 1 {
		mayNot(strings.Replace(line, " ", "#", 1))
		mayNot(strings.Replace(line, " ", "", 1))
		mayNot(strings.Replace(line, " ", "\v", 1))
		mayNot(strings.Replace(line, " ", "\u00a0", 1))
	}
	mayNot(line + "\r")
	mayNot("\r" + line)
}

// isLetterStill tells whether a line with a word less or more is a letter all the same: a call has no or more arguments, and what is one of several may be one by itself.
func isLetterStill(line string) bool {
	form, m := find(opRules, strings.Join(strings.Fields(line), " "))
	return form == "WHO send L" && (strings.Contains(m[1], "call") || strings.HasPrefix(m[1], "move"))
}

func TestP24_1_EachLine(t *testing.T) {
	for _, form := range slices.Concat(formsOf(opForms), formsOf(restForms)) {
		wantForm(t, form, head+"\n")
	}
	for _, form := range formsOf(opForms) {
		wantFormInBlock(t, form)
	}
}

// wantFormInBlock wants operations to stand in a block, just as they are.
func wantFormInBlock(t *testing.T, form string) {
	line := strings.Join(filled(form), " ")
	if _, n, e := Run(head + "\n\nbegin\n" + line + "\n" + line + "\nend"); n != 0 || e != 0 {
		t.Errorf("%q in a block: line %d, error %d", line, n, int(e))
	}
	wantRefused(t, head+"\n\nbegin\n"+line+"\n"+line+" X\nend", 5, 241)
}

// In a block there are no other lines than operations.
func TestP24_1_OthersInBlocks(t *testing.T) {
	for _, form := range slices.Concat(formsOf(restForms), []string{bridgesForm, "begin"}) {
		line := strings.Join(filled(form), " ")
		wantRefused(t, head+"\nbegin\n"+line+"\nend", 3, 241)
		wantRefused(t, head+"\nbegin\no list 0\n# so\n\n"+line+"\nend", 6, 241)
		wantRefused(t, head+"\nbegin\n"+line, 3, 241)
		if form != bridgesForm && form != "begin" {
			wantPlays(t, head+"\nbegin\nend\n"+line)
			wantPlays(t, head+"\n"+line+"\nbegin\nend")
		}
	}
}

func wantPlays(t *testing.T, script string) {
	t.Helper()
	if _, n, e := Run(script); n != 0 || e != 0 {
		t.Errorf("%q: line %d, error %d", script, n, int(e))
	}
	wantAsReckoned(t, script)
}

func TestP24_1_TheBridgesLine(t *testing.T) {
	words, places := filled(bridgesForm), strings.Fields(bridgesForm)
	words = strings.Fields(head)
	for i, place := range places {
		for _, word := range wrong(place) {
			for _, ahead := range []string{"", "\n# so\n \t\n"} {
				wantRefused(t, ahead+with(words, i, word), 1+strings.Count(ahead, "\n"), 241)
				wantRefused(t, ahead+with(words, i, word)+"\ncount", 1+strings.Count(ahead, "\n"), 241)
			}
		}
		for _, word := range []string{"", words[i] + " " + words[i], "x " + words[i]} {
			wantRefused(t, with(words, i, word), 1, 241)
		}
		if place == "WHO" {
			for _, word := range good(place) {
				wantPlays(t, with(words, i, word)+"\ncount")
			}
		}
	}
	wantRefused(t, head+" x", 1, 241)
	wantRefused(t, head+" 0", 1, 241)
	// It comes first.
	for _, form := range slices.Concat(formsOf(opForms), formsOf(restForms), []string{"begin", "end"}) {
		line := strings.Join(filled(form), " ")
		wantRefused(t, line, 1, 241)
		wantRefused(t, "\n\t# x\n"+line+"\n"+head+"\n", 3, 241)
	}
	wantRefused(t, "bridge confirm\n"+head, 1, 241)
	wantRefused(t, "bridge\n"+head, 1, 241)
	// And but once.
	wantRefused(t, head+"\n"+head, 2, 241)
	wantRefused(t, head+"\n\ncount\n"+head+"\nX", 4, 241)
	wantRefused(t, head+"\nbegin\n"+head+"\nend", 3, 241)
	wantRefused(t, head+"\nbridge owner o admin a window 0 turn 10 bond 5", 2, 241)
}

// A config that may not be is told last of all.
func TestP24_1_Configs(t *testing.T) {
	const form = "bridge owner o admin a window %s turn %s bond %s"
	seconds := map[string]bool{"0": false, "1": true, "100": true, "1099511627776": true, "1099511627777": false, "4611686018427387903": false}
	bonds := map[string]bool{"0": true, "6277101735386680763835789423207666416102355444464034512895": true, "6277101735386680763835789423207666416102355444464034512896": false, most: false}
	for window, w := range seconds {
		for turn, u := range seconds {
			for bond, b := range bonds {
				line := fmt.Sprintf(form, window, turn, bond)
				if w && u && b {
					wantPlays(t, line+"\ncount\ntop")
					continue
				}
				wantRefused(t, line, 1, 241)
				wantRefused(t, "\n# so\n"+line+"\ncount\n\n", 3, 241)
				wantRefused(t, "\n"+line+"\ncount\nX\n", 4, 241)
				wantRefused(t, "\n"+line+"\nend\n", 3, 241)
				wantRefused(t, "\n"+line+"\nbegin\n\n", 5, 241)
			}
		}
	}
}

func TestP24_1_Nothing(t *testing.T) {
	for _, x := range []struct {
		script string
		line   int
	}{
		{"", 1}, {" ", 1}, {"\t \t", 1}, {"#", 1}, {"# bridge owner o admin a window 100 turn 10 bond 5", 1}, {"#" + head, 1}, {"\n", 2}, {"\n\n", 3}, {"# so\n", 2}, {" \t\n#\n\t", 3}, {"\n# so\n", 3}, {strings.Repeat("\n", 65535), 65536}, {strings.Repeat("\n", 65536), 65537}, {strings.Repeat("#", 65536), 1}, {strings.Repeat(" ", 65535) + "\n", 2}, {strings.Repeat("#\n", 2001), 2002},
		{"\x00", 1}, {"\r", 1}, {"\r\n", 1}, {"\n\r\n" + head, 2}, {";", 1}, {"\v", 1}, {"\u00a0", 1}, {"\xff\n", 1},
	} {
		wantRefused(t, x.script, x.line, 241)
	}
}

func TestP24_1_Blocks(t *testing.T) {
	for _, x := range []struct {
		rest string
		line int
	}{
		{"begin", 2}, {"begin\n", 3}, {"begin\n\n# x", 4}, {"begin\no list 0", 3}, {"begin\no list 0\n", 4}, {"end", 2}, {"end\n", 2}, {"begin\nend\nend", 4}, {"begin\nbegin", 3}, {"begin\nbegin\nend\nend", 3}, {"begin\nend\nbegin\n\n", 6},
		{"begin x", 2}, {"begin 1", 2}, {"end 1", 2}, {"begin\nend 1", 3}, {"begin end", 2}, {"Begin", 2}, {"begin\nEnd", 3}, {"begin\nfollow 1\nend", 3}, {"count\nbegin\no list 0\ntime 5\nend", 5}, {"begin\np assert\nend", 3}, {"begin\nw watch 1\nend", 3}, {"begin\np defend\nend", 3}, {"begin\ncut 0", 3},
		{"begin\nX\n", 3}, {"X\nbegin\n", 2}, {"begin\no list 0\nend\no list X", 5},
	} {
		wantRefused(t, head+"\n"+x.rest, x.line, 241)
	}
}

// Names may be any words, so a line's first word does not say what it does.
func TestP24_1_NamesThatAreWords(t *testing.T) {
	words := strings.Fields("time begin end follow cut assert watch defend look held supply balance ticket receipt count top confirmed pending duels bridge list stop open deposit send post confirm challenge duel split pick prove expire claim owner many for gas to from against true false 0 1 64")
	for _, word := range words {
		for _, x := range []struct{ line, told string }{
			{"list 0", "list refused 183"}, {"stop 0", "stop refused 183"}, {"open 1", "open refused 183"}, {"deposit 0 1 for " + word + " gas 1", "deposit refused 141"}, {"send retry 1", "send ok 0"}, {"send move 0 1 to " + word, "send ok 0"}, {"send pull 0 1 from " + word + " to " + word, "send ok 0"}, {"post 0 true", "post refused 161"}, {"confirm", "confirm refused 164"},
			{"challenge 1", "challenge refused 164"}, {"duel 1", "duel refused 164"}, {"split 1 against " + word + " true", "split refused 186"}, {"pick 1 upper", "pick refused 186"}, {"prove 1", "prove refused 186"}, {"expire 1 against " + word, "expire refused 186"}, {"claim 0", "claim refused 220"},
		} {
			wantPlayed(t, word+" "+x.line, head+"\n"+word+" "+x.line, "2 "+x.told+"\n")
			wantPlayed(t, word+" "+x.line, head+"\nbegin\n"+word+" "+x.line+"\nend", "3 "+x.told+"\n")
		}
		wantPlayed(t, word, head+"\n"+word+" assert\n"+word+" watch 1\n"+word+" defend\nbalance 0 "+word, "2 assert refused 212\n3 watch ok 0\n4 defend ok 0\n5 balance 0\n")
		wantPlayed(t, word, strings.ReplaceAll(head, "owner o", "owner "+word)+"\n"+word+" list 0\no list 0", "2 list ok\n3 list refused "+map[bool]string{true: "142", false: "183"}[word == "o"]+"\n")
	}
	wantPlayed(t, "numbers", head+"\n0 list 0\n1 watch 1\n7 send call 1 0 0 gas 1 1 1\nbalance 0 0", "2 list refused 183\n3 watch ok 0\n4 send ok 0\n5 balance 0\n")
	wantPlayed(t, "by bridge", "bridge owner bridge admin bridge window 1 turn 1 bond 0\nbridge list 0\nbridge confirm\nbridge send token 0\nbridge assert", "2 list ok\n3 confirm refused 164\n4 send ok 0\n5 assert refused 212\n")
}

func TestP24_1_SeveralLetters(t *testing.T) {
	for sent, is := range map[string]bool{
		"many retry 1": true, "many retry 1 ; retry 1": true, "many retry 1 ; retry 1 ; retry 1": true, "many" + strings.Repeat(" retry 1 ;", 100) + " retry 1": true, "many call 1 0 0 gas 1 ; retry 1": true, "many call 1 0 0 gas 1 5 6 ; call 1 0 0 gas 1 7": true,
		"many": false, "many ;": false, "many ; retry 1": false, "many retry 1 ;": false, "many retry 1 ; ; retry 1": false, "many retry 1; retry 1": false, "many retry 1 ;retry 1": false, "many retry 1 retry 1": false, "many retry 1 ;; retry 1": false, "retry 1 ; retry 1": false, "retry 1 ;": false, "; retry 1": false, ";": false,
		"many many retry 1": false, "many retry 1 ; many retry 1": false, "many many": false, "many retry 1 ; many": false, "many retry": false, "many retry 1 ; retry": false, "many retry 1 ; retry x": false, "many retry x ; retry 1": false, "many list 0": false, "many call 1 0 0 gas 1 5 ; ": false, "many call 1 0 0 gas 1 ; 5": false,
		"": false, "retry": false, "retrying 1": false, "send retry 1": false, "call 1 0 0 gas": false, "call 1 0 0": false, "call 1 0 gas 1": false, "call 1 0 0 gas 1 x": false, "code": false, "code 00 00": false,
	} {
		if script := head + "\np send " + sent; is {
			wantPlayed(t, sent, script, "2 send ok 0\n")
			wantAsReckoned(t, script)
		} else {
			wantRefused(t, script, 2, 241)
		}
	}
}

func TestP24_1_Long(t *testing.T) {
	fit := func(n int) string { return head + "\ncount\n" + strings.Repeat("#", n-len(head)-7) }
	wantPlayed(t, "as long as can be", fit(65536), "2 count 0\n")
	wantRefused(t, fit(65537), 0, 240)
	wantRefused(t, strings.Repeat("\n", 65537), 0, 240)
	wantRefused(t, strings.Repeat("X", 65536), 1, 241)
	wantRefused(t, strings.Repeat("X", 65537), 0, 240)
	wantRefused(t, strings.Repeat("X", 1<<20), 0, 240)
	// Lines that say something, and among them more that say nothing.
	many := func(n int, between string) string { return head + strings.Repeat("\n"+between+"count", n-1) }
	var told strings.Builder
	for i := range 1999 {
		fmt.Fprintf(&told, "%d count 0\n", i+2)
	}
	wantPlayed(t, "2000 lines", many(2000, ""), told.String())
	wantPlayed(t, "2000 lines", many(2000, "")+"\n\n# so\n\n", told.String())
	wantRefused(t, many(2001, ""), 0, 240)
	wantRefused(t, many(2001, "\n#\n"), 0, 240)
	told.Reset()
	for i := range 1999 {
		fmt.Fprintf(&told, "%d count 0\n", 5*i+6)
	}
	wantPlayed(t, "2000 lines among others", many(2000, "\n# so\n\t\n#\n"), told.String())
	wantRefused(t, strings.Repeat("X\n", 2000), 1, 241)
	wantRefused(t, strings.Repeat("X\n", 2001), 0, 240)
	wantRefused(t, head+strings.Repeat("\nbegin\nend", 1000), 0, 240)
	wantPlayed(t, "blocks of nothing", head+strings.Repeat("\nbegin\nend", 999)+"\ncut 1", "2000 cut ok 998\n")
	wantRefused(t, head+strings.Repeat("\nX", 2000), 0, 240)
	wantRefused(t, head+strings.Repeat("\nX", 1999), 2, 241)
}

// Nothing is played where a line is none, wherever that stands; the first such line is told.
func TestP24_1_TheFirstOne(t *testing.T) {
	script := story{rows: wholeStories()[0].rows}.script()
	lines := strings.SplitAfter(script, "\n")
	for i := range lines {
		for _, bad := range []string{"X\n", "end\n", head + "\n", "o list\n"} {
			spoilt := slices.Concat(lines[:i], []string{bad}, lines[i:])
			switch {
			case i > 0:
				wantRefused(t, strings.Join(spoilt, ""), i+1, 241)
			case bad != head+"\n":
				wantRefused(t, strings.Join(spoilt, ""), 1, 241)
			default:
				wantRefused(t, strings.Join(spoilt, ""), 2, 241)
			}
		}
	}
}

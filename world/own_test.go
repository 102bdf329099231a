package world

import (
	"bytes"
	"fmt"
	"strings"
	"testing"

	"causeway/api"
	"causeway/exec"
)

func TestNumbersOfErrorsAndLimits(t *testing.T) {
	if api.ErrWorldLong != 240 || api.ErrWorldLine != 241 || api.MaxScript != 65536 || api.MaxLines != 2000 {
		t.Error("a number is another one")
	}
}

// Who has a name is told by it, who has none by digits.
func TestW12_Who(t *testing.T) {
	of := func(b ...byte) (a api.Address) {
		copy(a[:], b)
		return a
	}
	full := []byte("abcdefghijklmnopqrst")
	for _, x := range []struct {
		a    api.Address
		text string
	}{
		{of(), strings.Repeat("0", 40)}, {of('p'), "p"}, {of('0'), "0"}, {of('a', 'z', '0', '9'), "az09"}, {of(full...), string(full)}, {of(full[:19]...), string(full[:19])},
		{of('P'), "50" + strings.Repeat("0", 38)}, {of('p', 0, 'q'), "700071" + strings.Repeat("0", 34)}, {of(0, 'p'), "0070" + strings.Repeat("0", 36)}, {of('p', '_'), "705f" + strings.Repeat("0", 36)}, {of('a' - 1), "60" + strings.Repeat("0", 38)}, {of('z' + 1), "7b" + strings.Repeat("0", 38)}, {of('0' - 1), "2f" + strings.Repeat("0", 38)}, {of('9' + 1), "3a" + strings.Repeat("0", 38)},
		{of(1), "01" + strings.Repeat("0", 38)}, {of('p', 255), "70ff" + strings.Repeat("0", 36)}, {of(append(bytes.Repeat([]byte{'p'}, 19), 0xe9)...), strings.Repeat("70", 19) + "e9"}, {of(0xc3, 0xa9), "c3a9" + strings.Repeat("0", 36)}, {of(bytes.Repeat([]byte{0xab}, 20)...), strings.Repeat("ab", 20)}, {api.Address{19: 'p'}, strings.Repeat("0", 38) + "70"},
	} {
		if got := who(x.a); got != x.text || got != whoOf(x.a) {
			t.Errorf("%x is %q, not %q", x.a, got, x.text)
		}
		if a, is := toAddress(x.text); is != (len(x.text) < 40) || is && a != x.a {
			t.Errorf("%q is the name of %x, %v", x.text, a, is)
		}
	}
	for i := range 256 {
		for j := range 256 {
			if a := of(byte(i), byte(j)); who(a) != whoOf(a) {
				t.Errorf("%x is %q, not %q", a, who(a), whoOf(a))
			}
		}
	}
	// A program's home is nobody's name.
	home, _ := exec.Home(1)
	if got := who(home); got != fmt.Sprintf("%x", home[:]) {
		t.Errorf("the home is %q", got)
	}
}

// Payments to anybody, as no script has them: what is told of them.
func TestW12_PaymentsOfAnybody(t *testing.T) {
	p, _ := newPlay(api.Config{Window: 1, Turn: 1})
	p.tellResult("7 ", "  ", "claim", api.Result{Number: 9, Pays: []api.Pay{{Why: 1, Token: 63, To: api.Address{1}, Amount: api.Wide{5}, Index: 1<<40 - 1}, {Why: 3, To: addressOf("w"), Index: 2}}})
	p.tellResult("  ", "    ", "send", api.Result{Number: 9})
	p.tellResult("  ", "    ", "send", api.Result{Code: 191, Number: 9})
	if got := p.transcript.String(); got != "7 claim ok\n  pay leaf 63 5 01"+strings.Repeat("0", 38)+" 1099511627775\n  pay reward 0 0 w 2\n  send ok 9\n  send refused 191\n" {
		t.Errorf("told is\n%s", got)
	}
}

// What is sent for a letter is its bytes; for one that may not be the byte 0.
func TestW12_WhatIsSent(t *testing.T) {
	seen := map[int]bool{}
	for _, s := range letterStories() {
		lines, _ := s.lines()
		for _, line := range lines {
			_, sent, is := strings.Cut(line, " send ")
			if !is {
				continue
			}
			l, is := toLetter(strings.Fields(sent))
			if !is {
				t.Errorf("%q is no letter", sent)
			}
			if got := letterBytes(l); !bytes.Equal(got, sentBytes(sent)) {
				t.Errorf("%q: sent is %x, not %x", sent, got, sentBytes(sent))
			}
			seen[l.Kind] = true
		}
	}
	if len(seen) != 12 {
		t.Errorf("%d kinds of letters", len(seen))
	}
}

// The commits that are told, by executing the entries.
func TestW12_Commits(t *testing.T) {
	a := addressOf("a")
	table := exec.Genesis(a)
	commit := func(word string) string {
		c, _ := exec.Commit(table)
		return fmt.Sprintf("%s %d %d %x %x", word, c.Count, c.Leaves, c.State[:8], c.Outbox[:8])
	}
	told := []string{"2 " + commit("top"), "3 " + commit("confirmed")}
	entries := []api.Entry{
		{Kind: 2, Sender: a, Body: []byte{7, 0}},
		{Kind: 1, Sender: addressOf("p"), Time: 3, To: addressOf("q"), Amount: api.Wide{70}, Gas: 100},
		{Kind: 2, Sender: addressOf("q"), Time: 4, Body: sentBytes("burn 0 30 to r")},
	}
	run := func(i int) {
		if _, _, e := exec.Run(table, i, entries[i]); e != 0 {
			t.Fatal(int(e))
		}
	}
	beginning := commit("confirmed")
	run(0)
	run(1)
	second := commit("confirmed")
	told = append(told, "5 list ok", "6 send ok 0", "8 deposit ok 1", "10 send ok 2", "11 follow ok 0 3", "12 post ok 1", "13 "+commit("top"), "14 "+beginning)
	run(2)
	told = append(told, "15 post ok 2", "16 "+commit("top"), "18 confirm ok", "  pay bond 0 5 p 1", "19 "+second, "20 "+commit("top"), "21 confirm ok", "  pay bond 0 5 p 2", "22 "+commit("confirmed"), "23 "+commit("top"))
	script := head + `
top
confirmed
begin # 4
o list 0
a send token 0
time 3`
	// No time turns in a block.
	wantRefused(t, script, 7, 241)
	script = head + `
top
confirmed
# 4
o list 0
a send token 0
time 3
p deposit 0 70 for q gas 100
time 4
q send burn 0 30 to r
follow 1
p post 2 true
top
confirmed
p post 3 true
top
time 104
p confirm
confirmed
top
p confirm
confirmed
top`
	wantPlayed(t, "commits", script, strings.Join(told, "\n")+"\n")
	wantAsReckoned(t, script)
	// A turned one is another State by one bit, and the same for all else.
	c, _ := exec.Commit(table)
	c.State[0] ^= 1
	turned := strings.Replace(strings.Replace(script, "p post 3 true", "p post 3 false", 1), "\np confirm\nconfirmed\ntop\np confirm\nconfirmed\ntop", "", 1)
	told = append(told[:10], "15 post ok 2", fmt.Sprintf("16 top 3 1 %x %x", c.State[:8], c.Outbox[:8]))
	wantPlayed(t, "a turned one", turned, strings.Join(told, "\n")+"\n")
}

// The ninth example of the whole: the commit behind 1 is as it was.
func TestW10_TheCommitBehindOne(t *testing.T) {
	lines := "o list 0\np deposit 0 50 for q gas 100\n"
	told, _, _ := Run(head + "\n" + lines + "p deposit 0 50 for q gas 100\nfollow 2\np post 1 true\ntop\n")
	again, _, _ := Run(head + "\n" + lines + "p deposit 0 50 for q gas 100\nfollow 2\ncut 1\nfollow 1\np post 1 true\ntop\n")
	last := func(s string) string {
		l := strings.Split(strings.TrimSpace(s), "\n")
		_, text, _ := strings.Cut(l[len(l)-1], " ")
		return text
	}
	if last(told) != last(again) || !strings.HasPrefix(last(told), "top 1 0 ") {
		t.Errorf("told are %q and %q", last(told), last(again))
	}
}

package world

import (
	"fmt"
	"strings"
)

// challengers are lines by so many, whose names rise.
func challengers(n int, format string) string {
	var out strings.Builder
	for i := range n {
		out.WriteString(strings.ReplaceAll(format, "%", fmt.Sprintf("x%03d", i)) + "\n")
	}
	return out.String()
}

// bonds are what is told of those that go back to so many of the challengers, from one on.
func bonds(first, n int) string {
	var out strings.Builder
	for i := range n {
		fmt.Fprintf(&out, "|    pay bond 0 5 x%03d 1", first+i)
	}
	return out.String()
}

// guardStories are of assert, watch, defend.
func guardStories() []story {
	return []story{{"what is asserted", "", `
p assert => assert refused 212
p send retry 1 => send ok 0
p assert => assert refused 212
follow 1 => follow ok 0 1
q assert => assert ok 1|  post ok 1
q assert => assert refused 212
pending => pending 1|  1 1 q 0 100 0
time 5
p send retry 1 => send ok 1
follow 1 => follow ok 0 2
time 4
p assert => assert refused 191
time 5
p assert => assert ok 1|  post ok 2
cut 2 => cut ok 2
p assert => assert refused 212
time 3
p send retry 2 => send ok 1
l post 2 false => post ok 2
p assert => assert refused 211
follow 1 => follow ok 1 2
p assert => assert refused 212
pending => pending 2|  1 1 q 0 100 0|  2 2 l 3 103 0
w watch 1 => watch ok 1|  challenge ok|    pay reward 0 5 w 2
p assert => assert ok 1|  post ok 3`,
	}, {"a watcher who has nothing to do", "", letters(2) + `
w watch 0 => watch refused 210
w watch 17 => watch refused 210
w watch 16 => watch ok 0
p assert => assert ok 1|  post ok 1
w watch 1 => watch ok 0
p duel 1 => duel refused 172
x duel 1 => duel ok
w watch 1 => watch ok 0
cut 1 => cut ok 4
time 3
p send retry 1 => send ok 2
time 0
w watch 1 => watch ok 0
w watch 4611686018427387903 => watch refused 210`,
	}, {"a stroke, at a time that is and at one that is not", "", letters(3) + `
time 4
l post 3 false => post ok 1
time 3
w watch 1 => watch refused 191
time 4
l watch 1 => watch ok 1|  challenge ok|    pay reward 0 5 l 1
l post 3 false => post ok 2
time 104
w watch 1 => watch ok 0
time 103
w watch 1 => watch ok 1|  challenge ok|    pay reward 0 5 w 2`,
	}, {"a duel and an expiry at one stroke", "", letters(40) + `
l post 40 false => post ok 1
l watch 1 => watch ok 0
w watch 1 => watch ok 1|  duel ok
w watch 1 => watch ok 0
time 10
w watch 1 => watch ok 0
time 11
q watch 2 => watch ok 2|  duel ok|  expire ok|    pay reward 0 5 w 1|    pay bond 0 5 q 1|    pay bond 0 5 w 1
w watch 1 => watch ok 0`,
	}, {"one of the operations is refused", "", letters(4) + `
l post 4 false => post ok 1
x duel 1 => duel ok
y duel 1 => duel ok
time 11
w watch 3 => watch ok 3|  challenge ok|    pay reward 0 5 w 1|    pay bond 0 5 x 1|    pay bond 0 5 y 1|  expire refused 186|  expire refused 186`,
	}, {"a watcher's duel from beginning to end", "", letters(40) + `
l post 40 false => post ok 1
w watch 1 => watch ok 1|  duel ok
l split 1 against w true => split ok
w watch 1 => watch ok 1|  pick ok
duels => duels 1|  1 w l split 20 40 10 1
l split 1 against w false => split ok
w watch 1 => watch ok 1|  pick ok
duels => duels 1|  1 w l split 20 30 10 2
time 10
l split 1 against w true => split ok
time 20
w watch 1 => watch ok 1|  pick ok
l split 1 against w true => split ok
w watch 1 => watch ok 1|  pick ok
l split 1 against w false => split ok
w watch 1 => watch ok 1|  pick ok
duels => duels 1|  1 w l prove 27 28 30 5
time 31
x watch 1 => watch ok 2|  duel ok|  expire ok|    pay reward 0 5 l 1
cut 1 => cut ok 52
time 30
w watch 1 => watch ok 1|  prove ok|    pay reward 0 5 w 1|    pay bond 0 5 w 1
w watch 1 => watch ok 0`,
	}, {"a poster who defends", "", letters(5) + `
p defend => defend ok 0
p assert => assert ok 1|  post ok 1
p defend => defend ok 0
w duel 1 => duel ok
x duel 1 => duel ok
time 1
y duel 1 => duel ok
time 0
p defend => defend refused 191
w defend => defend ok 0
time 11
p defend => defend ok 1|  split ok
duels => duels 3|  1 w p split 0 5 10 0|  1 x p split 0 5 10 0|  1 y p pick 0 5 21 0
cut 1 => cut ok 9
time 10
p defend => defend ok 3|  split ok|  split ok|  split ok
p defend => defend ok 0
duels => duels 3|  1 w p pick 0 5 20 0|  1 x p pick 0 5 20 0|  1 y p pick 0 5 20 0
w pick 1 upper => pick ok
x pick 1 lower => pick ok
p defend => defend ok 2|  split ok|  split ok
time 21
p defend => defend ok 3|  expire ok|    pay reward 0 5 p 1|  expire ok|    pay reward 0 5 p 1|  expire ok|    pay reward 0 5 p 1
time 100
p confirm => confirm ok|  pay bond 0 5 p 1`,
	}, {"more than a block has", "", letters(2) + `
p assert => assert ok 1|  post ok 1
` + challengers(300, "% duel 1 => duel ok") + `
p defend => defend ok 256` + strings.Repeat("|  split ok", 256) + `
p defend => defend ok 44` + strings.Repeat("|  split ok", 44) + `
p defend => defend ok 0
time 11
p defend => defend ok 256` + strings.Repeat("|  expire ok|    pay reward 0 5 p 1", 256) + `
cut 2 => cut ok 304
w watch 1 => watch ok 256` + strings.Repeat("|  expire ok|    pay reward 0 5 p 1", 256) + `
w watch 1 => watch ok 44|  expire ok|    pay reward 0 5 x256 1` + bonds(256, 44) + strings.Repeat("|  expire refused 186", 43),
	}}
}

// tellStories are of lines that tell something.
func tellStories() []story {
	return []story{{"of nothing", "", `
count => count 0
pending => pending 0
duels => duels 0
look 0 => look unknown
held 0 => held 0
held 4611686018427387903 => held 0
supply 0 => supply 0
supply 64 => supply 0
supply 4611686018427387903 => supply 0
balance 0 q => balance 0
balance 63 q => balance 0
balance 64 q => balance refused 80
balance 4611686018427387903 q => balance refused 80
ticket 0 => ticket refused 90
ticket 1 => ticket refused 90
ticket 4611686018427387903 => ticket refused 90
receipt 0 => receipt refused 200
receipt 4611686018427387903 => receipt refused 200`,
	}, {"of great amounts and many tickets", "", `
o list 63 => list ok
o list 7 => list ok
p deposit 63 ` + most + ` for q gas 100 => deposit ok 0
a send many token 63 ; token 7 => send ok 1
x send retry 1 => send ok 2
p deposit 7 1 for abcdefghijklmnopqrst gas 100 => deposit ok 3
12345678901234567890 deposit 7 2 for z gas 99 => deposit ok 4
a send pause 7 => send ok 5
p deposit 7 4 for q gas 100 => deposit ok 6
count => count 0
held 63 => held ` + most + `
held 7 => held 7
follow 5 => follow ok 0 7
count => count 7
supply 63 => supply ` + most + `
supply 7 => supply 1
balance 63 q => balance ` + most + `
balance 7 q => balance 0
balance 7 abcdefghijklmnopqrst => balance 1
balance 7 abcdefghijklmnopqrs => balance 0
ticket 1 => ticket refused 90
ticket 2 => ticket 7 2 12345678901234567890 z 4
ticket 3 => ticket 7 4 p q 6
ticket 4 => ticket refused 90`,
	}, {"of many assertions and duels", "bridge owner o admin a window 50 turn 7 bond 1", letters(9) + `
p post 2 true => post ok 1
time 3
abcdefghijklmnopqrst post 5 false => post ok 2
time 4
l post 9 false => post ok 3
q duel 3 => duel ok
l duel 2 => duel ok
7 duel 3 => duel ok
time 9
p duel 3 => duel ok
q duel 1 => duel ok
p split 1 against q false => split ok
abcdefghijklmnopqrst split 2 against l true => split ok
l pick 2 upper => pick ok
pending => pending 3|  1 2 p 0 50 1|  2 5 abcdefghijklmnopqrst 3 53 1|  3 9 l 4 54 3
duels => duels 5|  1 q p pick 0 2 16 0|  2 l abcdefghijklmnopqrst split 3 5 16 1|  3 7 l split 5 9 11 0|  3 p l split 5 9 16 0|  3 q l split 5 9 11 0`,
	}}
}

package world

import (
	"slices"
	"strings"
	"testing"
)

const most = "115792089237316195423570985008687907853269984665640564039457584007913129639935" // the greatest amount

// stories are scripts with all that is told of them: most of what the document says of operations and answers.
func stories() []story {
	return slices.Concat(wholeStories(), tokenStories(), letterStories(), assertionStories(), duelStories(), claimStories(), blockStories(), guardStories(), tellStories())
}

// TestW12_Stories plays them all.
func TestW12_Stories(t *testing.T) {
	for _, s := range stories() {
		wantTold(t, s)
	}
}

// An operation by itself is one in a block that has no other one, but that a block is made if there is none.
func TestW12_StoriesInBlocks(t *testing.T) {
	for _, s := range stories() {
		lines, told := s.lines()
		var between story
		between.name, between.first = s.name+", in blocks", lines[0]
		inside := false
		for i, line := range lines[1:] {
			row := line
			if l := told[i+1]; l != nil {
				row += " => " + strings.Join(l, "|")
			}
			op, _ := find(opRules, strings.Join(strings.Fields(line), " "))
			switch {
			case line == "begin" || line == "end":
				inside = !inside
			case op != "" && !inside && isMade(op, told[i+1]):
				row = "begin\n" + row + "\nend"
			}
			between.rows += row + "\n"
		}
		wantTold(t, between)
	}
}

// isMade tells whether what is told of an operation can not be of one that was not made: of what is asked for, a refusal may be.
func isMade(op string, told []string) bool {
	return !strings.Contains(told[0], "refused") || !slices.Contains([]string{"post", "challenge", "split", "prove", "claim"}, strings.Fields(op)[1])
}

// wholeStories are the chapter's example, and those of the whole, in their order.
func wholeStories() []story {
	return []story{{"the chapter's example", "", `
o list 0 => list ok
p deposit 0 50 for q gas 100 => deposit ok 0
a send token 0 => send ok 1
p deposit 0 70 for q gas 100 => deposit ok 2
q send burn 0 30 to r => send ok 3
follow 1 => follow ok 0 4
supply 0 => supply 40
held 0 => held 120
p assert => assert ok 1|  post ok 1
time 99
p confirm => confirm refused 165
time 100
p confirm => confirm ok|  pay bond 0 5 p 1
x claim 0 => claim ok|  pay leaf 0 30 r 0
look 0 => look paid
held 0 => held 90`,
	}, {"1: a retry", "", `
o list 0 => list ok
p deposit 0 50 for q gas 100 => deposit ok 0
a send token 0 => send ok 1
follow 1 => follow ok 0 2
receipt 0 => receipt 122 0 1 0 0 0 0
ticket 1 => ticket 0 50 p q 0
supply 0 => supply 0
x send retry 1 => send ok 2
follow 1 => follow ok 0 3
ticket 1 => ticket refused 90
balance 0 q => balance 50
supply 0 => supply 50
held 0 => held 50`,
	}, {"2: a ticket that is cancelled", "", `
o list 0 => list ok
p deposit 0 50 for q gas 100 => deposit ok 0
a send token 0 => send ok 1
p send cancel 1 => send ok 2
follow 1 => follow ok 0 3
receipt 2 => receipt 0 0 0 0 0 0 1
supply 0 => supply 0
held 0 => held 50
p post 3 true => post ok 1
time 100
p confirm => confirm ok|  pay bond 0 5 p 1
x claim 0 => claim ok|  pay leaf 0 50 p 0
held 0 => held 0`,
	}, {"2: another one's ticket", "", `
o list 0 => list ok
p deposit 0 50 for q gas 100 => deposit ok 0
a send token 0 => send ok 1
q send cancel 1 => send ok 2
follow 1 => follow ok 0 3
receipt 2 => receipt 91 0 0 0 0 0 0
ticket 1 => ticket 0 50 p q 0`,
	}, {"3: too little gas", "", `
o list 0 => list ok
a send token 0 => send ok 0
p deposit 0 70 for q gas 99 => deposit ok 1
follow 1 => follow ok 0 2
receipt 1 => receipt 122 0 1 0 0 0 0
ticket 1 => ticket 0 70 p q 1`,
	}, {"4: several, or none", "", `
o list 0 => list ok
a send token 0 => send ok 0
p deposit 0 70 for q gas 100 => deposit ok 1
q send many burn 0 30 to r ; burn 0 50 to r => send ok 2
follow 1 => follow ok 0 3
receipt 2 => receipt 85 2 0 0 0 0 0
supply 0 => supply 70
look 0 => look unknown`,
	}, {"5: home", "", `
o list 0 => list ok
a send token 0 => send ok 0
p deposit 0 70 for q gas 100 => deposit ok 1
q send burn 0 30 to r => send ok 2
follow 1 => follow ok 0 3
p assert => assert ok 1|  post ok 1
time 99
p confirm => confirm refused 165
time 100
p confirm => confirm ok|  pay bond 0 5 p 1
begin
x claim 0 => claim ok|  pay leaf 0 30 r 0
x claim 0 => claim refused 147
end
x claim 0 => claim refused 222`,
	}, {"6: a lie that is shown", "", `
p send retry 1 => send ok 0
follow 1 => follow ok 0 1
l post 1 false => post ok 1
time 99
w watch 1 => watch ok 1|  challenge ok|    pay reward 0 5 w 1
pending => pending 0`,
	}, {"6: a lie that has stood", "", `
p send retry 1 => send ok 0
follow 1 => follow ok 0 1
l post 1 false => post ok 1
time 100
w watch 1 => watch ok 0
l confirm => confirm ok|  pay bond 0 5 l 1
p assert => assert refused 212`,
	}, {"7: forty letters", "", numbered(0, 40, "p send retry 1 => send ok %") + `
follow 1 => follow ok 0 40
l post 40 false => post ok 1
w watch 1 => watch ok 1|  duel ok
l split 1 against w true => split ok
w watch 1 => watch ok 1|  pick ok
time 10
w watch 1 => watch ok 0
time 11
w watch 1 => watch ok 1|  expire ok|    pay reward 0 5 w 1|    pay bond 0 5 w 1
pending => pending 0`,
	}, {"8: who asserts must defend", "", `
p send retry 1 => send ok 0
p send retry 1 => send ok 1
follow 1 => follow ok 0 2
p assert => assert ok 1|  post ok 1
x duel 1 => duel ok
time 10
q expire 1 against x => expire refused 174
time 11
q expire 1 against x => expire ok|  pay reward 0 5 x 1|  pay bond 0 5 x 1`,
	}, {"9: blocks lost", "", `
o list 0 => list ok
p deposit 0 50 for q gas 100 => deposit ok 0
p deposit 0 50 for q gas 100 => deposit ok 1
follow 2 => follow ok 0 2
cut 1 => cut ok 2
follow 1 => follow ok 1 1`,
	}, {"10: too much", "", `
o list 0 => list ok
p deposit 0 ` + most + ` for q gas 100 => deposit ok 0
p deposit 0 1 for q gas 100 => deposit refused 145
held 0 => held ` + most,
	}}
}

// tokenStories are of list, stop, open, deposit.
func tokenStories() []story {
	return []story{{"tokens", "", `
p list 0 => list refused 183
a list 0 => list refused 183
o list 64 => list refused 181
p list 64 => list refused 181
o list 4611686018427387903 => list refused 181
o stop 0 => stop refused 141
o open 0 => open refused 141
p stop 0 => stop refused 183
p open 0 => open refused 183
o list 0 => list ok
o list 0 => list refused 142
o list 63 => list ok
o open 0 => open refused 143
o stop 0 => stop ok
o stop 0 => stop refused 143
p deposit 0 1 for q gas 100 => deposit refused 143
p deposit 63 1 for q gas 100 => deposit ok 0
o open 0 => open ok
o open 0 => open refused 143
o open 64 => open refused 181
o stop 64 => stop refused 181
p deposit 0 1 for q gas 100 => deposit ok 1
p deposit 0 0 for q gas 100 => deposit refused 144
p deposit 1 1 for q gas 100 => deposit refused 141
p deposit 64 1 for q gas 100 => deposit refused 181
p deposit 0 1 for q gas 1099511627776 => deposit ok 2
p deposit 0 1 for q gas 1099511627777 => deposit refused 181
p deposit 0 ` + most + ` for q gas 100 => deposit refused 145
held 0 => held 2
held 63 => held 1
held 1 => held 0
held 64 => held 0`,
	}, {"an owner and an admin of odd names, who are one", "bridge owner abcdefghijklmnopqrst admin abcdefghijklmnopqrst window 1 turn 1 bond 0", `
abcdefghijklmnopqrs list 0 => list refused 183
abcdefghijklmnopqrst list 0 => list ok
abcdefghijklmnopqrst send token 0 => send ok 0
7 send token 1 => send ok 1
7 deposit 0 5 for 0 gas 100 => deposit ok 2
0 deposit 0 5 for 7 gas 99 => deposit ok 3
follow 16 => follow ok 0 4
receipt 0 => receipt 0 0 0 0 0 0 0
receipt 1 => receipt 124 0 0 0 0 0 0
balance 0 0 => balance 5
ticket 1 => ticket 0 5 0 7 3`,
	}, {"at a time below the head's", "", `
time 5
o list 0 => list ok
p send retry 1 => send ok 0
p send retry 1 => send ok 1
follow 1 => follow ok 0 2
p post 2 false => post ok 1
w duel 1 => duel ok
time 4
o list 1 => list refused 191
o stop 0 => stop refused 191
o open 0 => open refused 191
p deposit 0 1 for q gas 100 => deposit refused 191
p send retry 1 => send refused 191
p post 2 true => post refused 191
p post 3 true => post refused 200
p confirm => confirm refused 191
w challenge 1 => challenge refused 191
w challenge 2 => challenge refused 164
x duel 1 => duel refused 191
p split 1 against w true => split refused 191
p split 1 against x true => split refused 186
w pick 1 upper => pick refused 191
w prove 1 => prove refused 191
x prove 1 => prove refused 186
x expire 1 against w => expire refused 191
x claim 0 => claim refused 220
x assert => assert refused 212
p defend => defend refused 191
w watch 1 => watch ok 0
begin
o list 1 => list refused 191
w challenge 1 => challenge refused 191
w challenge 2 => challenge refused 164
end
cut 0 => cut ok 5
time 5
o list 1 => list ok
cut 0 => cut ok 6`,
	}}
}

// letterStories are of send.
func letterStories() []story {
	big := strings.Repeat("00", 1024)
	return []story{{"each kind of letter", "", `
o list 0 => list ok
a send token 0 => send ok 0
p deposit 0 100 for q gas 100 => deposit ok 1
q send move 0 10 to r => send ok 2
q send burn 0 5 to s => send ok 3
q send allow 0 7 to r => send ok 4
r send pull 0 4 from q to s => send ok 5
p deposit 0 9 for s gas 0 => deposit ok 6
p deposit 0 8 for s gas 0 => deposit ok 7
x send retry 1 => send ok 8
p send cancel 2 => send ok 9
a send pause 0 => send ok 10
q send move 0 1 to r => send ok 11
a send resume 0 => send ok 12
q send code 100001 => send ok 13
q send call 1 0 3 gas 50 8 => send ok 14
q send many move 0 1 to r ; burn 0 1 to s ; call 1 0 0 gas 50 77 ; code 00 => send ok 15
r send pull 0 4 from q to s => send ok 16
q send call 1 0 0 gas 3 => send ok 17
q send call 1 0 0 gas 2 7 => send ok 18
q send many cancel 1 => send ok 19
q send call 2 0 0 gas 100 => send ok 20
q send call 3 0 0 gas 100 => send ok 21
q send token 1 => send ok 22
q send code ff => send ok 23
follow 3 => follow ok 0 24
receipt 0 => receipt 0 0 0 0 0 0 0
receipt 1 => receipt 0 0 0 0 0 0 0
receipt 2 => receipt 0 0 0 0 0 0 0
receipt 3 => receipt 0 0 0 0 0 0 1
receipt 4 => receipt 0 0 0 0 0 0 0
receipt 5 => receipt 0 0 0 0 0 0 0
receipt 6 => receipt 122 0 1 0 0 0 0
receipt 7 => receipt 122 0 2 0 0 0 0
receipt 8 => receipt 0 0 0 0 0 0 0
receipt 9 => receipt 0 0 0 0 0 1 1
receipt 10 => receipt 0 0 0 0 0 0 0
receipt 11 => receipt 83 0 0 0 0 0 0
receipt 12 => receipt 0 0 0 0 0 0 0
receipt 13 => receipt 0 0 1 0 0 0 0
receipt 14 => receipt 0 0 0 8 3 0 0
receipt 15 => receipt 0 0 2 77 3 2 1
receipt 16 => receipt 86 0 0 0 0 0 0
receipt 17 => receipt 0 0 0 0 3 0 0
receipt 18 => receipt 102 0 0 0 0 0 0
receipt 19 => receipt 90 1 0 0 0 0 0
receipt 20 => receipt 105 0 0 0 0 0 0
receipt 21 => receipt 125 0 0 0 0 0 0
receipt 22 => receipt 124 0 0 0 0 0 0
receipt 23 => receipt 100 0 0 0 0 0 0
receipt 24 => receipt refused 200
balance 0 q => balance 76
balance 0 r => balance 11
balance 0 s => balance 13
balance 0 p => balance 0
supply 0 => supply 103
held 0 => held 117
look 2 => look burned
look 3 => look unknown`,
	}, {"letters that may not be, and such as just may be", "", `
p send move 64 1 to q => send ok 0
p send move 63 1 to q => send ok 1
p send retry 0 => send ok 2
p send retry 1099511627776 => send ok 3
p send retry 1099511627777 => send ok 4
p send cancel 4611686018427387903 => send ok 5
p send token 64 => send ok 6
p send pause 64 => send ok 7
p send resume 63 => send ok 8
p send code ` + big + ` => send ok 9
p send code ` + big + `00 => send ok 10
p send call 0 0 0 gas 1 => send ok 11
p send call 1 0 0 gas 0 => send ok 12
p send call 1 0 0 gas 10000 => send ok 13
p send call 1 0 0 gas 10001 => send ok 14
p send call 1 64 0 gas 1 => send ok 15
p send call 1 0 0 gas 9 1 2 3 4 5 6 7 ` + most + ` => send ok 16
p send call 1 0 0 gas 9 1 2 3 4 5 6 7 8 9 => send ok 17
p send many` + strings.Repeat(" resume 0 ;", 7) + ` resume 0 => send ok 18
p send many` + strings.Repeat(" resume 0 ;", 8) + ` resume 0 => send ok 19
p send many resume 0 ; retry 0 => send ok 20
p send many call 1 0 0 gas 5000 ; call 1 0 0 gas 5000 => send ok 21
p send many call 1 0 0 gas 5000 ; call 1 0 0 gas 5001 => send ok 22
p send many code ` + big + ` ; code ` + big + ` ; code ` + big + ` => send ok 23
p send many code ` + big + ` ; code ` + big + ` ; code ` + big + ` ; code ` + big + ` => send ok 24
p send burn 64 1 to q => send ok 25
p send allow 64 1 to q => send ok 26
p send pull 64 1 from q to r => send ok 27
follow 1 => follow ok 0 28
receipt 0 => receipt 123 0 0 0 0 0 0
receipt 1 => receipt 81 0 0 0 0 0 0
receipt 2 => receipt 123 0 0 0 0 0 0
receipt 3 => receipt 90 0 0 0 0 0 0
receipt 4 => receipt 123 0 0 0 0 0 0
receipt 5 => receipt 123 0 0 0 0 0 0
receipt 6 => receipt 123 0 0 0 0 0 0
receipt 7 => receipt 123 0 0 0 0 0 0
receipt 8 => receipt 124 0 0 0 0 0 0
receipt 9 => receipt 0 0 1 0 0 0 0
receipt 10 => receipt 123 0 0 0 0 0 0
receipt 11 => receipt 123 0 0 0 0 0 0
receipt 12 => receipt 123 0 0 0 0 0 0
receipt 13 => receipt 105 0 0 0 0 0 0
receipt 14 => receipt 123 0 0 0 0 0 0
receipt 15 => receipt 123 0 0 0 0 0 0
receipt 16 => receipt 105 0 0 0 0 0 0
receipt 17 => receipt 123 0 0 0 0 0 0
receipt 18 => receipt 124 1 0 0 0 0 0
receipt 19 => receipt 123 0 0 0 0 0 0
receipt 20 => receipt 123 0 0 0 0 0 0
receipt 21 => receipt 105 1 0 0 0 0 0
receipt 22 => receipt 123 0 0 0 0 0 0
receipt 23 => receipt 0 0 4 0 0 0 0
receipt 24 => receipt 123 0 0 0 0 0 0
receipt 25 => receipt 123 0 0 0 0 0 0
receipt 26 => receipt 123 0 0 0 0 0 0
receipt 27 => receipt 123 0 0 0 0 0 0`,
	}}
}

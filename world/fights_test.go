package world

// letters are so many that do nothing, with their numbers from 0 on, and the node has followed them.
func letters(n int) string {
	return numbered(0, n, "p send retry 1 => send ok %") + "follow 1 => follow ok 0 " + number(n) + "\n"
}

// assertionStories are of post, confirm, challenge.
func assertionStories() []story {
	return []story{{"posts", "", `
p post 0 true => post refused 161
p post 1 true => post refused 200
p send retry 1 => send ok 0
p send retry 1 => send ok 1
p post 1 true => post refused 200
follow 1 => follow ok 0 2
p post 0 false => post refused 161
p post 2 true => post ok 1
q post 2 false => post refused 161
q post 1 true => post refused 161
q post 3 true => post refused 200
q post 4611686018427387903 false => post refused 200
p send retry 1 => send ok 2
follow 1 => follow ok 0 3
cut 1 => cut ok 7
q post 3 true => post refused 162
q post 3 false => post refused 162
pending => pending 1|  1 2 p 0 100 0`,
	}, {"posts at the end of time", "bridge owner o admin a window 2 turn 10 bond 5", `
p send retry 1 => send ok 0
p send retry 1 => send ok 1
follow 1 => follow ok 0 2
time 4611686018427387902
p post 1 true => post ok 1
time 4611686018427387903
p post 2 true => post refused 168
p assert => assert ok 1|  post refused 168
p confirm => confirm refused 165
pending => pending 1|  1 1 p 4611686018427387902 4611686018427387904 0
q duel 1 => duel refused 170`,
	}, {"as many as may be pending", "", letters(33) + numbered(1, 32, "p post % true => post ok %") + `
p post 33 true => post refused 163
p assert => assert ok 1|  post refused 163
time 100
p confirm => confirm ok|  pay bond 0 5 p 1
p assert => assert ok 1|  post ok 33`,
	}, {"as many entries as one may go over", "", "begin\n" + numbered(0, 256, "p send retry 1 => send ok %") + "end\nbegin\n" + numbered(256, 256, "p send retry 1 => send ok %") + "end\nbegin\n" + numbered(512, 256, "p send retry 1 => send ok %") + "end\nbegin\n" + numbered(768, 256, "p send retry 1 => send ok %") + `end
p send retry 1 => send ok 1024
follow 8 => follow ok 0 1025
p post 1025 true => post refused 161
p post 1024 true => post ok 1
cut 1 => cut ok 6
p assert => assert ok 1|  post ok 1
pending => pending 1|  1 1024 p 0 100 0
p assert => assert ok 1|  post ok 2
pending => pending 2|  1 1024 p 0 100 0|  2 1025 p 0 100 0`,
	}, {"confirms", "bridge owner o admin a window 100 turn 10 bond 0", `
p confirm => confirm refused 164
p send retry 1 => send ok 0
p send retry 1 => send ok 1
follow 1 => follow ok 0 2
p post 2 true => post ok 1
p confirm => confirm refused 165
time 99
q confirm => confirm refused 165
x duel 1 => duel ok
time 100
q confirm => confirm refused 166
p split 1 against x true => split ok
time 111
p defend => defend ok 1|  expire ok|    pay reward 0 0 p 1
q confirm => confirm ok|  pay bond 0 0 p 1
q confirm => confirm refused 164`,
	}, {"challenges", "", letters(4) + `
w challenge 0 => challenge refused 164
w challenge 1 => challenge refused 164
l post 2 false => post ok 1
l post 3 true => post ok 2
l post 4 false => post ok 3
w challenge 4 => challenge refused 164
w challenge 4611686018427387903 => challenge refused 164
w challenge 2 => challenge refused 132
w challenge 3 => challenge ok|  pay reward 0 5 w 3
pending => pending 2|  1 2 l 0 100 0|  2 3 l 0 100 0
l challenge 1 => challenge ok|  pay reward 0 5 l 1|  pay bond 0 5 l 2
l post 2 true => post ok 4
w challenge 4 => challenge refused 185
time 100
w challenge 4 => challenge refused 167`,
	}, {"as many entries as one witness shows", "", letters(66) + `
l post 33 false => post ok 1
w challenge 1 => challenge refused 202
cut 1 => cut ok 66
p post 33 true => post ok 1
l post 65 false => post ok 2
p post 66 true => post ok 3
w challenge 1 => challenge refused 202
w challenge 2 => challenge ok|  pay reward 0 5 w 2|  pay bond 0 5 p 3
l post 66 false => post ok 4
w challenge 4 => challenge refused 202`,
	}, {"a node of another inbox", "", `
o list 0 => list ok
p send retry 1 => send ok 0
p send retry 1 => send ok 1
follow 1 => follow ok 0 2
cut 2 => cut ok 1
p deposit 0 5 for q gas 100 => deposit ok 0
p send retry 1 => send ok 1
l post 2 true => post ok 1
w challenge 1 => challenge refused 133
p assert => assert refused 211
w watch 1 => watch ok 0
w duel 1 => duel ok
l split 1 against w true => split ok
w pick 1 lower => pick ok
w prove 1 => prove refused 133
follow 1 => follow ok 2 2
w prove 1 => prove ok|  pay reward 0 5 w 1|  pay bond 0 5 w 1`,
	}}
}

// duelStories are of duel, split, pick, prove, expire.
func duelStories() []story {
	return []story{{"duels are opened", "", letters(4) + `
l post 1 false => post ok 1
l post 4 false => post ok 2
w duel 0 => duel refused 181
w duel 1099511627777 => duel refused 181
w duel 1099511627776 => duel refused 164
w duel 3 => duel refused 164
w duel 1 => duel refused 170
l duel 2 => duel refused 172
x duel 2 => duel ok
w duel 2 => duel ok
w duel 2 => duel refused 186
duels => duels 2|  2 w l split 1 4 10 0|  2 x l split 1 4 10 0
time 99
v duel 2 => duel ok
time 100
u duel 2 => duel refused 167
pending => pending 2|  1 1 l 0 100 0|  2 4 l 0 100 3
x expire 0 against w => expire refused 181
x expire 1099511627777 against w => expire refused 181
x expire 2 against u => expire refused 186
x expire 1 against w => expire refused 186
x expire 2 against v => expire refused 174
x expire 2 against x => expire ok|  pay reward 0 5 x 2|  pay bond 0 5 v 2|  pay bond 0 5 w 2|  pay bond 0 5 x 2
duels => duels 0`,
	}, {"a duel that its challenger gives up", "", letters(5) + `
l post 5 false => post ok 1
w duel 1 => duel ok
duels => duels 1|  1 w l split 0 5 10 0
w pick 1 lower => pick refused 171
w prove 1 => prove refused 171
x split 1 against w true => split refused 172
l split 1 against x true => split refused 186
l split 2 against w true => split refused 186
time 10
l split 1 against w true => split ok
duels => duels 1|  1 w l pick 0 5 20 0
l split 1 against w true => split refused 171
x pick 1 upper => pick refused 186
w pick 0 upper => pick refused 181
w pick 2 upper => pick refused 186
time 15
w pick 1 upper => pick ok
duels => duels 1|  1 w l split 2 5 25 1
l split 1 against w true => split ok
w pick 1 upper => pick ok
duels => duels 1|  1 w l split 3 5 25 2
l split 1 against w true => split ok
w pick 1 upper => pick ok
duels => duels 1|  1 w l prove 4 5 25 3
l split 1 against w true => split refused 171
w pick 1 upper => pick refused 171
x prove 1 => prove refused 186
w prove 2 => prove refused 186
w prove 0 => prove refused 186
time 25
x expire 1 against w => expire refused 174
time 26
w prove 1 => prove refused 173
x expire 1 against w => expire ok|  pay reward 0 5 l 1
x expire 1 against w => expire refused 186
duels => duels 0
pending => pending 1|  1 5 l 0 100 0
w duel 1 => duel ok
duels => duels 1|  1 w l split 0 5 36 0
time 37
l split 1 against w true => split refused 173
cut 1 => cut ok 27
time 36
l split 1 against w true => split ok
time 47
w pick 1 upper => pick refused 173
w expire 1 against w => expire ok|  pay reward 0 5 l 1`,
	}, {"a lie in the middle, which is shown", "", letters(4) + `
l post 4 false => post ok 1
v duel 1 => duel ok
w duel 1 => duel ok
x duel 1 => duel ok
l split 1 against w false => split ok
w pick 1 lower => pick ok
duels => duels 3|  1 v l split 0 4 10 0|  1 w l split 0 2 10 1|  1 x l split 0 4 10 0
l split 1 against w true => split ok
w pick 1 upper => pick ok
duels => duels 3|  1 v l split 0 4 10 0|  1 w l prove 1 2 10 2|  1 x l split 0 4 10 0
w prove 1 => prove ok|  pay reward 0 5 w 1|  pay bond 0 5 v 1|  pay bond 0 5 w 1|  pay bond 0 5 x 1
duels => duels 0
pending => pending 0`,
	}, {"a right one holds", "", letters(4) + `
p post 4 true => post ok 1
w duel 1 => duel ok
p split 1 against w true => split ok
w pick 1 lower => pick ok
p split 1 against w true => split ok
w pick 1 lower => pick ok
duels => duels 1|  1 w p prove 0 1 10 2
w prove 1 => prove refused 176
time 11
p defend => defend ok 1|  expire ok|    pay reward 0 5 p 1
time 100
p confirm => confirm ok|  pay bond 0 5 p 1`,
	}, {"a lie that is agreed to", "", letters(2) + `
l post 2 false => post ok 1
w duel 1 => duel ok
l split 1 against w false => split ok
w pick 1 upper => pick ok
duels => duels 1|  1 w l prove 1 2 10 1
w prove 1 => prove refused 132`,
	}, {"a duel over many entries", "", letters(68) + `
l post 68 false => post ok 1
w duel 1 => duel ok
w prove 1 => prove refused 202
l split 1 against w true => split ok
w pick 1 upper => pick ok
w prove 1 => prove refused 202
l split 1 against w true => split ok
w prove 1 => prove refused 202
w pick 1 upper => pick ok
w prove 1 => prove refused 171
duels => duels 1|  1 w l split 51 68 10 2`,
	}}
}

// claimStories are of claim and look.
func claimStories() []story {
	const burned = `
o list 0 => list ok
a send token 0 => send ok 0
p deposit 0 70 for q gas 100 => deposit ok 1
q send burn 0 30 to r => send ok 2
`
	return []story{{"claims", "", burned + `
q send burn 0 20 to s => send ok 3
look 0 => look unknown
x claim 0 => claim refused 220
follow 1 => follow ok 0 4
look 0 => look burned
look 2 => look unknown
look 4611686018427387903 => look unknown
x claim 0 => claim refused 221
x claim 2 => claim refused 220
x claim 4611686018427387903 => claim refused 220
p post 3 true => post ok 1
look 0 => look asserted
look 1 => look burned
x claim 0 => claim refused 221
p post 4 true => post ok 2
look 1 => look asserted
time 100
p confirm => confirm ok|  pay bond 0 5 p 1
look 0 => look confirmed
look 1 => look asserted
x claim 1 => claim refused 221
x claim 0 => claim ok|  pay leaf 0 30 r 0
look 0 => look paid
x claim 0 => claim refused 222
held 0 => held 40
begin
p confirm => confirm ok|  pay bond 0 5 p 2
x claim 1 => claim refused 221
end
begin
x claim 1 => claim ok|  pay leaf 0 20 s 1
r claim 1 => claim refused 147
x claim 0 => claim refused 222
end
look 1 => look paid
held 0 => held 20
supply 0 => supply 20
cut 1 => cut ok 10
look 1 => look confirmed
held 0 => held 40
s claim 1 => claim ok|  pay leaf 0 20 s 1`,
	}, {"a path that does not lead there any more", "", burned + `
q send burn 0 20 to s => send ok 3
follow 1 => follow ok 0 4
p post 3 true => post ok 1
p post 4 true => post ok 2
time 100
p confirm => confirm ok|  pay bond 0 5 p 1
begin
p confirm => confirm ok|  pay bond 0 5 p 2
x claim 0 => claim refused 187
end
x claim 0 => claim ok|  pay leaf 0 30 r 0`,
	}, {"another outbox is confirmed", "", burned + `
follow 1 => follow ok 0 3
cut 1 => cut ok 3
q send burn 0 20 to r => send ok 2
p post 3 true => post ok 1
follow 1 => follow ok 1 3
time 100
p confirm => confirm ok|  pay bond 0 5 p 1
look 0 => look confirmed
x claim 0 => claim refused 223
p assert => assert refused 212`,
	}, {"more than is held", "", burned + `
follow 1 => follow ok 0 3
cut 2 => cut ok 2
p deposit 0 7 for q gas 100 => deposit ok 1
q send burn 0 30 to r => send ok 2
p post 3 true => post ok 1
time 100
p confirm => confirm ok|  pay bond 0 5 p 1
x claim 0 => claim refused 146
look 0 => look confirmed
held 0 => held 7`,
	}, {"a token that is not listed", "", burned + `
follow 1 => follow ok 0 3
cut 4 => cut ok 0
p send retry 1 => send ok 0
p send retry 1 => send ok 1
p send retry 1 => send ok 2
p post 3 true => post ok 1
time 100
p confirm => confirm ok|  pay bond 0 5 p 1
x claim 0 => claim refused 141`,
	}}
}

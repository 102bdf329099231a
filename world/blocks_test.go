package world

// blockStories are of begin, end, cut, follow.
func blockStories() []story {
	return []story{{"blocks of nothing", "", `
begin
end
cut 1 => cut ok 0
cut 1 => cut refused 192
begin
p post 9 true => post refused 200
end
cut 0 => cut ok 1
begin
# nothing
end
cut 3 => cut refused 192
cut 2 => cut ok 0
p post 9 true => post refused 200
cut 0 => cut ok 0
time 5
begin
end
time 4
begin
end
cut 0 => cut ok 1
begin
p post 9 true => post refused 200
end
cut 0 => cut ok 1`,
	}, {"what is asked of the node and the contract as ahead of the block", "", `
begin
o list 0 => list ok
p deposit 0 5 for q gas 100 => deposit ok 0
p post 1 true => post refused 200
w challenge 1 => challenge refused 164
p confirm => confirm refused 164
x claim 0 => claim refused 220
l split 1 against w true => split refused 186
w prove 1 => prove refused 186
p deposit 0 6 for q gas 100 => deposit ok 1
end
cut 0 => cut ok 1
follow 1 => follow ok 0 2
begin
l post 2 false => post ok 1
w challenge 1 => challenge refused 164
w duel 1 => duel ok
l split 1 against w true => split refused 186
w prove 1 => prove refused 186
w pick 1 upper => pick refused 171
x duel 1 => duel ok
end
begin
l split 1 against w true => split ok
w pick 1 upper => pick ok
l split 1 against w true => split refused 171
w prove 1 => prove refused 132
l split 1 against x true => split ok
end
w prove 1 => prove ok|  pay reward 0 5 w 1|  pay bond 0 5 w 1|  pay bond 0 5 x 1
cut 1 => cut ok 3
begin
w challenge 1 => challenge ok|  pay reward 0 5 w 1|  pay bond 0 5 w 1|  pay bond 0 5 x 1
w challenge 1 => challenge refused 164
w prove 1 => prove refused 186
x pick 1 lower => pick refused 186
l split 1 against x true => split refused 186
x expire 1 against x => expire refused 186
p post 1 true => post ok 2
end
pending => pending 1|  2 1 p 0 100 0`,
	}, {"a commit that is not in the middle any more", "", letters(4) + `
l post 4 false => post ok 1
w duel 1 => duel ok
begin
l split 1 against w true => split ok
w pick 1 upper => pick ok
l split 1 against w true => split refused 175
end
l split 1 against w true => split ok`,
	}, {"as many operations as a block has", "", "begin\n" + numbered(0, 256, "p send retry 1 => send ok %") + "end\nbegin\n" + times(257, "p send retry 1 => send refused 190") + "p post 9 true => post refused 200\n" + `end
cut 0 => cut ok 1
begin
` + numbered(256, 200, "p send retry 1 => send ok %") + "p post 9 true => post refused 200\nw challenge 7 => challenge refused 164\n" + numbered(456, 56, "p send retry 1 => send ok %") + `end
follow 16 => follow ok 0 512`,
	}, {"too many, at a time below the head's", "", `
time 7
o list 0 => list ok
time 6
begin
` + times(257, "p send retry 1 => send refused 190") + `end
begin
` + times(256, "p send retry 1 => send refused 191") + `end`,
	}, {"blocks lost", "", `
o list 0 => list ok
p deposit 0 1 for q gas 99 => deposit ok 0
follow 1 => follow ok 0 1
ticket 1 => ticket 0 1 p q 0
cut 1 => cut ok 1
follow 1 => follow ok 1 0
ticket 1 => ticket refused 90
held 0 => held 0
cut 2 => cut refused 192
time 5
p deposit 0 9 for q gas 100 => deposit ok 0
cut 1 => cut ok 1
time 3
p deposit 0 9 for q gas 100 => deposit ok 0
cut 2 => cut ok 0
time 0
p deposit 0 9 for q gas 100 => deposit refused 141
cut 2 => cut refused 192
cut 1 => cut ok 0`,
	}, {"as many as can be lost", "", numbered(0, 12, "p send retry 1 => send ok %") + `
cut 9 => cut refused 192
cut 4611686018427387903 => cut refused 192
cut 3 => cut ok 9
cut 6 => cut refused 192
cut 5 => cut ok 4
cut 1 => cut refused 192
cut 0 => cut ok 4
p send retry 1 => send ok 4
cut 1 => cut ok 4
cut 1 => cut refused 192`,
	}, {"a node that follows", "", `
follow 0 => follow refused 1
follow 17 => follow refused 1
follow 4611686018427387903 => follow refused 1
follow 16 => follow ok 0 0
p send retry 1 => send ok 0
p send retry 2 => send ok 1
p send retry 3 => send ok 2
follow 1 => follow ok 0 3
follow 0 => follow refused 1
cut 2 => cut ok 1
count => count 3
receipt 2 => receipt 90 0 0 0 0 0 0
p send retry 2 => send ok 1
p send retry 4 => send ok 2
p send retry 5 => send ok 3
follow 2 => follow ok 1 4
cut 2 => cut ok 2
follow 3 => follow ok 2 2
receipt 2 => receipt refused 200
time 1
p send retry 4 => send ok 2
follow 3 => follow ok 0 3
cut 1 => cut ok 2
time 2
p send retry 4 => send ok 2
follow 3 => follow ok 1 3`,
	}}
}

package world

import (
	hextext "encoding/hex"
	"fmt"
	"math/big"
	"regexp"
	"slices"
	"strings"

	"causeway/api"
	"causeway/contract"
	"causeway/courier"
	"causeway/guard"
	"causeway/inbox"
	"causeway/node"
	"causeway/witness"
)

// The second reckoning: by the words of the chapters. Errors, kinds and limits are written out, not taken from api; the contract is made anew of the blocks that are left, the node anew of the inbox that was followed.

// Texts.

const decimals = `(0|[1-9][0-9]*)`

// rule is a line's form as the chapter tells it.
type rule struct {
	form   string
	re     *regexp.Regexp
	places []string // what its groups are
}

func ruleOf(form string) rule {
	r := rule{form: form}
	text := "^"
	for i, w := range strings.Fields(form) {
		if i > 0 && w != "A.." { // whose own form has a blank ahead of each
			text += " "
		}
		group := map[string]string{"WHO": `([a-z0-9]{1,20})`, "N": decimals, "T": decimals, "I": decimals, "A": decimals, "HEX": `((?:[0-9a-f]{2})+)`, "L": `((?s:.+))`, "A..": `((?: (?:0|[1-9][0-9]*))*)`, "B": `(true|false)`, "H": `(lower|upper)`}[w]
		if group == "" {
			text += regexp.QuoteMeta(w)
			continue
		}
		text += group
		r.places = append(r.places, w)
	}
	r.re = regexp.MustCompile(text + "$")
	return r
}

func rulesOf(forms string) []rule {
	var l []rule
	for _, form := range strings.Split(forms, " · ") {
		l = append(l, ruleOf(form))
	}
	return l
}

var (
	firstRule = ruleOf("bridge owner WHO admin WHO window N turn N bond A")
	opRules   = rulesOf("WHO list T · WHO stop T · WHO open T · WHO deposit T A for WHO gas N · WHO send L · WHO post N B · WHO confirm · WHO challenge N · WHO duel N · WHO split N against WHO B · WHO pick N H · WHO prove N · WHO expire N against WHO · WHO claim I")
	restRules = rulesOf("time N · follow N · cut N · WHO assert · WHO watch N · WHO defend · look I · held T · supply T · balance T WHO · ticket N · receipt N · count · top · confirmed · pending · duels")
	sentRules = rulesOf("move T A to WHO · burn T A to WHO · allow T A to WHO · pull T A from WHO to WHO · retry N · cancel N · token T · pause T · resume T · code HEX · call N T A gas N A..")
)

func bigText(s string) *big.Int {
	n, ok := new(big.Int).SetString(s, 10)
	if !ok {
		panic(s)
	}
	return n
}

// match tells what stands at the places of a rule's form; nil, if a text is not of it.
func (r rule) match(text string) []string {
	m := r.re.FindStringSubmatch(text)
	if m == nil {
		return nil
	}
	for i, place := range r.places {
		most := map[string]int{"N": 62, "T": 62, "I": 62, "A": 256, "A..": 256}[place]
		if most == 0 {
			continue
		}
		for _, n := range strings.Fields(m[i+1]) {
			if bigText(n).BitLen() > most {
				return nil
			}
		}
	}
	if i := slices.Index(r.places, "L"); i >= 0 && sentBytes(m[i+1]) == nil {
		return nil
	}
	return m
}

func find(rules []rule, text string) (string, []string) {
	for _, r := range rules {
		if m := r.match(text); m != nil {
			return r.form, m[1:]
		}
	}
	return "", nil
}

func numberOf(s string) int { return int(bigText(s).Int64()) }

func wideOf(n *big.Int) api.Wide {
	var w api.Wide
	for i := range w {
		w[i] = new(big.Int).And(new(big.Int).Rsh(n, uint(64*i)), new(big.Int).SetUint64(1<<64-1)).Uint64()
	}
	return w
}

func textOf(w api.Wide) string {
	n := new(big.Int)
	for i := 3; i >= 0; i-- {
		n.Add(n.Lsh(n, 64), new(big.Int).SetUint64(w[i]))
	}
	return n.String()
}

func addressOf(s string) api.Address {
	var a api.Address
	copy(a[:], s)
	return a
}

var nameBytes = regexp.MustCompile(`^([a-z0-9]+)\x00*$`)

func whoOf(a api.Address) string {
	if m := nameBytes.FindStringSubmatch(string(a[:])); m != nil {
		return m[1]
	}
	return fmt.Sprintf("%x", a[:])
}

// Letters.

// laid is a number in its one form: how many bytes, and they, the highest first.
func laid(s string) []byte {
	b := bigText(s).Bytes()
	return append([]byte{byte(len(b))}, b...)
}

func within(s string, least, most int64) bool {
	n := bigText(s)
	return n.Cmp(big.NewInt(least)) >= 0 && n.Cmp(big.NewInt(most)) <= 0
}

// partBytes are those of a letter that is not of several, whether it may be, and its gas; nil, if the text is none.
func partBytes(text string) (b []byte, may bool, gas int64) {
	form, m := find(sentRules, text)
	if form == "" {
		return nil, false, 0
	}
	who := func(s string) []byte { a := addressOf(s); return a[:] }
	kind := 1 + slices.Index([]string{"move", "burn", "allow", "pull", "retry", "cancel", "token", "pause", "resume", "code", "call"}, strings.Fields(form)[0])
	switch kind {
	case 1, 2, 3:
		return slices.Concat([]byte{byte(kind)}, laid(m[0]), who(m[2]), laid(m[1])), within(m[0], 0, 63), 0
	case 4:
		return slices.Concat([]byte{4}, laid(m[0]), who(m[2]), who(m[3]), laid(m[1])), within(m[0], 0, 63), 0
	case 5, 6:
		return slices.Concat([]byte{byte(kind)}, laid(m[0])), within(m[0], 1, 1<<40), 0
	case 7, 8, 9:
		return slices.Concat([]byte{byte(kind)}, laid(m[0])), within(m[0], 0, 63), 0
	case 10:
		code, _ := hextext.DecodeString(m[0])
		return slices.Concat([]byte{10}, laid(fmt.Sprint(len(code))), code), len(code) <= 1024, 0
	}
	args := strings.Fields(m[4])
	b = slices.Concat([]byte{11}, laid(m[1]), laid(m[2]), laid(m[0]), laid(m[3]), laid(fmt.Sprint(len(args))))
	for _, a := range args {
		b = append(b, laid(a)...)
	}
	return b, within(m[1], 0, 63) && within(m[0], 1, 1<<40) && within(m[3], 1, 10000) && len(args) <= 8, bigText(m[3]).Int64()
}

// sentBytes are what is sent for a letter; nil, if a text is none.
func sentBytes(text string) []byte {
	rest, several := strings.CutPrefix(text, "many ")
	if !several {
		b, may, _ := partBytes(text)
		if b != nil && !may {
			return []byte{0}
		}
		return b
	}
	parts := strings.Split(rest, " ; ")
	whole, all, gas := append([]byte{12}, laid(fmt.Sprint(len(parts)))...), len(parts) <= 8, int64(0)
	for _, part := range parts {
		b, may, g := partBytes(part)
		if b == nil {
			return nil
		}
		all, gas = all && may, gas+min(g, 10001)
		whole = slices.Concat(whole, laid(fmt.Sprint(len(b))), b)
	}
	if !all || gas > 10000 || len(whole) > 4096 {
		return []byte{0}
	}
	return whole
}

// Scripts.

// saidLine is a line that says something, its words with one blank between each two.
type saidLine struct {
	number int
	text   string
}

var blanks = regexp.MustCompile(`[ \t]+`)

func saidLines(script string) []saidLine {
	var l []saidLine
	for i, text := range strings.Split(script, "\n") {
		if at := strings.IndexByte(text, '#'); at >= 0 {
			text = text[:at]
		}
		if text = strings.Trim(blanks.ReplaceAllString(text, " "), " "); text != "" {
			l = append(l, saidLine{i + 1, text})
		}
	}
	return l
}

// reckoned is what Run has to answer.
func reckoned(script string) (string, int, int) {
	lines := saidLines(script)
	if len(script) > 65536 || len(lines) > 2000 {
		return "", 0, 240
	}
	if line := wrongLine(lines, strings.Count(script, "\n")+1); line != 0 {
		return "", line, 241
	}
	m := firstRule.match(lines[0].text)
	r := &reckoning{config: api.Config{Owner: addressOf(m[1]), Admin: addressOf(m[2]), Window: numberOf(m[3]), Turn: numberOf(m[4]), Bond: wideOf(bigText(m[5]))}}
	if !within(m[3], 1, 1<<40) || !within(m[4], 1, 1<<40) || bigText(m[5]).BitLen() > 192 {
		return "", lines[0].number, 241
	}
	for _, l := range lines[1:] {
		r.line(l)
	}
	return r.out.String(), 0, 0
}

// wrongLine is the number of the first line that is none, or that which tells how the script ends; 0, if all is well.
func wrongLine(lines []saidLine, end int) int {
	inside := false
	for i, l := range lines {
		op, _ := find(opRules, l.text)
		rest, _ := find(restRules, l.text)
		switch {
		case i == 0:
			if firstRule.match(l.text) == nil {
				return l.number
			}
		case l.text == "begin" && !inside, l.text == "end" && inside:
			inside = !inside
		case op == "" && (rest == "" || inside):
			return l.number
		}
	}
	if len(lines) == 0 || inside {
		return end
	}
	return 0
}

// The play.

// wanted is an operation of a line, or why there is none.
type wanted struct {
	line saidLine
	word string
	op   api.Op
	why  api.Errno
}

type reckoning struct {
	config   api.Config
	blocks   []api.Block
	lose     int // how many can be lost
	followed *inbox.Box
	time     int
	inside   bool
	block    []wanted
	out      strings.Builder
	made     *contract.Contract // of the blocks; nil, if there are others by now
	executed *node.Node         // of what was followed; likewise
}

func (r *reckoning) say(l saidLine, format string, a ...any) {
	fmt.Fprintf(&r.out, "%d "+format+"\n", append([]any{l.number}, a...)...)
}

func (r *reckoning) contract() *contract.Contract {
	if r.made == nil {
		r.made, _ = contract.New(r.config)
		for _, b := range r.blocks {
			for _, o := range b.Ops {
				r.made.Do(b.Time, o)
			}
		}
	}
	return r.made
}

func (r *reckoning) node() *node.Node {
	if r.executed == nil {
		r.executed = node.New(r.config.Admin)
		if r.followed != nil {
			r.executed.Follow(r.followed, 1)
		}
	}
	return r.executed
}

// extend makes a block: what came of its operations, or why it is refused.
func (r *reckoning) extend(ops []api.Op) ([]api.Result, int) {
	head := 0
	if n := len(r.blocks); n > 0 {
		head = r.blocks[n-1].Time
	}
	if len(ops) > 256 {
		return nil, 190
	}
	if r.time < head {
		return nil, 191
	}
	c := r.contract().Copy()
	var l []api.Result
	for _, o := range ops {
		l = append(l, c.Do(r.time, o))
	}
	r.blocks, r.lose, r.made = append(r.blocks, api.Block{Time: r.time, Ops: ops}), min(r.lose+1, 8), c
	return l, 0
}

// done tells a line of what came of an operation, and those of its payments.
func (r *reckoning) done(ahead, under, word string, code int, x api.Result) {
	if code == 0 {
		code = int(x.Code)
	}
	if code != 0 {
		fmt.Fprintf(&r.out, "%s%s refused %d\n", ahead, word, code)
		return
	}
	fmt.Fprintf(&r.out, "%s%s ok", ahead, word)
	if word == "deposit" || word == "send" || word == "post" {
		fmt.Fprintf(&r.out, " %d", x.Number)
	}
	fmt.Fprintln(&r.out)
	for _, p := range x.Pays {
		fmt.Fprintf(&r.out, "%spay %s %d %s %s %d\n", under, []string{1: "leaf", 2: "bond", 3: "reward"}[p.Why], p.Token, textOf(p.Amount), whoOf(p.To), p.Index)
	}
}

func (r *reckoning) line(l saidLine) {
	if form, m := find(opRules, l.text); form != "" {
		r.operation(l, form, m)
		return
	}
	form, m := find(restRules, l.text)
	switch word := strings.Fields(l.text)[0]; {
	case l.text == "begin":
		r.inside = true
	case l.text == "end":
		r.endBlock(true)
	case form == "time N":
		r.time = numberOf(m[0])
	case form == "WHO assert", form == "WHO watch N", form == "WHO defend":
		r.guard(l, form, m)
	default:
		r.tells(l, word, m)
	}
}

func (r *reckoning) operation(l saidLine, form string, m []string) {
	word := strings.Fields(form)[1]
	op, why := r.op(word, m)
	r.block = append(r.block, wanted{l, word, op, why})
	if !r.inside {
		r.endBlock(why == 0)
	}
}

// endBlock tells of all operations that wait; with make a block is made of those that there are.
func (r *reckoning) endBlock(make bool) {
	var ops []api.Op
	for _, w := range r.block {
		if w.why == 0 {
			ops = append(ops, w.op)
		}
	}
	var results []api.Result
	code := 0
	if make {
		results, code = r.extend(ops)
	}
	for _, w := range r.block {
		why, x := int(w.why), api.Result{}
		if why == 0 {
			if why = code; code == 0 {
				x, results = results[0], results[1:]
			}
		}
		r.done(fmt.Sprintf("%d ", w.line.number), "  ", w.word, why, x)
	}
	r.inside, r.block = false, nil
}

// op is the operation of a line: its word, and what stands at its places.
func (r *reckoning) op(word string, m []string) (api.Op, api.Errno) {
	o := api.Op{By: addressOf(m[0])}
	o.Kind = map[string]int{"list": 1, "stop": 2, "open": 2, "deposit": 3, "send": 4, "post": 5, "confirm": 6, "challenge": 7, "duel": 8, "split": 9, "pick": 10, "prove": 11, "expire": 12, "claim": 13}[word]
	switch word {
	case "list", "open":
		o.Token = numberOf(m[1])
	case "stop":
		o.Token, o.Index = numberOf(m[1]), 1
	case "deposit":
		o.Token, o.Amount, o.To, o.Gas = numberOf(m[1]), wideOf(bigText(m[2])), addressOf(m[3]), numberOf(m[4])
	case "send":
		o.Body = sentBytes(m[1])
	case "post":
		return r.commit(o, numberOf(m[1]), m[2])
	case "challenge":
		return r.challenge(o, numberOf(m[1]))
	case "duel":
		o.Number = numberOf(m[1])
	case "pick":
		o.Number, o.Index = numberOf(m[1]), map[string]int{"lower": 0, "upper": 1}[m[2]]
	case "split", "prove":
		return r.move(o, numberOf(m[1]), m)
	case "expire":
		o.Number, o.To = numberOf(m[1]), addressOf(m[2])
	case "claim":
		return courier.Claim(r.node(), r.contract(), o.By, numberOf(m[1]))
	}
	return o, 0
}

func (r *reckoning) commit(o api.Op, count int, truth string) (api.Op, api.Errno) {
	c, e := r.node().Commit(count)
	if e != 0 {
		return o, 200
	}
	if truth == "false" {
		c.State[0] ^= 1
	}
	o.Body = slices.Concat([]byte{65}, laid(fmt.Sprint(c.Count)), c.State[:], c.Outbox[:], laid(fmt.Sprint(c.Leaves)))
	return o, 0
}

func (r *reckoning) witness(o api.Op, from, to int) (api.Op, api.Errno) {
	w, e := r.node().Witness(from, to)
	if e == 0 {
		o.Body, e = witness.Bytes(w)
	}
	return o, e
}

func (r *reckoning) challenge(o api.Op, number int) (api.Op, api.Errno) {
	pending := r.contract().Pending()
	i := slices.IndexFunc(pending, func(p api.Pending) bool { return p.Number == number })
	if i < 0 {
		return o, 164
	}
	o.Number = number
	if i == 0 {
		return r.witness(o, r.contract().Confirmed().Count, pending[0].Commit.Count)
	}
	return r.witness(o, pending[i-1].Commit.Count, pending[i].Commit.Count)
}

func (r *reckoning) move(o api.Op, number int, m []string) (api.Op, api.Errno) {
	o.Number = number
	challenger := o.By
	if o.Kind == 9 {
		o.To = addressOf(m[2])
		challenger = o.To
	}
	duels := r.contract().Duels()
	i := slices.IndexFunc(duels, func(d api.Duel) bool { return d.Number == number && d.Challenger == challenger })
	if i < 0 {
		return o, 186
	}
	low, high := duels[i].Low.Count, duels[i].High.Count
	if o.Kind == 9 {
		return r.commit(o, low+(high-low)/2, m[3])
	}
	return r.witness(o, low, high)
}

func (r *reckoning) guard(l saidLine, form string, m []string) {
	word, by := strings.Fields(form)[1], addressOf(m[0])
	var ops []api.Op
	var e api.Errno
	switch word {
	case "assert":
		var body []byte
		body, e = guard.Assert(r.node(), r.contract())
		ops = []api.Op{{Kind: 5, By: by, Body: body}}
	case "watch":
		ops, e = guard.Watch(r.node(), r.contract(), by, r.time, numberOf(m[1]))
	case "defend":
		ops, e = guard.Defend(r.node(), r.contract(), by, r.time)
	}
	ops = ops[:min(len(ops), 256)]
	var results []api.Result
	code := int(e)
	if code == 0 && len(ops) > 0 {
		results, code = r.extend(ops)
	}
	if code != 0 {
		r.say(l, "%s refused %d", word, code)
		return
	}
	r.say(l, "%s ok %d", word, len(ops))
	for i, x := range results {
		r.done("  ", "    ", []string{5: "post", 7: "challenge", 8: "duel", 9: "split", 10: "pick", 11: "prove", 12: "expire"}[ops[i].Kind], 0, x)
	}
}

// tells does a line that is neither an operation nor the guard's.
func (r *reckoning) tells(l saidLine, word string, m []string) {
	refused := func(e api.Errno) bool {
		if e != 0 {
			r.say(l, "%s refused %d", word, e)
		}
		return e != 0
	}
	c, n := r.contract(), r.node()
	switch word {
	case "follow":
		r.follow(l, m[0])
	case "cut":
		r.cut(l, m[0])
	case "look":
		if stage, e := courier.Stage(n, c, numberOf(m[0])); !refused(e) {
			r.say(l, "look %s", []string{"unknown", "burned", "asserted", "confirmed", "paid"}[stage])
		}
	case "held":
		r.say(l, "held %s", textOf(c.Held(numberOf(m[0]))))
	case "supply":
		t, _ := n.Token(numberOf(m[0]))
		r.say(l, "supply %s", textOf(t.Supply))
	case "balance":
		if w, e := n.Balance(numberOf(m[0]), addressOf(m[1])); !refused(e) {
			r.say(l, "balance %s", textOf(w))
		}
	case "ticket":
		if t, e := n.Ticket(numberOf(m[0])); !refused(e) {
			r.say(l, "ticket %d %s %s %s %d", t.Token, textOf(t.Amount), whoOf(t.Sender), whoOf(t.To), t.Entry)
		}
	case "receipt":
		if x, e := n.Receipt(numberOf(m[0])); !refused(e) {
			r.say(l, "receipt %d %d %d %s %d %d %d", int(x.Code), x.Part, x.Number, textOf(x.Value), x.Gas, x.First, x.Leaves)
		}
	case "count":
		r.say(l, "count %d", n.Count())
	case "top", "confirmed":
		x := c.Confirmed()
		if p := c.Pending(); word == "top" && len(p) > 0 {
			x = p[len(p)-1].Commit
		}
		r.say(l, "%s %d %d %x %x", word, x.Count, x.Leaves, x.State[:8], x.Outbox[:8])
	case "pending":
		r.say(l, "pending %d", len(c.Pending()))
		for _, p := range c.Pending() {
			fmt.Fprintf(&r.out, "  %d %d %s %d %d %d\n", p.Number, p.Commit.Count, whoOf(p.Poster), p.Posted, p.Deadline, p.Duels)
		}
	case "duels":
		r.say(l, "duels %d", len(c.Duels()))
		for _, d := range c.Duels() {
			fmt.Fprintf(&r.out, "  %d %s %s %s %d %d %d %d\n", d.Number, whoOf(d.Challenger), whoOf(d.Defender), []string{1: "split", 2: "pick", 3: "prove"}[d.State], d.Low.Count, d.High.Count, d.Until, d.Rounds)
		}
	}
}

func (r *reckoning) follow(l saidLine, workers string) {
	if !within(workers, 1, 16) {
		r.say(l, "follow refused 1")
		return
	}
	box := r.contract().Inbox()
	back := r.node().Count() - r.node().Fork(box)
	r.followed, r.executed = box, nil
	r.say(l, "follow ok %d %d", back, box.Len())
}

func (r *reckoning) cut(l saidLine, blocks string) {
	if !within(blocks, 0, int64(r.lose)) {
		r.say(l, "cut refused 192")
		return
	}
	n := numberOf(blocks)
	r.blocks, r.lose, r.made = r.blocks[:len(r.blocks)-n], r.lose-n, nil
	r.say(l, "cut ok %d", len(r.blocks))
}

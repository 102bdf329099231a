package witness

import (
	"crypto/sha256"
	"maps"
	"math/big"
	"slices"
	"strings"

	"causeway/api"
	"causeway/exec"
	"causeway/sparse"
	"causeway/store"
)

// The second reckoning: a table is a map of texts; its root and its proofs are made by chapter 5's words over lists of digests, an outbox's root from the digests that stand there, bytes by chapter 3's words. Errors and limits are written out, not taken from api. Entries are applied by exec, and proofs are opened by sparse: both are tried where they are built.

func sha(text string) string {
	d := sha256.Sum256([]byte(text))
	return string(d[:])
}

func digestIn(text string) api.Digest { return api.Digest([]byte(text)) }

func zeros(n int) string { return strings.Repeat("\x00", n) }

// eightOf is a number in 8 bytes, the highest first.
func eightOf(n int) string { return string(big.NewInt(int64(n)).FillBytes(make([]byte, 8))) }

// numberIn is the number that bytes are.
func numberIn(text string) *big.Int { return new(big.Int).SetBytes([]byte(text)) }

// full is the most that is counted.
const full = 1 << 40

// countIn reads a number that counts something, of 8 bytes, and tells whether it is of its form.
func countIn(text string) (int, bool) {
	n := numberIn(text)
	if len(text) != 8 || n.Sign() == 0 || n.Cmp(big.NewInt(full)) > 0 {
		return 0, text == ""
	}
	return int(n.Int64()), true
}

// boxIn reads an outbox: its root and how many leaves there are, and whether it is of its form.
func boxIn(text string) (api.Digest, int, bool) {
	if text == "" {
		return digestIn(sha("")), 0, true
	}
	n, good := countIn(text[:min(8, len(text))])
	ones := strings.Count(big.NewInt(int64(n)).Text(2), "1")
	if !good || len(text) != 8+32*ones {
		return api.Digest{}, 0, false
	}
	front := slices.Collect(slices.Chunk([]byte(text[8:]), 32))
	root := string(front[len(front)-1])
	for i := len(front) - 2; i >= 0; i-- {
		root = sha("\x01" + string(front[i]) + root)
	}
	return digestIn(root), n, true
}

// hung are the digests of values by those of their keys.
func hung(has map[string]string) map[string]string {
	m := map[string]string{}
	for _, key := range slices.Sorted(maps.Keys(has)) {
		if has[key] != "" {
			m[sha(key)] = sha(has[key])
		}
	}
	return m
}

// halves cuts rising digests of which the first bits are alike.
func halves(keys []string, bits int) ([]string, []string) {
	at, _ := slices.BinarySearchFunc(keys, 1, func(key string, one int) int { return int(key[bits/8]>>(7-bits%8)&1) - one })
	return keys[:at], keys[at:]
}

// overPart is the digest over a part by its keys.
func overPart(m map[string]string, keys []string, bits int) string {
	switch len(keys) {
	case 0:
		return zeros(32)
	case 1:
		return sha("\x02" + keys[0] + m[keys[0]])
	}
	left, right := halves(keys, bits)
	return sha("\x03" + overPart(m, left, bits+1) + overPart(m, right, bits+1))
}

func rootOf(has map[string]string) api.Digest {
	m := hung(has)
	return digestIn(overPart(m, slices.Sorted(maps.Keys(m)), 0))
}

// proofSaid is a proof that is told part by part.
type proofSaid struct {
	m     map[string]string
	marks string // a digit each
	sides []api.Digest
}

func (p *proofSaid) mark(digit string, beside ...string) {
	p.marks += digit
	for _, text := range beside {
		p.sides = append(p.sides, digestIn(text))
	}
}

func (p *proofSaid) tell(keys, asked []string, bits int) {
	switch {
	case len(keys) == 0:
		p.mark("0")
	case len(keys) == 1 && slices.Contains(asked, keys[0]):
		p.mark("1")
	case len(keys) == 1:
		p.mark("2", keys[0], p.m[keys[0]])
	default:
		left, right := halves(keys, bits)
		if len(asked) == 0 {
			p.mark("3", overPart(p.m, left, bits+1), overPart(p.m, right, bits+1))
			return
		}
		askedLeft, askedRight := halves(asked, bits)
		p.mark("3")
		p.tell(left, askedLeft, bits+1)
		p.tell(right, askedRight, bits+1)
	}
}

// proofOf is the proof of some keys, which may be in any order.
func proofOf(has map[string]string, keys ...string) api.Proof {
	asked := map[string]string{}
	for _, key := range keys {
		asked[sha(key)] = key
	}
	p := &proofSaid{m: hung(has)}
	p.tell(slices.Sorted(maps.Keys(p.m)), slices.Sorted(maps.Keys(asked)), 0)
	for len(p.marks)%4 != 0 {
		p.marks += "0"
	}
	proof := api.Proof{Sides: p.sides}
	for four := range slices.Chunk([]byte(p.marks), 4) {
		n, _ := new(big.Int).SetString(string(four), 4)
		proof.Marks = append(proof.Marks, byte(n.Int64()))
	}
	return proof
}

// witnessOf is the witness that tells some keys, whoever touches them.
func witnessOf(has map[string]string, keys ...string) api.Witness {
	w := api.Witness{Proof: proofOf(has, keys...)}
	for _, key := range slices.Compact(slices.Sorted(slices.Values(keys))) {
		w.Pairs = append(w.Pairs, api.Pair{Key: key, Value: []byte(has[key])})
	}
	return w
}

// commitOf is what is committed of a table.
func commitOf(has map[string]string) (api.Commit, api.Errno) {
	count, good := countIn(has["ne"])
	root, leaves, well := boxIn(has["o"])
	if !good || !well {
		return api.Commit{}, 75
	}
	return api.Commit{Count: count, State: rootOf(has), Outbox: root, Leaves: leaves}, 0
}

// shelf is a source by a map; a key that is not in it is refused with an error, if there is one.
type shelf struct {
	has     map[string]string
	missing api.Errno
}

func (x shelf) Find(key string) ([]byte, api.Errno) {
	value, is := x.has[key]
	if !is && x.missing != 0 {
		return nil, x.missing
	}
	return []byte(value), 0
}

// recorded is what Record answers.
type recorded struct {
	witness api.Witness
	commit  api.Commit
	code    api.Errno
}

// recordOf is Record by the words, of a table.
func recordOf(has map[string]string, entries ...api.Entry) recorded {
	if len(entries) < 1 || len(entries) > 32 {
		return recorded{code: 130}
	}
	s, _ := store.Over(shelf{has: has})
	count, good := countIn(has["ne"])
	if !good {
		return recorded{code: 75}
	}
	for i, entry := range entries {
		if _, _, e := exec.Apply(s, count+i, entry); e != 0 {
			return recorded{code: e}
		}
	}
	w := witnessOf(has, s.Touched()...)
	behind := maps.Clone(has)
	for _, c := range s.Changes() {
		behind[c.Key] = string(c.New)
	}
	c, e := commitOf(behind)
	if e != 0 {
		return recorded{code: e}
	}
	return recorded{w, c, 0}
}

// replayed is what Replay answers.
type replayed struct {
	commit api.Commit
	code   api.Errno
}

// pairsMayBe tells whether Pairs may be.
func pairsMayBe(pairs []api.Pair) bool {
	for i, p := range pairs {
		if len(p.Key) < 1 || len(p.Key) > 128 || len(p.Value) > 4096 || i > 0 && pairs[i-1].Key >= p.Key {
			return false
		}
	}
	return true
}

// replayOf is Replay by the words.
func replayOf(before api.Commit, w api.Witness, entries ...api.Entry) replayed {
	if len(entries) < 1 || len(entries) > 32 {
		return replayed{code: 130}
	}
	if !pairsMayBe(w.Pairs) {
		return replayed{code: 131}
	}
	has, byDigest := map[string]string{}, map[string]string{}
	for _, p := range w.Pairs {
		has[p.Key] = string(p.Value)
		byDigest[sha(p.Key)] = string(p.Value)
	}
	if len(byDigest) != len(w.Pairs) {
		return replayed{code: 131}
	}
	part, e := sparse.Open(before.State, w.Proof, boundsSaid(byDigest)...)
	if e != 0 {
		return replayed{code: 132}
	}
	s, _ := store.Over(shelf{has: has, missing: 74})
	for i, entry := range entries {
		switch _, _, e := exec.Apply(s, before.Count+i, entry); e {
		case 0:
		case 74:
			return replayed{code: 133}
		default:
			return replayed{code: 134}
		}
	}
	d := api.Commit{Count: before.Count + len(entries), Outbox: before.Outbox, Leaves: before.Leaves}
	for _, c := range s.Changes() {
		part.Put(digestIn(sha(c.Key)), overText(string(c.New)))
	}
	d.State = part.Root()
	if slices.Contains(s.Touched(), "o") {
		box, _ := s.Get("o")
		d.Outbox, d.Leaves, _ = boxIn(string(box))
	}
	return replayed{commit: d}
}

// overText is the digest of a value, noughts for none.
func overText(value string) api.Digest {
	if value == "" {
		return api.Digest{}
	}
	return digestIn(sha(value))
}

func boundsSaid(byDigest map[string]string) []api.Bound {
	var known []api.Bound
	for _, key := range slices.Sorted(maps.Keys(byDigest)) {
		known = append(known, api.Bound{Key: digestIn(key), Value: overText(byDigest[key])})
	}
	return known
}

// inForm is a number by chapter 3, textInForm bytes.
func inForm(n int) string {
	b := big.NewInt(int64(n)).Bytes()
	return string([]byte{byte(len(b))}) + string(b)
}

func textInForm(text string) string { return inForm(len(text)) + text }

// inBytes is a witness's bytes.
func inBytes(w api.Witness) string {
	var s strings.Builder
	s.WriteString("W" + inForm(len(w.Pairs)))
	for _, p := range w.Pairs {
		s.WriteString(textInForm(p.Key) + textInForm(string(p.Value)))
	}
	s.WriteString(textInForm(string(w.Proof.Marks)) + inForm(len(w.Proof.Sides)))
	for _, d := range w.Proof.Sides {
		s.Write(d[:])
	}
	return s.String()
}

// taker takes what stands in bytes by chapter 3's words; once something is not there, or not in its form, it is bad.
type taker struct {
	left string
	bad  bool
}

func (x *taker) cut(n int) string {
	if x.bad || n > len(x.left) {
		x.bad = true
		return ""
	}
	text := x.left[:n]
	x.left = x.left[n:]
	return text
}

func (x *taker) number() int {
	size := x.cut(1)
	if x.bad || size[0] > 8 {
		x.bad = true
		return 0
	}
	n := numberIn(x.cut(int(size[0])))
	if len(n.Bytes()) != int(size[0]) || !n.IsInt64() {
		x.bad = true
		return 0
	}
	return int(n.Int64())
}

func (x *taker) text() string { return x.cut(x.number()) }

// readOf is Read by the words, and whether the bytes are a witness's.
func readOf(b []byte) (api.Witness, bool) {
	x := &taker{left: string(b)}
	first := x.cut(1)
	var w api.Witness
	for n := x.number(); n > 0 && !x.bad; n-- {
		key := x.text()
		w.Pairs = append(w.Pairs, api.Pair{Key: key, Value: []byte(x.text())})
	}
	w.Proof.Marks = []byte(x.text())
	for n := x.number(); n > 0 && !x.bad; n-- {
		if text := x.cut(32); !x.bad {
			w.Proof.Sides = append(w.Proof.Sides, digestIn(text))
		}
	}
	if x.bad || x.left != "" || first != "W" || len(b) > 1<<22 || !pairsMayBe(w.Pairs) {
		return api.Witness{}, false
	}
	return w, true
}

package bridge

import (
	"bytes"
	"fmt"
	"math/big"
	"reflect"
	"slices"
	"strings"

	"causeway/api"
	"causeway/contract"
	"causeway/courier"
	"causeway/guard"
	"causeway/inbox"
	"causeway/node"
)

// The second reckoning: by the words of the chapters. Errors, kinds and limits are written out, not taken from api.

// Bytes.

// opUses are the fields that a kind of operation uses, in their order: T Token, t To, A Amount, G Gas, N Number, I Index, B Body, P Path.
func opUses(kind int) (string, bool) {
	l := []string{"", "T", "TI", "TtAG", "B", "B", "", "NB", "N", "tNB", "NI", "NB", "tN", "BP"}
	if kind < 1 || kind > 13 {
		return "", false
	}
	return l[kind], true
}

// orderUses are those of a kind of order: Z Time, C Count, I Index, W Workers, Y By, O Ops.
func orderUses(kind int) (string, bool) {
	l := []string{"", "ZO", "C", "W", "ZY", "ZWY", "ZY", "ZIY", "I"}
	if kind < 1 || kind > 8 {
		return "", false
	}
	return l[kind], true
}

// short is a number as bytes: how many, then they, the highest first.
func short(n *big.Int) []byte { return append([]byte{byte(len(n.Bytes()))}, n.Bytes()...) }

func num(n int) []byte { return short(big.NewInt(int64(n))) }

func bigOf(w api.Wide) *big.Int {
	n := new(big.Int)
	for i := 3; i >= 0; i-- {
		n.Add(n.Lsh(n, 64), new(big.Int).SetUint64(w[i]))
	}
	return n
}

func wideOf(n *big.Int) api.Wide {
	var w api.Wide
	for i := range w {
		w[i] = new(big.Int).And(new(big.Int).Rsh(n, uint(64*i)), new(big.Int).SetUint64(1<<64-1)).Uint64()
	}
	return w
}

func headerBytes(c api.Config) []byte {
	return slices.Concat([]byte{67}, c.Owner[:], c.Admin[:], num(c.Window), num(c.Turn), short(bigOf(c.Bond)))
}

// field tells of a field of an operation whether it is zero, whether it may be where it is used, and its bytes.
func opField(o api.Op, f rune) (zero, may bool, form func() []byte) {
	number := func(n int) (bool, bool, func() []byte) {
		return n == 0, n >= 0, func() []byte { return num(n) }
	}
	switch f {
	case 'T':
		return number(o.Token)
	case 'G':
		return number(o.Gas)
	case 'N':
		return number(o.Number)
	case 'I':
		return number(o.Index)
	case 't':
		return o.To == api.Address{}, true, func() []byte { return o.To[:] }
	case 'A':
		return o.Amount == api.Wide{}, true, func() []byte { return short(bigOf(o.Amount)) }
	case 'B':
		return len(o.Body) == 0, len(o.Body) <= 4194304, func() []byte { return slices.Concat(num(len(o.Body)), o.Body) }
	}
	return len(o.Path) == 0, len(o.Path) <= 64, func() []byte {
		b := num(len(o.Path))
		for _, d := range o.Path {
			b = append(b, d[:]...)
		}
		return b
	}
}

func opMayBe(o api.Op) bool {
	uses, is := opUses(o.Kind)
	if !is {
		return false
	}
	for _, f := range "TtAGNIBP" {
		zero, may, _ := opField(o, f)
		if used := strings.ContainsRune(uses, f); used && !may || !used && !zero {
			return false
		}
	}
	return true
}

func opBytes(o api.Op) []byte {
	b := append([]byte{byte(o.Kind)}, o.By[:]...)
	uses, _ := opUses(o.Kind)
	for _, f := range uses {
		_, _, form := opField(o, f)
		b = append(b, form()...)
	}
	return b
}

func orderMayBe(o api.Order) bool {
	uses, is := orderUses(o.Kind)
	if !is {
		return false
	}
	for f, n := range map[string]int{"Z": o.Time, "C": o.Count, "I": o.Index, "W": o.Workers} {
		if used := strings.Contains(uses, f); used && n < 0 || !used && n != 0 {
			return false
		}
	}
	if !strings.Contains(uses, "Y") && o.By != (api.Address{}) || !strings.Contains(uses, "O") && len(o.Ops) > 0 || len(o.Ops) > 256 {
		return false
	}
	for _, op := range o.Ops {
		if !opMayBe(op) {
			return false
		}
	}
	return true
}

// orderBytes are the bytes of what may be an order, however many.
func orderBytes(o api.Order) []byte {
	b := []byte{byte(o.Kind)}
	uses, _ := orderUses(o.Kind)
	for _, f := range uses {
		switch f {
		case 'Z':
			b = append(b, num(o.Time)...)
		case 'C':
			b = append(b, num(o.Count)...)
		case 'I':
			b = append(b, num(o.Index)...)
		case 'W':
			b = append(b, num(o.Workers)...)
		case 'Y':
			b = append(b, o.By[:]...)
		case 'O':
			b = append(b, num(len(o.Ops))...)
			for _, op := range o.Ops {
				b = append(b, opBytes(op)...)
			}
		}
	}
	return b
}

// wordsBytes is what Bytes answers.
func wordsBytes(o api.Order) ([]byte, api.Errno) {
	if !orderMayBe(o) {
		return nil, 231
	}
	b := orderBytes(o)
	if len(b) > 4194304 {
		return nil, 30
	}
	return b, 0
}

// cutter cuts values off bytes.
type cutter struct {
	left []byte
	bad  bool
}

func (c *cutter) next(n int) []byte {
	if c.bad || n < 0 || n > len(c.left) {
		c.bad = true
		return make([]byte, max(0, min(n, 32)))
	}
	b := c.left[:n]
	c.left = c.left[n:]
	return b
}

func (c *cutter) short(most int) *big.Int {
	k := int(c.next(1)[0])
	if k > most {
		c.bad = true
		return new(big.Int)
	}
	b := c.next(k)
	if k > 0 && b[0] == 0 {
		c.bad = true
	}
	return new(big.Int).SetBytes(b)
}

func (c *cutter) number() int {
	n := c.short(8)
	if !n.IsInt64() {
		c.bad = true
		return 0
	}
	return int(n.Int64())
}

func (c *cutter) address() (a api.Address) {
	copy(a[:], c.next(20))
	return a
}

// many is a number of things, which is not above the greatest one, nor above the bytes that are left.
func (c *cutter) many(most int) int {
	n := c.number()
	if n > most || n > len(c.left) {
		c.bad = true
		return 0
	}
	return n
}

func (c *cutter) op() api.Op {
	o := api.Op{Kind: int(c.next(1)[0])}
	o.By = c.address()
	uses, is := opUses(o.Kind)
	c.bad = c.bad || !is
	for _, f := range uses {
		switch f {
		case 'T':
			o.Token = c.number()
		case 't':
			o.To = c.address()
		case 'A':
			o.Amount = wideOf(c.short(32))
		case 'G':
			o.Gas = c.number()
		case 'N':
			o.Number = c.number()
		case 'I':
			o.Index = c.number()
		case 'B':
			o.Body = bytes.Clone(c.next(c.many(4194304)))
		case 'P':
			for n := c.many(64); n > 0; n-- {
				o.Path = append(o.Path, api.Digest(c.next(32)))
			}
		}
	}
	return o
}

// readWords is what Read answers; false: no order.
func readWords(b []byte) (api.Order, bool) {
	if len(b) > 4194304 {
		return api.Order{}, false
	}
	c := &cutter{left: b}
	o := api.Order{Kind: int(c.next(1)[0])}
	uses, is := orderUses(o.Kind)
	for _, f := range uses {
		switch f {
		case 'Z':
			o.Time = c.number()
		case 'C':
			o.Count = c.number()
		case 'I':
			o.Index = c.number()
		case 'W':
			o.Workers = c.number()
		case 'Y':
			o.By = c.address()
		case 'O':
			for n := c.many(256); n > 0 && !c.bad; n-- {
				o.Ops = append(o.Ops, c.op())
			}
		}
	}
	if !is || c.bad || len(c.left) > 0 {
		return api.Order{}, false
	}
	return o, true
}

// readHeaderWords is the config of which these bytes are the header; false: none that may be.
func readHeaderWords(b []byte) (api.Config, bool) {
	c := &cutter{left: b}
	mark := c.next(1)[0]
	x := api.Config{Owner: c.address(), Admin: c.address(), Window: c.number(), Turn: c.number(), Bond: wideOf(c.short(32))}
	if c.bad || len(c.left) > 0 || mark != 67 || !configMayBe(x) {
		return api.Config{}, false
	}
	return x, true
}

func configMayBe(c api.Config) bool {
	return c.Window >= 1 && c.Window <= full && c.Turn >= 1 && c.Turn <= full && c.Bond[3] == 0
}

// Orders.

// said is by the words what a bridge is: its config, the blocks that are left, how many can be lost, and the entries that the node has executed. The contract is given the blocks' operations anew wherever blocks are lost; the node executes its entries anew wherever they change.
type said struct {
	config   api.Config
	blocks   []api.Block
	lose     int
	contract *contract.Contract
	entries  []api.Entry
	node     *node.Node
}

func newSaid(config api.Config) *said {
	return &said{config: config, contract: sure(contract.New(config)), node: node.New(config.Admin)}
}

func (s *said) time() int {
	if len(s.blocks) == 0 {
		return 0
	}
	return s.blocks[len(s.blocks)-1].Time
}

func (s *said) do(order []byte) api.Answer {
	o, ok := readWords(order)
	if !ok {
		return api.Answer{Code: 231}
	}
	switch o.Kind {
	case 1:
		results, e := s.extend(o.Time, o.Ops)
		return api.Answer{Code: e, Results: results}
	case 2:
		return api.Answer{Code: s.cut(o.Count)}
	case 3:
		back, e := s.follow(o.Workers)
		return api.Answer{Code: e, Back: back}
	case 4:
		body, e := guard.Assert(s.node, s.contract)
		return s.made(o.Time, e, api.Op{Kind: 5, By: o.By, Body: body})
	case 5:
		ops, e := guard.Watch(s.node, s.contract, o.By, o.Time, o.Workers)
		return s.made(o.Time, e, ops...)
	case 6:
		ops, e := guard.Defend(s.node, s.contract, o.By, o.Time)
		return s.made(o.Time, e, ops...)
	case 7:
		op, e := courier.Claim(s.node, s.contract, o.By, o.Index)
		return s.made(o.Time, e, op)
	}
	stage, e := courier.Stage(s.node, s.contract, o.Index)
	return api.Answer{Code: e, Stage: stage}
}

// made is what comes of operations that an order made, if it was not refused.
func (s *said) made(time int, e api.Errno, ops ...api.Op) api.Answer {
	if e != 0 {
		return api.Answer{Code: e}
	}
	if len(ops) == 0 {
		return api.Answer{}
	}
	if len(ops) > 256 {
		ops = ops[:256]
	}
	results, e := s.extend(time, ops)
	if e != 0 {
		return api.Answer{Code: e}
	}
	return api.Answer{Results: results, Ops: ops}
}

func (s *said) extend(time int, ops []api.Op) ([]api.Result, api.Errno) {
	if time < s.time() || time > 4611686018427387904 {
		return nil, 191
	}
	s.blocks = append(slices.Clone(s.blocks), api.Block{Time: time, Ops: keptOps(ops)})
	s.lose = min(s.lose+1, 8)
	return s.run(s.blocks[len(s.blocks)-1]), 0
}

func (s *said) run(b api.Block) []api.Result {
	var l []api.Result
	for _, o := range b.Ops {
		l = append(l, s.contract.Do(b.Time, o))
	}
	return l
}

func (s *said) cut(n int) api.Errno {
	if n > s.lose {
		return 192
	}
	s.blocks, s.lose = s.blocks[:len(s.blocks)-n], s.lose-n
	s.contract = sure(contract.New(s.config))
	for _, b := range s.blocks {
		s.run(b)
	}
	return 0
}

func (s *said) follow(workers int) (int, api.Errno) {
	if workers < 1 || workers > 16 {
		return 0, 1
	}
	b := s.contract.Inbox()
	l := sure(b.Entries(0, b.Len()))
	k := common(s.entries, l)
	back := len(s.entries) - k
	if back > 0 || k < len(l) {
		s.entries, s.node = l, node.New(s.config.Admin)
		if _, e := s.node.Follow(boxOf(l), 1); e != 0 {
			panic(e)
		}
	}
	return back, 0
}

func boxOf(l []api.Entry) *inbox.Box {
	b := inbox.New()
	for _, e := range l {
		sure(b.Add(e))
	}
	return b
}

// common is how many first entries two rows have in common.
func common(a, b []api.Entry) int {
	k := 0
	for k < len(a) && k < len(b) && alike(a[k], b[k]) {
		k++
	}
	return k
}

func alike(a, b api.Entry) bool {
	same := bytes.Equal(a.Body, b.Body)
	a.Body, b.Body = nil, nil
	return same && reflect.DeepEqual(a, b)
}

// held is what was deposited less what was paid, as the contract's operations say that are given anew.
func (s *said) held(token int) api.Wide { return s.contract.Held(token) }

func (s *said) supply(token int) api.Wide {
	t, e := s.node.Token(token)
	if e != 0 {
		return api.Wide{}
	}
	return t.Supply
}

// tellParts is all that a contract, a node and blocks tell, as a text, in which nil and empty are one.
func tellParts(c *contract.Contract, n *node.Node, blocks []api.Block) string {
	box := c.Inbox()
	l := []any{c.Config(), c.Now(), c.Locked(), c.Confirmed(), c.Top(), c.Pending(), c.Duels(), sure(box.Entries(0, box.Len())), sure(box.Link(box.Len())), blocks}
	for i := range 64 {
		there, stopped := c.Listed(i)
		l = append(l, there, stopped, c.Held(i), c.Paid(i))
	}
	for i := range n.Count() + 1 {
		r, e := n.Receipt(i)
		x, f := n.Ticket(i)
		l = append(l, sure(n.Commit(i)), r, e, x, f)
	}
	for i := range n.Leaves() {
		l = append(l, sure(n.Leaf(i)), sure(n.Path(i, n.Leaves())))
	}
	for i := range 3 {
		l = append(l, sure(n.Token(i)), sure(n.Balance(i, bob)), sure(n.Balance(i, cyd)))
	}
	return fmt.Sprint(append(l, n.Fork(box))...)
}

func keptOps(l []api.Op) []api.Op {
	l = slices.Clone(l)
	for i, o := range l {
		l[i].Body, l[i].Path = bytes.Clone(o.Body), slices.Clone(o.Path)
	}
	return l
}

func sameOp(a, b api.Op) bool {
	same := bytes.Equal(a.Body, b.Body) && slices.Equal(a.Path, b.Path)
	a.Body, a.Path, b.Body, b.Path = nil, nil, nil, nil
	return same && reflect.DeepEqual(a, b)
}

func sameOrder(a, b api.Order) bool {
	same := slices.EqualFunc(a.Ops, b.Ops, sameOp)
	a.Ops, b.Ops = nil, nil
	return same && reflect.DeepEqual(a, b)
}

func sameResult(a, b api.Result) bool {
	return a.Code == b.Code && a.Number == b.Number && slices.Equal(a.Pays, b.Pays)
}

func sameAnswer(a, b api.Answer) bool {
	return a.Code == b.Code && a.Back == b.Back && a.Stage == b.Stage && slices.EqualFunc(a.Results, b.Results, sameResult) && slices.EqualFunc(a.Ops, b.Ops, sameOp)
}

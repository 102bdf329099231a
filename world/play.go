package world

import (
	"cmp"
	"strings"

	"causeway/api"
	"causeway/chain"
	"causeway/contract"
	"causeway/node"
)

// play is how a bridge stands behind some lines of a script, and what is told of them.
type play struct {
	chain      *chain.Chain
	node       *node.Node
	time       int  // of the blocks that are made
	inside     bool // a block is open
	block      []asked
	transcript strings.Builder
}

// asked is an operation that a line asks for; or why there is none.
type asked struct {
	line line
	op   api.Op
	why  api.Errno
}

func newPlay(c api.Config) (*play, api.Errno) {
	blocks, e := chain.New(c)
	if e != api.OK {
		return nil, e
	}
	return &play{chain: blocks, node: node.New(c.Admin)}, api.OK
}

// shore is a copy of the contract behind all blocks.
func (p *play) shore() *contract.Contract {
	return p.chain.Contract()
}

func (p *play) turnTime(l line) {
	p.time = l.said.number
}

func (p *play) begin(line) {
	p.inside = true
}

func (p *play) end(line) {
	p.settle(p.block)
	p.inside, p.block = false, nil
}

// operate asks for an operation, which waits for its block's end, or is a block by itself. What can not be made is none.
func (p *play) operate(l line, asks asking) {
	op, e := asks(p, l.said)
	a := asked{line: l, op: op, why: e}
	switch {
	case p.inside:
		p.block = append(p.block, a)
	case e != api.OK:
		p.tellAsked(a, api.Result{Code: e})
	default:
		p.settle([]asked{a})
	}
}

// settle makes a block of what was asked for, as far as there are operations, and tells what came of it.
func (p *play) settle(block []asked) {
	results, e := p.extend(made(block))
	for _, a := range block {
		r := api.Result{Code: cmp.Or(a.why, e)}
		if r.Code != api.OK {
			goto told
		}
		r, results = results[0], results[1:]
	told:
		p.tellAsked(a, r)
	}
}

// made are the operations of what was asked for.
func made(block []asked) []api.Op {
	var ops []api.Op
	for _, a := range block {
		if a.why == api.OK {
			ops = append(ops, a.op)
		}
	}
	return ops
}

func (p *play) extend(ops []api.Op) ([]api.Result, api.Errno) {
	return p.chain.Extend(api.Block{Time: p.time, Ops: ops})
}

// tellAsked tells what came of what a line asked for.
func (p *play) tellAsked(a asked, r api.Result) {
	p.tellResult(a.line.ahead(), under, a.line.word, r)
}

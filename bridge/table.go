package bridge

import (
	"slices"

	"causeway/api"
	"causeway/wire"
)

const (
	headerKind = 'C'
	maxPath    = 64 // digests
)

// header is a config, and what stands in its bytes where others have their kind.
type header struct {
	kind   int
	config api.Config
}

func headerForm() form[header] {
	return form[header]{first: headerKind, last: headerKind, kind: func(h *header) *int { return &h.kind }, parts: []part[header]{
		address(func(h *header) *api.Address { return &h.config.Owner }),
		address(func(h *header) *api.Address { return &h.config.Admin }),
		number(func(h *header) *int { return &h.config.Window }),
		number(func(h *header) *int { return &h.config.Turn }),
		amount(func(h *header) *api.Wide { return &h.config.Bond }),
	}}
}

// orderForm tells with each part the kinds of orders that use it.
func orderForm() form[api.Order] {
	return form[api.Order]{first: api.OrderBlock, last: api.OrderLook, kind: func(o *api.Order) *int { return &o.Kind }, parts: []part[api.Order]{
		number(func(o *api.Order) *int { return &o.Time }).of(api.OrderBlock, api.OrderAssert, api.OrderWatch, api.OrderDefend, api.OrderClaim),
		number(func(o *api.Order) *int { return &o.Count }).of(api.OrderCut),
		number(func(o *api.Order) *int { return &o.Index }).of(api.OrderClaim, api.OrderLook),
		number(func(o *api.Order) *int { return &o.Workers }).of(api.OrderFollow, api.OrderWatch),
		address(func(o *api.Order) *api.Address { return &o.By }).of(api.OrderAssert, api.OrderWatch, api.OrderDefend, api.OrderClaim),
		opsPart().of(api.OrderBlock),
	}}
}

// opForm tells with each part the kinds of operations that use it.
func opForm() form[api.Op] {
	return form[api.Op]{first: api.OpList, last: api.OpClaim, kind: func(o *api.Op) *int { return &o.Kind }, parts: []part[api.Op]{
		address(func(o *api.Op) *api.Address { return &o.By }),
		number(func(o *api.Op) *int { return &o.Token }).of(api.OpList, api.OpStop, api.OpDeposit),
		address(func(o *api.Op) *api.Address { return &o.To }).of(api.OpDeposit, api.OpSplit, api.OpExpire),
		amount(func(o *api.Op) *api.Wide { return &o.Amount }).of(api.OpDeposit),
		number(func(o *api.Op) *int { return &o.Gas }).of(api.OpDeposit),
		number(func(o *api.Op) *int { return &o.Number }).of(api.OpChallenge, api.OpDuel, api.OpSplit, api.OpPick, api.OpProve, api.OpExpire),
		number(func(o *api.Op) *int { return &o.Index }).of(api.OpStop, api.OpPick),
		bodyPart().of(api.OpSend, api.OpPost, api.OpChallenge, api.OpSplit, api.OpProve, api.OpClaim),
		pathPart().of(api.OpClaim),
	}}
}

// opsPart is a list of operations, of which every one has to fit. (Whether the contract takes them is not asked.)
func opsPart() part[api.Order] {
	f := opForm()
	return part[api.Order]{
		isZero: func(o *api.Order) bool { return len(o.Ops) == 0 },
		mayBe: func(o *api.Order) bool {
			return len(o.Ops) <= api.MaxOps && !slices.ContainsFunc(o.Ops, func(op api.Op) bool { return !f.fits(&op) })
		},
		lay:  func(w *wire.Writer, o *api.Order) { wire.Lay(w, o.Ops, f.lay) },
		take: func(r *wire.Reader, o *api.Order) error { return takeOps(r, f, o) },
	}
}

// takeOps takes operations up to the first at which the reader gives up: what would come behind it is looked at no more.
func takeOps(r *wire.Reader, f form[api.Op], o *api.Order) error {
	var gave error
	o.Ops = wire.List(r, api.MaxOps, func(r *wire.Reader) api.Op {
		if gave != nil {
			return api.Op{}
		}
		var op api.Op
		op, gave = f.take(r)
		return op
	})
	if gave != nil {
		return gave
	}
	return gaveUpBy(r.Err())
}

func bodyPart() part[api.Op] {
	return part[api.Op]{
		isZero: func(o *api.Op) bool { return len(o.Body) == 0 },
		mayBe:  func(o *api.Op) bool { return len(o.Body) <= api.MaxWitness },
		lay:    func(w *wire.Writer, o *api.Op) { w.Bytes(o.Body) },
		take: func(r *wire.Reader, o *api.Op) error {
			o.Body = r.Bytes(api.MaxWitness)
			return gaveUpBy(r.Err())
		},
	}
}

func pathPart() part[api.Op] {
	return part[api.Op]{
		isZero: func(o *api.Op) bool { return len(o.Path) == 0 },
		mayBe:  func(o *api.Op) bool { return len(o.Path) <= maxPath },
		lay:    func(w *wire.Writer, o *api.Op) { wire.Lay(w, o.Path, (*wire.Writer).Digest) },
		take: func(r *wire.Reader, o *api.Op) error {
			o.Path = wire.List(r, maxPath, (*wire.Reader).Digest)
			return gaveUpBy(r.Err())
		},
	}
}

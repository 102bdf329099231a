package letter

import (
	"causeway/api"
	"causeway/wire"
)

// The places of an entry's fields.
const (
	entrySender = iota
	entryTime
	entryToken
	entryTo
	entryAmount
	entryGas
	entryBody
)

// CheckEntry tells whether values may be an entry.
func CheckEntry(e api.Entry) api.Errno {
	used := usedByEntry(e.Kind)
	if len(used) == 0 || !entryFields().fits(&e, used) {
		return api.ErrLetterEntry
	}
	return api.OK
}

// EntryBytes writes an entry.
func EntryBytes(e api.Entry) ([]byte, api.Errno) {
	if fault := CheckEntry(e); fault != api.OK {
		return nil, fault
	}
	return entryFields().write(e.Kind, &e, usedByEntry(e.Kind)), api.OK
}

// ReadEntry reads one.
func ReadEntry(b []byte) (api.Entry, api.Errno) {
	r := wire.NewReader(b)
	e := api.Entry{Kind: int(r.Byte())}
	if !entryFields().read(r, &e, usedByEntry(e.Kind)) || CheckEntry(e) != api.OK {
		return api.Entry{}, api.ErrLetterEntry
	}
	return e, api.OK
}

// usedByEntry tells which fields a kind of entry uses: none, if there is no such kind.
func usedByEntry(kind int) []int {
	switch kind {
	case api.EntryDeposit:
		return []int{entrySender, entryTime, entryToken, entryTo, entryAmount, entryGas}
	case api.EntryCall:
		return []int{entrySender, entryTime, entryBody}
	}
	return nil
}

// entryFields are an entry's.
func entryFields() table[api.Entry] {
	return table[api.Entry]{
		entrySender: {
			mayBe:  anything[api.Entry],
			isZero: func(e *api.Entry) bool { return e.Sender == api.Address{} },
			lay:    func(w *wire.Writer, e *api.Entry) { w.Address(e.Sender) },
			take:   func(r *wire.Reader, e *api.Entry) { e.Sender = r.Address() },
		},
		entryTime: {
			mayBe:  func(e *api.Entry) bool { return within(e.Time, 0, api.MaxTime) },
			isZero: func(e *api.Entry) bool { return e.Time == 0 },
			lay:    func(w *wire.Writer, e *api.Entry) { w.Number(e.Time) },
			take:   func(r *wire.Reader, e *api.Entry) { e.Time = r.Number() },
		},
		entryToken: {
			mayBe:  func(e *api.Entry) bool { return isToken(e.Token) },
			isZero: func(e *api.Entry) bool { return e.Token == 0 },
			lay:    func(w *wire.Writer, e *api.Entry) { w.Number(e.Token) },
			take:   func(r *wire.Reader, e *api.Entry) { e.Token = r.Number() },
		},
		entryTo: {
			mayBe:  anything[api.Entry],
			isZero: func(e *api.Entry) bool { return e.To == api.Address{} },
			lay:    func(w *wire.Writer, e *api.Entry) { w.Address(e.To) },
			take:   func(r *wire.Reader, e *api.Entry) { e.To = r.Address() },
		},
		entryAmount: {
			mayBe:  func(e *api.Entry) bool { return e.Amount != api.Wide{} },
			isZero: func(e *api.Entry) bool { return e.Amount == api.Wide{} },
			lay:    func(w *wire.Writer, e *api.Entry) { w.Wide(e.Amount) },
			take:   func(r *wire.Reader, e *api.Entry) { e.Amount = r.Wide() },
		},
		entryGas: {
			mayBe:  func(e *api.Entry) bool { return within(e.Gas, 0, api.MaxCount) },
			isZero: func(e *api.Entry) bool { return e.Gas == 0 },
			lay:    func(w *wire.Writer, e *api.Entry) { w.Number(e.Gas) },
			take:   func(r *wire.Reader, e *api.Entry) { e.Gas = r.Number() },
		},
		entryBody: {
			mayBe:  func(e *api.Entry) bool { return len(e.Body) <= api.MaxBody },
			isZero: func(e *api.Entry) bool { return len(e.Body) == 0 },
			lay:    func(w *wire.Writer, e *api.Entry) { w.Bytes(e.Body) },
			take:   func(r *wire.Reader, e *api.Entry) { e.Body = r.Bytes(api.MaxBody) },
		},
	}
}

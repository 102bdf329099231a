package letter

import (
	"causeway/api"
	"causeway/wire"
)

// The places of a letter's fields.
const (
	fieldToken = iota
	fieldFrom
	fieldTo
	fieldAmount
	fieldNumber
	fieldGas
	fieldArgs
	fieldCode
	fieldParts
)

// usedBy tells which fields a kind of letter uses: none, if there is no such kind.
func usedBy(kind int) []int {
	switch kind {
	case api.LetterMove, api.LetterBurn, api.LetterAllow:
		return []int{fieldToken, fieldTo, fieldAmount}
	case api.LetterPull:
		return []int{fieldToken, fieldFrom, fieldTo, fieldAmount}
	case api.LetterRetry, api.LetterCancel:
		return []int{fieldNumber}
	case api.LetterToken, api.LetterPause, api.LetterResume:
		return []int{fieldToken}
	case api.LetterCode:
		return []int{fieldCode}
	case api.LetterCall:
		return []int{fieldToken, fieldAmount, fieldNumber, fieldGas, fieldArgs}
	case api.LetterMany:
		return []int{fieldParts}
	}
	return nil
}

// fields are a letter's.
func fields() table[api.Letter] {
	return table[api.Letter]{
		fieldToken: {
			mayBe:  func(l *api.Letter) bool { return isToken(l.Token) },
			isZero: func(l *api.Letter) bool { return l.Token == 0 },
			lay:    func(w *wire.Writer, l *api.Letter) { w.Number(l.Token) },
			take:   func(r *wire.Reader, l *api.Letter) { l.Token = r.Number() },
		},
		fieldFrom: {
			mayBe:  anything[api.Letter],
			isZero: func(l *api.Letter) bool { return l.From == api.Address{} },
			lay:    func(w *wire.Writer, l *api.Letter) { w.Address(l.From) },
			take:   func(r *wire.Reader, l *api.Letter) { l.From = r.Address() },
		},
		fieldTo: {
			mayBe:  anything[api.Letter],
			isZero: func(l *api.Letter) bool { return l.To == api.Address{} },
			lay:    func(w *wire.Writer, l *api.Letter) { w.Address(l.To) },
			take:   func(r *wire.Reader, l *api.Letter) { l.To = r.Address() },
		},
		fieldAmount: {
			mayBe:  anything[api.Letter],
			isZero: func(l *api.Letter) bool { return l.Amount == api.Wide{} },
			lay:    func(w *wire.Writer, l *api.Letter) { w.Wide(l.Amount) },
			take:   func(r *wire.Reader, l *api.Letter) { l.Amount = r.Wide() },
		},
		fieldNumber: {
			mayBe:  func(l *api.Letter) bool { return within(l.Number, 1, api.MaxCount) },
			isZero: func(l *api.Letter) bool { return l.Number == 0 },
			lay:    func(w *wire.Writer, l *api.Letter) { w.Number(l.Number) },
			take:   func(r *wire.Reader, l *api.Letter) { l.Number = r.Number() },
		},
		fieldGas: {
			mayBe:  func(l *api.Letter) bool { return within(l.Gas, 1, api.MaxGas) },
			isZero: func(l *api.Letter) bool { return l.Gas == 0 },
			lay:    func(w *wire.Writer, l *api.Letter) { w.Number(l.Gas) },
			take:   func(r *wire.Reader, l *api.Letter) { l.Gas = r.Number() },
		},
		fieldArgs:  argsField(),
		fieldCode:  codeField(),
		fieldParts: partsField(),
	}
}

func argsField() field[api.Letter] {
	return field[api.Letter]{
		mayBe:  func(l *api.Letter) bool { return len(l.Args) <= api.MaxArgs },
		isZero: func(l *api.Letter) bool { return len(l.Args) == 0 },
		lay:    func(w *wire.Writer, l *api.Letter) { wire.Lay(w, l.Args, (*wire.Writer).Wide) },
		take:   func(r *wire.Reader, l *api.Letter) { l.Args = wire.List(r, api.MaxArgs, (*wire.Reader).Wide) },
	}
}

func codeField() field[api.Letter] {
	return field[api.Letter]{
		mayBe:  func(l *api.Letter) bool { return within(len(l.Code), 1, api.MaxCode) },
		isZero: func(l *api.Letter) bool { return len(l.Code) == 0 },
		lay:    func(w *wire.Writer, l *api.Letter) { w.Bytes(l.Code) },
		take:   func(r *wire.Reader, l *api.Letter) { l.Code = r.Bytes(api.MaxCode) },
	}
}

func partsField() field[api.Letter] {
	return field[api.Letter]{
		mayBe:  func(l *api.Letter) bool { return areParts(l.Parts) },
		isZero: func(l *api.Letter) bool { return len(l.Parts) == 0 },
		lay:    func(w *wire.Writer, l *api.Letter) { wire.Lay(w, l.Parts, layPart) },
		take:   func(r *wire.Reader, l *api.Letter) { l.Parts = wire.List(r, api.MaxParts, takePart) },
	}
}

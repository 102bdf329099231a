package machine

import "causeway/api"

// The codes: the byte with which an instruction begins.
const (
	codeStop = iota
	codeDone
	codePush
	codePop
	codeDup
	codeSwap
	codeAdd
	codeSub
	codeMul
	codeDiv
	codeMod
	codeLess
	codeSame
	codeNot
	codeJump
	codeWhen
	codeArg
	codeArgs
	codeCaller
	codeSelf
	codeToken
	codeAmount
	codeTime
	codeGas
	codeLoad
	codeSave
	codeHave
	codeSend
)

// The kinds of operands.
const (
	operandNone   = iota
	operandNumber // how many bytes, and a number in them
	operandCopy   // how many numbers are above the one that is copied
	operandSwap   // how many are above the one that comes to the top
	operandIndex  // which argument
	operandPlace  // where to go on
)

// row is what all instructions of one code have in common.
type row struct {
	name    string
	operand int
	gas     int
	takes   int // of the stack's numbers
	leaves  int
	do      func(*run, instruction) api.Errno
}

// table has a row for each code. It holds functions, so it is made anew for each call.
func table() []row {
	return []row{
		codeStop:   {"stop", operandNone, 1, 0, 0, (*run).stop},
		codeDone:   {"done", operandNone, 1, 1, 0, (*run).done},
		codePush:   {"push", operandNumber, 1, 0, 1, (*run).push},
		codePop:    {"pop", operandNone, 1, 1, 0, (*run).pop},
		codeDup:    {"dup", operandCopy, 1, 1, 2, (*run).dup},
		codeSwap:   {"swap", operandSwap, 1, 1, 1, (*run).swap},
		codeAdd:    {"add", operandNone, 2, 2, 1, (*run).add},
		codeSub:    {"sub", operandNone, 2, 2, 1, (*run).sub},
		codeMul:    {"mul", operandNone, 5, 2, 1, (*run).mul},
		codeDiv:    {"div", operandNone, 10, 2, 1, (*run).div},
		codeMod:    {"mod", operandNone, 10, 2, 1, (*run).mod},
		codeLess:   {"less", operandNone, 2, 2, 1, (*run).less},
		codeSame:   {"same", operandNone, 2, 2, 1, (*run).same},
		codeNot:    {"not", operandNone, 2, 1, 1, (*run).not},
		codeJump:   {"jump", operandPlace, 5, 0, 0, (*run).jump},
		codeWhen:   {"when", operandPlace, 5, 1, 0, (*run).when},
		codeArg:    {"arg", operandIndex, 2, 0, 1, (*run).arg},
		codeArgs:   {"args", operandNone, 2, 0, 1, (*run).args},
		codeCaller: {"caller", operandNone, 2, 0, 1, (*run).caller},
		codeSelf:   {"self", operandNone, 2, 0, 1, (*run).self},
		codeToken:  {"token", operandNone, 2, 0, 1, (*run).token},
		codeAmount: {"amount", operandNone, 2, 0, 1, (*run).amount},
		codeTime:   {"time", operandNone, 2, 0, 1, (*run).time},
		codeGas:    {"gas", operandNone, 2, 0, 1, (*run).gas},
		codeLoad:   {"load", operandNone, 200, 1, 1, (*run).load},
		codeSave:   {"save", operandNone, 200, 2, 0, (*run).save},
		codeHave:   {"have", operandNone, 200, 2, 1, (*run).have},
		codeSend:   {"send", operandNone, 500, 3, 0, (*run).send},
	}
}

// needs tells how many numbers an instruction takes and leaves. Dup and swap reach below the top: they want what is above to be there, and leave it there.
func (w row) needs(x instruction) (takes, leaves int) {
	switch w.operand {
	case operandCopy, operandSwap:
		return w.takes + x.n, w.leaves + x.n
	}
	return w.takes, w.leaves
}

// bounds tells what the first byte of an operand may be, the least and the greatest.
func bounds(operand int) (int, int) {
	switch operand {
	case operandNumber:
		return 1, numberWidth
	case operandCopy:
		return 0, 15
	case operandSwap:
		return 1, 15
	}
	return 0, 255
}

package machine

import (
	"causeway/api"
	"causeway/wide"
)

const (
	numberWidth  = 32
	addressWidth = len(api.Address{})
	placeWidth   = 2
)

// instruction is one of a program, with its operand: push has a number; dup, swap and arg have n; jump and when have the place n.
type instruction struct {
	code   int
	place  int
	number api.Wide
	n      int
}

// program is what its bytes say; it keeps none of them.
type program struct {
	list   []instruction
	starts []int // of each place: which instruction begins there, from 1 on; 0, if none does
}

// read reads a program's bytes.
func read(rows []row, code []byte) (program, api.Errno) {
	if len(code) == 0 || len(code) > api.MaxCode {
		return program{}, api.ErrMachineCode
	}
	p := program{starts: make([]int, len(code))}
	for place := 0; place < len(code); {
		x, size := readInstruction(rows, code[place:])
		if size == 0 {
			return program{}, api.ErrMachineCode
		}
		x.place = place
		p.list = append(p.list, x)
		p.starts[place] = len(p.list)
		place += size
	}
	if !p.jumpsLead(rows) {
		return program{}, api.ErrMachineCode
	}
	return p, api.OK
}

// jumpsLead tells whether each jump goes to where an instruction begins. It is asked when all places are known, for a jump may go ahead.
func (p program) jumpsLead(rows []row) bool {
	for _, x := range p.list {
		if rows[x.code].operand == operandPlace && !p.begins(x.n) {
			return false
		}
	}
	return true
}

func (p program) begins(place int) bool {
	return place < len(p.starts) && p.starts[place] != 0
}

// readInstruction reads the instruction with which b begins, and tells how many bytes it has: 0, if there is none.
func readInstruction(rows []row, b []byte) (instruction, int) {
	x := instruction{code: int(b[0])}
	if x.code >= len(rows) {
		return instruction{}, 0
	}
	operand, rest := rows[x.code].operand, b[1:]
	width := operandWidth(operand, rest)
	if width > len(rest) {
		return instruction{}, 0
	}
	if !x.readOperand(operand, rest[:width]) {
		return instruction{}, 0
	}
	return x, 1 + width
}

// operandWidth tells how many bytes an operand wants, of which there may be less.
func operandWidth(operand int, rest []byte) int {
	switch operand {
	case operandNone:
		return 0
	case operandPlace:
		return placeWidth
	case operandNumber:
		if len(rest) > 0 {
			return 1 + int(rest[0])
		}
	}
	return 1
}

// readOperand reads an operand that has as many bytes as it wants, and tells whether it is within its bounds.
func (x *instruction) readOperand(operand int, b []byte) bool {
	if operand == operandNone {
		return true
	}
	first := int(b[0])
	if least, most := bounds(operand); first < least || first > most {
		return false
	}
	switch operand {
	case operandNumber:
		x.number = numberOf(b[1:])
	case operandPlace:
		x.n = first<<8 | int(b[1])
	default:
		x.n = first
	}
	return true
}

// numberOf is the number that at most 32 bytes are, the highest first.
func numberOf(b []byte) api.Wide {
	var all [numberWidth]byte
	copy(all[numberWidth-len(b):], b)
	x, _ := wide.Read(all[:]) // never refused, for they are 32
	return x
}

// addressOf is a number's lowest 20 bytes.
func addressOf(x api.Wide) api.Address {
	return api.Address(wide.Bytes(x)[numberWidth-addressWidth:])
}

// placeBytes is a place in two bytes, the higher one first.
func placeBytes(place int) []byte {
	return []byte{byte(place >> 8), byte(place)}
}

// numberBytes is a number in as few bytes as hold it, ahead of them how many they are.
func numberBytes(x api.Wide) []byte {
	width := max(1, (wide.Bits(x)+7)/8)
	return append([]byte{byte(width)}, wide.Bytes(x)[numberWidth-width:]...)
}

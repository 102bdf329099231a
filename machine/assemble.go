package machine

import (
	"strings"

	"causeway/api"
	"causeway/wide"
)

// nameMost is how many bytes a label's name may have.
const nameMost = 30

// jump is one whose place is not known yet, for its label may stand behind it.
type jump struct {
	line  int
	at    int // where its operand stands
	label string
}

// assembler makes a program, line by line.
type assembler struct {
	rows   []row
	code   []byte
	labels map[string]int // their places
	jumps  []jump
}

// Assemble makes a program of lines; with an error the int is the line, from 1 on.
func Assemble(text string) ([]byte, int, api.Errno) {
	if len(text) > api.MaxScript {
		return nil, 0, api.ErrMachineText
	}
	a := &assembler{rows: table(), labels: map[string]int{}}
	for i, line := range strings.Split(text, "\n") {
		if !a.line(i+1, words(line)) {
			return nil, i + 1, api.ErrMachineText
		}
	}
	if line := a.fillJumps(); line != 0 {
		return nil, line, api.ErrMachineText
	}
	if e := Check(a.code); e != api.OK {
		return nil, 0, e
	}
	return a.code, 0, api.OK
}

// words are those of a line, without its remark.
func words(line string) []string {
	said, _, _ := strings.Cut(line, "#")
	return strings.FieldsFunc(said, isBlank)
}

func isBlank(r rune) bool { return r == ' ' || r == '\t' }

// line takes the words of a line, and tells whether they may stand there.
func (a *assembler) line(line int, words []string) bool {
	if len(words) == 0 {
		return true
	}
	if name, is := strings.CutSuffix(words[0], ":"); is {
		return len(words) == 1 && a.label(name)
	}
	for code, w := range a.rows {
		if w.name == words[0] {
			a.code = append(a.code, byte(code))
			return a.operand(line, w.operand, words[1:])
		}
	}
	return false
}

// label says that a name stands for the place that comes next.
func (a *assembler) label(name string) bool {
	if _, twice := a.labels[name]; twice || !isName(name) {
		return false
	}
	a.labels[name] = len(a.code)
	return true
}

// operand lays what stands behind an instruction's name.
func (a *assembler) operand(line, operand int, words []string) bool {
	switch {
	case operand == operandNone:
		return len(words) == 0
	case len(words) != 1:
		return false
	case operand == operandPlace:
		return a.jump(line, words[0])
	}
	x, e := wide.Parse(words[0])
	switch {
	case e != api.OK:
		return false
	case operand == operandNumber:
		a.code = append(a.code, numberBytes(x)...)
		return true
	}
	return a.small(operand, x)
}

// small lays an operand of one byte.
func (a *assembler) small(operand int, x api.Wide) bool {
	least, most := bounds(operand)
	if wide.Cmp(x, wide.Of(uint64(least))) < 0 || wide.Cmp(x, wide.Of(uint64(most))) > 0 {
		return false
	}
	a.code = append(a.code, byte(x[0]))
	return true
}

// jump lays room for a place, which is filled in when all labels are known.
func (a *assembler) jump(line int, label string) bool {
	if !isName(label) {
		return false
	}
	a.jumps = append(a.jumps, jump{line: line, at: len(a.code), label: label})
	a.code = append(a.code, placeBytes(0)...)
	return true
}

// fillJumps lays the places of all jumps. It tells the line of the first one whose label stands nowhere: 0, if there is none.
func (a *assembler) fillJumps() int {
	for _, j := range a.jumps {
		place, there := a.labels[j.label]
		if !there {
			return j.line
		}
		copy(a.code[j.at:], placeBytes(place))
	}
	return 0
}

func isName(name string) bool {
	if name == "" || len(name) > nameMost || !isLetter(name[0]) {
		return false
	}
	for i := range len(name) {
		if c := name[i]; !isLetter(c) && !isDigit(c) && c != '_' {
			return false
		}
	}
	return true
}

func isLetter(c byte) bool { return c >= 'a' && c <= 'z' || c >= 'A' && c <= 'Z' }
func isDigit(c byte) bool  { return c >= '0' && c <= '9' }

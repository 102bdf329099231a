package machine

import (
	"strconv"
	"strings"

	"causeway/api"
	"causeway/wide"
)

// labelMark is what a label that Text makes of a place begins with.
const labelMark = "L"

// Text tells a program in lines.
func Text(code []byte) (string, api.Errno) {
	rows := table()
	p, e := read(rows, code)
	if e != api.OK {
		return "", e
	}
	labelled := p.labelled(rows)
	var lines strings.Builder
	for _, x := range p.list {
		if labelled[x.place] {
			lines.WriteString(labelOf(x.place) + ":\n")
		}
		lines.WriteString(x.text(rows) + "\n")
	}
	return lines.String(), api.OK
}

// labelled tells of each place whether some jump goes there.
func (p program) labelled(rows []row) []bool {
	places := make([]bool, len(p.starts))
	for _, x := range p.list {
		if rows[x.code].operand == operandPlace {
			places[x.n] = true
		}
	}
	return places
}

func labelOf(place int) string { return labelMark + strconv.Itoa(place) }

func (x instruction) text(rows []row) string {
	name := rows[x.code].name
	switch rows[x.code].operand {
	case operandNone:
		return name
	case operandNumber:
		return name + " " + wide.Text(x.number)
	case operandPlace:
		return name + " " + labelOf(x.n)
	}
	return name + " " + strconv.Itoa(x.n)
}

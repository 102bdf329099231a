package machine

import (
	"fmt"
	"math/big"
	"regexp"
	"strings"

	"causeway/api"
)

// The second reckoning: a program is bytes that are walked over place by place, numbers are the library's, lines are told by patterns. Errors, limits and the instructions are written out, not taken from api nor from the program.

// said is a line of the chapter's table.
type said struct {
	name    string
	operand string
	takes   int
	leaves  int
	gas     int
}

// theTable is the chapter's, by the codes; dup and swap want as many numbers more as their n says, and leave them.
var theTable = []said{
	0:  {"stop", "", 0, 0, 1},
	1:  {"done", "", 1, 0, 1},
	2:  {"push", "k and k bytes", 0, 1, 1},
	3:  {"pop", "", 1, 0, 1},
	4:  {"dup", "0 to 15", 1, 2, 1},
	5:  {"swap", "1 to 15", 1, 1, 1},
	6:  {"add", "", 2, 1, 2},
	7:  {"sub", "", 2, 1, 2},
	8:  {"mul", "", 2, 1, 5},
	9:  {"div", "", 2, 1, 10},
	10: {"mod", "", 2, 1, 10},
	11: {"less", "", 2, 1, 2},
	12: {"same", "", 2, 1, 2},
	13: {"not", "", 1, 1, 2},
	14: {"jump", "a place", 0, 0, 5},
	15: {"when", "a place", 1, 0, 5},
	16: {"arg", "0 to 255", 0, 1, 2},
	17: {"args", "", 0, 1, 2},
	18: {"caller", "", 0, 1, 2},
	19: {"self", "", 0, 1, 2},
	20: {"token", "", 0, 1, 2},
	21: {"amount", "", 0, 1, 2},
	22: {"time", "", 0, 1, 2},
	23: {"gas", "", 0, 1, 2},
	24: {"load", "", 1, 1, 200},
	25: {"save", "", 2, 0, 200},
	26: {"have", "", 2, 1, 200},
	27: {"send", "", 3, 0, 500},
}

func bigOf(a api.Wide) *big.Int {
	n := new(big.Int)
	for i := 3; i >= 0; i-- {
		n.Lsh(n, 64).Or(n, new(big.Int).SetUint64(a[i]))
	}
	return n
}

func wideOf(n *big.Int) api.Wide {
	var a api.Wide
	for i := range a {
		a[i] = new(big.Int).Rsh(n, uint(64*i)).Uint64()
	}
	return a
}

// twoTo is a power of two.
func twoTo(n uint) *big.Int { return new(big.Int).Lsh(big.NewInt(1), n) }

// sizeSaid tells how many bytes the instruction has that begins at a place, 0 if none does, whatever a jump's place is.
func sizeSaid(code []byte, at int) int {
	rest := code[at+1:]
	if code[at] > 27 {
		return 0
	}
	small := func(least, most byte) int {
		if len(rest) == 0 || rest[0] < least || rest[0] > most {
			return 0
		}
		return 2
	}
	switch theTable[code[at]].operand {
	case "k and k bytes":
		if len(rest) == 0 || rest[0] < 1 || rest[0] > 32 || len(rest)-1 < int(rest[0]) {
			return 0
		}
		return 2 + int(rest[0])
	case "0 to 15":
		return small(0, 15)
	case "1 to 15":
		return small(1, 15)
	case "0 to 255":
		return small(0, 255)
	case "a place":
		if len(rest) < 2 {
			return 0
		}
		return 3
	}
	return 1
}

// placeSaid is the place that a jump or when goes to.
func placeSaid(code []byte, at int) int { return 256*int(code[at+1]) + int(code[at+2]) }

// placesSaid are the places at which instructions begin, in order; none, if the code is no program.
func placesSaid(code []byte) []int {
	if len(code) == 0 || len(code) > 1024 {
		return nil
	}
	var places []int
	begins := map[int]bool{}
	for at := 0; at < len(code); at += sizeSaid(code, at) {
		if sizeSaid(code, at) == 0 {
			return nil
		}
		places, begins[at] = append(places, at), true
	}
	for _, at := range places {
		if theTable[code[at]].operand == "a place" && !begins[placeSaid(code, at)] {
			return nil
		}
	}
	return places
}

func checkSaid(code []byte) api.Errno {
	if placesSaid(code) == nil {
		return 100
	}
	return 0
}

// pad is a run by the words.
type pad struct {
	stack []*big.Int
	call  api.Call
	host  Host
	left  int
	at    int
	steps map[string]int // what was done
}

func runSaid(code []byte, call api.Call, host Host) (api.Ran, api.Errno) {
	ran, e, _ := runSaidSteps(code, call, host)
	return ran, e
}

// runSaidSteps also tells which instructions were done to their end.
func runSaidSteps(code []byte, call api.Call, host Host) (api.Ran, api.Errno, map[string]int) {
	switch {
	case host == nil:
		return api.Ran{}, 1, nil
	case checkSaid(code) != 0:
		return api.Ran{}, 100, nil
	case call.Token < 0, call.Token > 63, len(call.Args) > 8, call.Time < 0, call.Time > 1<<62, call.Gas < 1, call.Gas > 10000:
		return api.Ran{}, 101, nil
	}
	p := &pad{call: call, host: host, left: call.Gas, steps: map[string]int{}}
	for {
		if p.at == len(code) {
			return api.Ran{}, 106, p.steps
		}
		step, e := code[p.at:p.at+sizeSaid(code, p.at)], api.Errno(0)
		if step[0] != 1 {
			e = p.step(step)
		} else {
			if e = p.prepare(step); e == 0 {
				p.steps["done"]++
				return api.Ran{Value: wideOf(p.stack[len(p.stack)-1]), Gas: call.Gas - p.left}, 0, p.steps
			}
		}
		if e != 0 {
			return api.Ran{}, e, p.steps
		}
		p.steps[theTable[step[0]].name]++
	}
}

// prepare is a step's beginning: gas, then the stack.
func (p *pad) prepare(step []byte) api.Errno {
	line := theTable[step[0]]
	if line.gas > p.left {
		return 102
	}
	p.left -= line.gas
	wants := line.takes
	if line.name == "dup" || line.name == "swap" {
		wants = int(step[1]) + 1
	}
	if wants > len(p.stack) || len(p.stack)+line.leaves-line.takes > 64 {
		return 103
	}
	return 0
}

// addressSaid is a number as an address.
func addressSaid(n *big.Int) api.Address {
	low := new(big.Int).Mod(n, twoTo(160))
	return api.Address(low.FillBytes(make([]byte, 20)))
}

// reckonSaid is what add to same leave of x and y; nil, if there is none.
func reckonSaid(name string, x, y *big.Int) *big.Int {
	whether := func(is bool) *big.Int {
		if is {
			return big.NewInt(1)
		}
		return big.NewInt(0)
	}
	z := new(big.Int)
	switch name {
	case "add":
		z.Add(x, y)
	case "sub":
		z.Sub(x, y)
	case "mul":
		z.Mul(x, y)
	case "div", "mod":
		if y.Sign() == 0 {
			return nil
		}
		rest := new(big.Int)
		z.DivMod(x, y, rest)
		if name == "mod" {
			z = rest
		}
	case "less":
		z = whether(x.Cmp(y) < 0)
	case "same":
		z = whether(x.Cmp(y) == 0)
	}
	if z.Sign() < 0 || z.Cmp(twoTo(256)) >= 0 {
		return nil
	}
	return z
}

// step is every instruction but done.
func (p *pad) step(step []byte) api.Errno {
	if e := p.prepare(step); e != 0 {
		return e
	}
	name, high := theTable[step[0]].name, len(p.stack)
	p.at += len(step)
	leave := func(n *big.Int) { p.stack = append(p.stack, n) }
	off := func(n int) []*big.Int {
		taken := p.stack[high-n:]
		p.stack = p.stack[: high-n : high-n]
		return taken
	}
	switch name {
	case "stop":
		return 105
	case "push":
		leave(new(big.Int).SetBytes(step[2:]))
	case "pop":
		off(1)
	case "dup":
		leave(p.stack[high-1-int(step[1])])
	case "swap":
		top, other := p.stack[high-1], p.stack[high-1-int(step[1])]
		p.stack[high-1], p.stack[high-1-int(step[1])] = other, top
	case "add", "sub", "mul", "div", "mod", "less", "same":
		two := off(2)
		z := reckonSaid(name, two[0], two[1])
		if z == nil {
			return 104
		}
		leave(z)
	case "not":
		leave(big.NewInt(int64(1 - off(1)[0].CmpAbs(new(big.Int)))))
	case "jump":
		p.at = placeSaid(step, 0)
	case "when":
		if off(1)[0].Sign() != 0 {
			p.at = placeSaid(step, 0)
		}
	case "load", "save", "have", "send":
		return p.ask(name, off(theTable[step[0]].takes))
	default:
		leave(p.fact(name, step))
	}
	return 0
}

// fact is what is told of the call and the gas.
func (p *pad) fact(name string, step []byte) *big.Int {
	switch name {
	case "arg":
		if n := int(step[1]); n < len(p.call.Args) {
			return bigOf(p.call.Args[n])
		}
		return new(big.Int)
	case "args":
		return big.NewInt(int64(len(p.call.Args)))
	case "caller":
		return new(big.Int).SetBytes(p.call.Caller[:])
	case "self":
		return new(big.Int).SetBytes(p.call.Self[:])
	case "token":
		return big.NewInt(int64(p.call.Token))
	case "amount":
		return bigOf(p.call.Amount)
	case "time":
		return big.NewInt(int64(p.call.Time))
	case "gas":
		return big.NewInt(int64(p.left))
	}
	panic("no instruction: " + name)
}

func (p *pad) ask(name string, taken []*big.Int) api.Errno {
	if (name == "have" || name == "send") && taken[0].Cmp(big.NewInt(64)) >= 0 {
		return 104
	}
	var told api.Wide
	var e api.Errno
	switch name {
	case "load":
		told, e = p.host.Load(wideOf(taken[0]))
	case "save":
		return p.host.Save(wideOf(taken[0]), wideOf(taken[1]))
	case "have":
		told, e = p.host.Have(int(taken[0].Int64()), addressSaid(taken[1]))
	case "send":
		return p.host.Send(int(taken[0].Int64()), addressSaid(taken[1]), wideOf(taken[2]))
	}
	p.stack = append(p.stack, bigOf(told))
	return e
}

func textSaid(code []byte) (string, api.Errno) {
	if checkSaid(code) != 0 {
		return "", 100
	}
	goals := map[int]bool{}
	for _, at := range placesSaid(code) {
		if theTable[code[at]].operand == "a place" {
			goals[placeSaid(code, at)] = true
		}
	}
	text := ""
	for _, at := range placesSaid(code) {
		if goals[at] {
			text += fmt.Sprintf("L%d:\n", at)
		}
		line := theTable[code[at]]
		switch line.operand {
		case "":
			text += line.name + "\n"
		case "k and k bytes":
			text += fmt.Sprintf("%s %v\n", line.name, new(big.Int).SetBytes(code[at+2:at+sizeSaid(code, at)]))
		case "a place":
			text += fmt.Sprintf("%s L%d\n", line.name, placeSaid(code, at))
		default:
			text += fmt.Sprintf("%s %d\n", line.name, code[at+1])
		}
	}
	return text, 0
}

var (
	labelForm   = regexp.MustCompile(`^([a-zA-Z][a-zA-Z0-9_]{0,29}):$`)
	nameForm    = regexp.MustCompile(`^[a-zA-Z][a-zA-Z0-9_]{0,29}$`)
	numberForm  = regexp.MustCompile(`^(0|[1-9][0-9]*)$`)
	upTo15Form  = regexp.MustCompile(`^([0-9]|1[0-5])$`)
	oneTo15Form = regexp.MustCompile(`^([1-9]|1[0-5])$`)
	byteForm    = regexp.MustCompile(`^([0-9]|[1-9][0-9]|1[0-9][0-9]|2[0-4][0-9]|25[0-5])$`)
)

// wordsSaid are the words of a line.
func wordsSaid(line string) []string {
	line, _, _ = strings.Cut(line, "#")
	var list []string
	for _, word := range strings.Split(strings.ReplaceAll(line, "\t", " "), " ") {
		if word != "" {
			list = append(list, word)
		}
	}
	return list
}

// laidSaid are the bytes of an instruction's line, a jump's with noughts for its place; nil, if the line is none.
func laidSaid(words []string) []byte {
	for code, line := range theTable {
		if line.name != words[0] {
			continue
		}
		if line.operand == "" {
			if len(words) != 1 {
				return nil
			}
			return []byte{byte(code)}
		}
		if len(words) != 2 {
			return nil
		}
		forms := map[string]*regexp.Regexp{"k and k bytes": numberForm, "0 to 15": upTo15Form, "1 to 15": oneTo15Form, "0 to 255": byteForm, "a place": nameForm}
		if !forms[line.operand].MatchString(words[1]) {
			return nil
		}
		n, _ := new(big.Int).SetString(words[1], 10)
		switch line.operand {
		case "a place":
			return []byte{byte(code), 0, 0}
		case "k and k bytes":
			if n.Cmp(twoTo(256)) >= 0 {
				return nil
			}
			bytes := n.Bytes()
			if n.Sign() == 0 {
				bytes = []byte{0}
			}
			return append([]byte{byte(code), byte(len(bytes))}, bytes...)
		}
		return []byte{byte(code), byte(n.Int64())}
	}
	return nil
}

func assembleSaid(text string) ([]byte, int, api.Errno) {
	if len(text) > 65536 {
		return nil, 0, 107
	}
	var code []byte
	labels := map[string]int{}
	lines := strings.Split(text, "\n")
	laid := make([][]byte, len(lines))
	for i, line := range lines {
		words := wordsSaid(line)
		if len(words) == 0 {
			continue
		}
		if label := labelForm.FindStringSubmatch(words[0]); label != nil && len(words) == 1 {
			if _, twice := labels[label[1]]; twice {
				return nil, i + 1, 107
			}
			labels[label[1]] = len(code)
			continue
		}
		if laid[i] = laidSaid(words); laid[i] == nil {
			return nil, i + 1, 107
		}
		code = append(code, laid[i]...)
	}
	code = nil
	for i, line := range lines {
		if b := laid[i]; len(b) == 3 && (b[0] == 14 || b[0] == 15) {
			place, there := labels[wordsSaid(line)[1]]
			if !there {
				return nil, i + 1, 107
			}
			b[1], b[2] = byte(place/256), byte(place%256)
		}
		code = append(code, laid[i]...)
	}
	if checkSaid(code) != 0 {
		return nil, 0, 100
	}
	return code, 0, 0
}

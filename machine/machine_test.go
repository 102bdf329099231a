package machine

import (
	"bytes"
	"fmt"
	"math"
	"math/big"
	"slices"
	"strings"
	"sync"
	"testing"

	"causeway/api"
)

const all = 1<<64 - 1

func of(n uint64) api.Wide { return api.Wide{n} }

// below is 2^256 less n.
func below(n uint64) api.Wide { return api.Wide{-n, all, all, all} }

func ann() api.Address { return api.Address{0: 0xa0, 9: 7, 19: 1} }
func own() api.Address { return api.Address{0: 0xff, 1: 0xfe, 18: 3} }

// told is what a desk answers to a question.
type told struct {
	value api.Wide
	code  api.Errno
}

// desk is a host that writes down what it is asked, and answers the n-th question, from 0 on, as it is told to.
type desk struct {
	asked  []string
	answer func(n int) told
}

// plain answers 9 to everything.
func plain(int) told { return told{value: of(9)} }

// refusing answers the n-th question with an error, beside which there is a value.
func refusing(n int, e api.Errno) func(int) told {
	return func(i int) told {
		if i == n {
			return told{of(77), e}
		}
		return plain(i)
	}
}

func (d *desk) note(form string, what ...any) (api.Wide, api.Errno) {
	d.asked = append(d.asked, fmt.Sprintf(form, what...))
	x := d.answer(len(d.asked) - 1)
	return x.value, x.code
}

func (d *desk) Load(slot api.Wide) (api.Wide, api.Errno) { return d.note("load %v", bigOf(slot)) }

func (d *desk) Save(slot, value api.Wide) api.Errno {
	_, e := d.note("save %v %v", bigOf(slot), bigOf(value))
	return e
}

func (d *desk) Have(token int, who api.Address) (api.Wide, api.Errno) {
	return d.note("have %d %x", token, who[:])
}

func (d *desk) Send(token int, to api.Address, amount api.Wide) api.Errno {
	_, e := d.note("send %d %x %v", token, to[:], bigOf(amount))
	return e
}

// ordinary is a call that may be, with so much gas.
func ordinary(gas int) api.Call {
	return api.Call{Self: own(), Caller: ann(), Token: 3, Amount: api.Wide{8, 1}, Args: []api.Wide{of(5), of(7), of(9)}, Time: 1000, Gas: gas}
}

// lines is a program of lines, by the words.
func lines(t testing.TB, text ...string) []byte {
	t.Helper()
	code, line, e := assembleSaid(strings.Join(text, "\n"))
	if e != api.OK {
		t.Fatalf("%q is no program: line %d, %d", text, line, int(e))
	}
	return code
}

func wantErr(t testing.TB, what string, got, wanted api.Errno) {
	t.Helper()
	if got != wanted {
		t.Errorf("%s: %d, not %d", what, int(got), int(wanted))
	}
}

// wantRun runs a program and does so by the words: both must answer the same and ask the same. It tells what was answered and asked.
func wantRun(t testing.TB, what string, code []byte, call api.Call, answer func(int) told) (api.Ran, api.Errno, []string) {
	t.Helper()
	one, two := &desk{answer: answer}, &desk{answer: answer}
	ran, e := Run(code, call, one)
	wantedRan, wanted := runSaid(code, call, two)
	if ran != wantedRan || e != wanted {
		t.Errorf("%s: %.200v with %v: %v, %d, not %v, %d", what, code, call, ran, int(e), wantedRan, int(wanted))
	}
	if !slices.Equal(one.asked, two.asked) {
		t.Errorf("%s: %.200v with %v asked %q, not %q", what, code, call, one.asked, two.asked)
	}
	return ran, e, one.asked
}

// wantEnd runs lines, as wantRun does, that are to end with an error.
func wantEnd(t testing.TB, call api.Call, wanted api.Errno, text ...string) {
	t.Helper()
	_, e, _ := wantRun(t, fmt.Sprint(text), lines(t, text...), call, plain)
	wantErr(t, fmt.Sprint(text, " with ", call.Gas), e, wanted)
}

// wantValue runs lines, as wantRun does, that are to answer a number.
func wantValue(t testing.TB, call api.Call, wanted api.Wide, text ...string) {
	t.Helper()
	ran, e, _ := wantRun(t, fmt.Sprint(text), lines(t, text...), call, plain)
	if ran.Value != wanted || e != api.OK {
		t.Errorf("%v: %v, %d, not %v", text, bigOf(ran.Value), int(e), bigOf(wanted))
	}
}

func wantCheck(t testing.TB, what string, code []byte, wanted api.Errno) {
	t.Helper()
	wantErr(t, what+": Check", Check(code), wanted)
	wantErr(t, what+": by the words", checkSaid(code), wanted)
	if _, e := Text(code); e != wanted {
		t.Errorf("%s: Text: %d, not %d", what, int(e), int(wanted))
	}
}

// wantAssemble assembles a text, and does so by the words.
func wantAssemble(t testing.TB, text string) ([]byte, int, api.Errno) {
	t.Helper()
	code, line, e := Assemble(text)
	wantedCode, wantedLine, wanted := assembleSaid(text)
	if !bytes.Equal(code, wantedCode) || line != wantedLine || e != wanted {
		t.Errorf("Assemble(%.300q): %.100v, %d, %d, not %.100v, %d, %d", text, code, line, int(e), wantedCode, wantedLine, int(wanted))
	}
	return code, line, e
}

// wantCode is lines that are to be bytes.
func wantCode(t testing.TB, text string, wanted ...byte) {
	t.Helper()
	if code, line, e := wantAssemble(t, text); !bytes.Equal(code, wanted) || line != 0 || e != api.OK {
		t.Errorf("Assemble(%.300q): %.100v, %d, %d, not %.100v", text, code, line, int(e), wanted)
	}
}

// wantLine is lines of which one is to be refused.
func wantLine(t testing.TB, text string, line int, wanted api.Errno) {
	t.Helper()
	if code, got, e := wantAssemble(t, text); code != nil || got != line || e != wanted {
		t.Errorf("Assemble(%.300q): %.100v, %d, %d, not line %d, %d", text, code, got, int(e), line, int(wanted))
	}
}

// sampleOf is an instruction of a code as a line; a jump goes to X.
func sampleOf(code int) string {
	line := theTable[code]
	switch line.operand {
	case "":
		return line.name
	case "a place":
		return line.name + " X"
	case "k and k bytes":
		return line.name + " 65535"
	}
	return line.name + " 2"
}

// pushes are so many lines that push 1, 2 and so on.
func pushes(n int) []string {
	var text []string
	for i := range n {
		text = append(text, fmt.Sprint("push ", i+1))
	}
	return text
}

func repeated(n int, line string) []string { return slices.Repeat([]string{line}, n) }

func TestErrorsNumbers(t *testing.T) {
	for wanted, e := range map[int]api.Errno{0: api.OK, 1: api.ErrArg, 100: api.ErrMachineCode, 101: api.ErrMachineCall, 102: api.ErrMachineGas, 103: api.ErrMachineStack,
		104: api.ErrMachineNumber, 105: api.ErrMachineStop, 106: api.ErrMachineEnd, 107: api.ErrMachineText} {
		wantErr(t, "an error's number", e, api.Errno(wanted))
	}
	for wanted, limit := range map[int]int{64: api.MaxStack, 1024: api.MaxCode, 8: api.MaxArgs, 10000: api.MaxGas, 1 << 62: api.MaxTime, 65536: api.MaxScript} {
		if limit != wanted {
			t.Errorf("a limit is %d, not %d", limit, wanted)
		}
	}
	if api.MaxTokens != 64 {
		t.Errorf("MaxTokens is %d", api.MaxTokens)
	}
}

func TestExamples(t *testing.T) {
	caller := api.Address{19: 1}
	for _, x := range []struct {
		text  string
		gas   int
		ran   api.Ran
		e     api.Errno
		asked []string
	}{
		{"arg 0, arg 1, add, done", 100, api.Ran{Value: of(12), Gas: 7}, 0, nil},
		{"arg 0, arg 1, add, done", 6, api.Ran{}, 102, nil},
		{"push 1, push 2, sub, done", 100, api.Ran{}, 104, nil},
		{"arg 9, done", 100, api.Ran{Gas: 3}, 0, nil},
		{"pop", 1, api.Ran{}, 103, nil},
		{"push 0", 100, api.Ran{}, 106, nil},
		{"L:, jump L", 12, api.Ran{}, 102, nil},
		{"token, caller, amount, send, push 1, done", 600, api.Ran{Value: of(1), Gas: 508}, 0, []string{"send 3 0000000000000000000000000000000000000001 8"}},
		{"gas, done", 100, api.Ran{Value: of(98), Gas: 3}, 0, nil},
	} {
		call := api.Call{Caller: caller, Token: 3, Amount: of(8), Args: []api.Wide{of(5), of(7), of(9)}, Gas: x.gas}
		code, line, e := wantAssemble(t, strings.ReplaceAll(x.text, ", ", "\n"))
		if line != 0 || e != api.OK {
			t.Fatalf("%s: line %d, %d", x.text, line, e)
		}
		ran, e, asked := wantRun(t, x.text, code, call, plain)
		if ran != x.ran || e != x.e || !slices.Equal(asked, x.asked) {
			t.Errorf("%s with %d: %v, %d, asked %q", x.text, x.gas, ran, int(e), asked)
		}
	}
	wantCode(t, "push 300", 2, 2, 1, 0x2c)
	wantCode(t, "L:\njump L", 0x0e, 0, 0)
	wantCheck(t, "0e 00 01", []byte{0x0e, 0, 1}, 100)
	if text, e := Text([]byte{2, 2, 0, 5, 1}); text != "push 5\ndone\n" || e != api.OK {
		t.Errorf("Text: %q, %d", text, int(e))
	}
	wantCode(t, "push 5\ndone\n", 2, 1, 5, 1)
	wantLine(t, "jump Q", 1, 107)
	wantLine(t, "Q:", 0, 100)
}

// The table that the program goes by is the chapter's.
func TestInstructions_TheTable(t *testing.T) {
	rows := table()
	if len(rows) != 28 {
		t.Fatalf("%d rows", len(rows))
	}
	kinds := map[string]int{"": operandNone, "k and k bytes": operandNumber, "0 to 15": operandCopy, "1 to 15": operandSwap, "0 to 255": operandIndex, "a place": operandPlace}
	for code, wanted := range theTable {
		w := rows[code]
		if w.name != wanted.name || w.operand != kinds[wanted.operand] || w.gas != wanted.gas || w.takes != wanted.takes || w.leaves != wanted.leaves || w.do == nil {
			t.Errorf("code %d: %s, not %v", code, w.name, wanted)
		}
	}
}

// The chapter's table, row by row: a code's name and operand.
func TestInstructions_NamesAndOperands(t *testing.T) {
	if len(theTable) != 28 {
		t.Fatalf("the table has %d rows", len(theTable))
	}
	for code, line := range theTable {
		text := "X:\n" + sampleOf(code)
		b, _, e := wantAssemble(t, text)
		if e != api.OK || b[0] != byte(code) {
			t.Errorf("%s: %v, %d", line.name, b, int(e))
		}
		wantCheck(t, line.name, b, 0)
		if told, _ := Text(b); !strings.HasSuffix(told, strings.ReplaceAll(sampleOf(code), "X", "L0")+"\n") {
			t.Errorf("%s: Text is %q", line.name, told)
		}
	}
}

// The chapter's table: what each costs.
func TestInstructions_Gas(t *testing.T) {
	for code, line := range theTable {
		text := append(repeated(4, "push 1"), sampleOf(code), "X:", "gas", "done")
		for _, spare := range []int{-1, 0, 1, 2, 3, 4, 9000} {
			call := ordinary(4 + line.gas + spare)
			wanted, ran := api.ErrMachineGas, api.Ran{}
			switch {
			case line.name == "stop" && spare >= 0:
				wanted = api.ErrMachineStop
			case line.name == "done" && spare >= 0:
				wanted, ran = api.OK, api.Ran{Value: of(1), Gas: 5}
			case spare >= 3: // for gas and done
				wanted, ran = api.OK, api.Ran{Value: of(uint64(spare - 2)), Gas: 4 + line.gas + 3}
			}
			if got, e, _ := wantRun(t, line.name, lines(t, text...), call, plain); got != ran || e != wanted {
				t.Errorf("%s with %d more than its gas: %v, %d, not %v, %d", line.name, spare, got, int(e), ran, int(wanted))
			}
		}
	}
}

// The chapter's table: how many numbers each wants, and how many there are behind it.
func TestInstructions_HowManyNumbers(t *testing.T) {
	for code, line := range theTable {
		wants, turn := line.takes, line.leaves-line.takes
		if line.name == "dup" || line.name == "swap" {
			wants += 2 // as sampleOf's n
		}
		for height := range 65 {
			text := append(repeated(height, "push 1"), sampleOf(code), "X:")
			behind, wanted := height+turn, [2]api.Errno{105, 103} // just so many pops, and one too many
			switch {
			case height < wants || behind > 64:
				behind, wanted = max(0, behind), [2]api.Errno{103, 103}
			case line.name == "stop":
				wanted = [2]api.Errno{105, 105}
			case line.name == "done":
				wanted = [2]api.Errno{0, 0}
			}
			for more := range 2 {
				pops := append(repeated(behind+more, "pop"), "stop")
				wantEnd(t, ordinary(10000), wanted[more], append(slices.Clone(text), pops...)...)
			}
		}
	}
}

// seen are all numbers that stand on the stack behind lines, the top first.
func seen(t testing.TB, call api.Call, text ...string) []string {
	t.Helper()
	var numbers []string
	for depth := range 66 {
		ran, e, _ := wantRun(t, fmt.Sprint(text), lines(t, append(slices.Clone(text), append(repeated(depth, "pop"), "done")...)...), call, plain)
		if e == api.ErrMachineStack {
			return numbers
		}
		if e != api.OK {
			t.Fatalf("%v: %d", text, int(e))
		}
		numbers = append(numbers, bigOf(ran.Value).String())
	}
	t.Fatalf("%v: no end of numbers", text)
	return nil
}

func TestInstructions_WhatTheyLeave(t *testing.T) {
	call := ordinary(10000)
	amount := bigOf(call.Amount).String()
	caller, self := new(big.Int).SetBytes(call.Caller[:]).String(), new(big.Int).SetBytes(call.Self[:]).String()
	for _, x := range []struct{ text, left string }{
		{"push 0", "0 20 10"}, {"pop", "10"}, {"dup 0", "20 20 10"}, {"dup 1", "10 20 10"}, {"swap 1", "10 20"},
		{"add", "30"}, {"swap 1, sub", "10"}, {"mul", "200"}, {"swap 1, div", "2"}, {"div", "0"}, {"mod", "10"}, {"swap 1, mod", "0"},
		{"less", "1"}, {"swap 1, less", "0"}, {"same", "0"}, {"dup 0, same", "1 10"}, {"not", "0 10"}, {"push 0, not", "1 20 10"},
		{"jump X, push 4, X:", "20 10"}, {"when X, push 4, X:", "10"}, {"push 0, when X, push 4, X:", "4 20 10"},
		{"arg 0", "5 20 10"}, {"arg 2", "9 20 10"}, {"arg 3", "0 20 10"}, {"arg 255", "0 20 10"}, {"args", "3 20 10"},
		{"caller", caller + " 20 10"}, {"self", self + " 20 10"}, {"token", "3 20 10"}, {"amount", amount + " 20 10"}, {"time", "1000 20 10"},
		{"gas", "9996 20 10"}, {"gas, gas", "9994 9996 20 10"}, {"load", "9 10"}, {"save", ""}, {"have", "9"}, {"push 2, send", ""},
	} {
		text := append([]string{"push 10", "push 20"}, strings.Split(x.text, ", ")...)
		if got := strings.Join(seen(t, call, text...), " "); got != x.left {
			t.Errorf("%s leaves %q, not %q", x.text, got, x.left)
		}
	}
	if got := seen(t, call, append(pushes(5), "swap 4")...); strings.Join(got, " ") != "1 4 3 2 5" {
		t.Errorf("swap 4 leaves %q", got)
	}
}

func TestInstructions_DupAndSwapAtEveryDepth(t *testing.T) {
	for _, name := range []string{"dup", "swap"} {
		for n := range 16 {
			if name == "swap" && n == 0 {
				continue
			}
			line := fmt.Sprint(name, " ", n)
			for height := n; height <= min(n+3, 18); height++ {
				if height == n {
					wantEnd(t, ordinary(10000), 103, append(pushes(height), line, "stop")...)
					continue
				}
				got := seen(t, ordinary(10000), append(pushes(height), line)...)
				if top := got[0]; top != fmt.Sprint(height-n) {
					t.Errorf("%s over %d numbers: the top is %s", line, height, top)
				}
				if name == "swap" && (got[n] != fmt.Sprint(height) || len(got) != height) || name == "dup" && (got[n+1] != fmt.Sprint(height-n) || len(got) != height+1) {
					t.Errorf("%s over %d numbers leaves %q", line, height, got)
				}
			}
			// The greatest stack: swap leaves as many as it finds, dup one more.
			full, oneLess := append(pushes(64), line, "stop"), append(pushes(63), line, "stop")
			wantEnd(t, ordinary(10000), 105, oneLess...)
			wantEnd(t, ordinary(10000), map[string]api.Errno{"dup": 103, "swap": 105}[name], full...)
		}
	}
}

func TestP10_1_HowManyBytes(t *testing.T) {
	wantCheck(t, "nil", nil, 100)
	wantCheck(t, "no byte", []byte{}, 100)
	for n, wanted := range map[int]api.Errno{1: 0, 2: 0, 1023: 0, 1024: 0, 1025: 100, 2048: 100, 1 << 20: 100} {
		wantCheck(t, fmt.Sprint(n, " bytes"), make([]byte, n), wanted)
	}
	long := append(make([]byte, 990), 2, 32)
	wantCheck(t, "a push at the end of 1024", append(long, make([]byte, 32)...), 0)
	wantCheck(t, "a push that is cut off by the 1024th byte", append(long, make([]byte, 31)...), 100)
	wantCheck(t, "a push over the 1024th byte", append(append([]byte{0}, long...), make([]byte, 32)...), 100)
}

func TestP10_1_EveryByteAsACode(t *testing.T) {
	for c := range 256 {
		wanted := api.ErrMachineCode
		if c < 28 && theTable[c].operand == "" {
			wanted = api.OK
		}
		wantCheck(t, fmt.Sprint("code ", c), []byte{byte(c)}, wanted)
		wantCheck(t, fmt.Sprint("code ", c, " behind a stop"), []byte{0, byte(c)}, wanted)
	}
}

func TestP10_1_OperandsThatEndTooEarly(t *testing.T) {
	for c, line := range theTable {
		whole := lines(t, "X:", sampleOf(c))
		for n := 1; n < len(whole); n++ {
			wantCheck(t, fmt.Sprint(line.name, " cut to ", n), whole[:n], 100)
			wantCheck(t, fmt.Sprint(line.name, " cut to ", n, ", behind others"), append([]byte{0, 2, 1, 7}, whole[:n]...), 100)
		}
		wantCheck(t, line.name, whole, 0)
	}
	for k := 1; k <= 32; k++ {
		push := append([]byte{2, byte(k)}, bytes.Repeat([]byte{0xee}, k)...)
		wantCheck(t, fmt.Sprint("push of ", k), push, 0)
		wantCheck(t, fmt.Sprint("push of ", k, ", one byte less"), push[:k+1], 100)
	}
}

func TestP10_1_OperandsAtTheirBounds(t *testing.T) {
	for n := range 256 {
		within := func(least, most int) api.Errno {
			if n < least || n > most {
				return 100
			}
			return 0
		}
		wantCheck(t, fmt.Sprint("push of ", n), append([]byte{2, byte(n)}, make([]byte, n)...), within(1, 32))
		wantCheck(t, fmt.Sprint("dup ", n), []byte{4, byte(n)}, within(0, 15))
		wantCheck(t, fmt.Sprint("swap ", n), []byte{5, byte(n)}, within(1, 15))
		wantCheck(t, fmt.Sprint("arg ", n), []byte{16, byte(n)}, 0)
	}
	wantCheck(t, "push of 33, with stops behind", append([]byte{2, 33}, make([]byte, 100)...), 100)
	wantCheck(t, "push of 0, with stops behind", append([]byte{2, 0}, make([]byte, 100)...), 100)
}

func TestP10_1_WhereJumpsMayGo(t *testing.T) {
	for _, jump := range []byte{14, 15} {
		// stop, push 7, jump, arg 1, stop: instructions begin at 0, 1, 4, 7, 9
		for place := range 65536 {
			code := []byte{0, 2, 1, 7, jump, byte(place >> 8), byte(place), 16, 1, 0}
			wanted := api.ErrMachineCode
			if slices.Contains([]int{0, 1, 4, 7, 9}, place) {
				wanted = api.OK
			}
			if e := Check(code); e != wanted {
				t.Errorf("%d to %d: %d, not %d", jump, place, int(e), int(wanted))
			}
		}
		wantCheck(t, "to the end", []byte{jump, 0, 3}, 100)
		wantCheck(t, "beyond the end", []byte{jump, 0, 4}, 100)
		wantCheck(t, "to the second byte of another jump", []byte{jump, 0, 4, jump, 0, 0}, 100)
		wantCheck(t, "ahead to another jump", []byte{jump, 0, 3, jump, 0, 0}, 0)
		wantCheck(t, "the second one is wrong", []byte{jump, 0, 3, jump, 0, 1}, 100)
		wantCheck(t, "the first one is wrong", []byte{jump, 0, 6, jump, 0, 0}, 100)
		far := append([]byte{jump, 3, 255}, make([]byte, 1021)...)
		wantCheck(t, "to the 1024th byte", far, 0)
		far[1], far[2] = 4, 0
		wantCheck(t, "to the end of 1024", far, 100)
		wantCheck(t, "bytes in the other order", append([]byte{jump, 1, 0}, make([]byte, 253)...), 100)
	}
}

func TestP10_1_AllShortCodes(t *testing.T) {
	try := func(code ...byte) {
		if got, wanted := Check(code), checkSaid(code); got != wanted {
			t.Errorf("Check(%v): %d, not %d", code, int(got), int(wanted))
		}
	}
	for a := range 256 {
		for b := range 256 {
			try(byte(a), byte(b))
			for _, c := range []byte{0, 1, 2, 3, 4, 14, 15, 16, 27, 28, 255} {
				try(byte(a), byte(b), c)
				try(0, byte(a), byte(b), c)
				try(byte(a), byte(b), c, 0)
			}
		}
	}
}

// badCalls are calls that may not be, each by one field.
func badCalls() map[string]api.Call {
	calls := map[string]api.Call{}
	put := func(name string, turn func(*api.Call)) {
		call := ordinary(100)
		turn(&call)
		calls[name] = call
	}
	for _, n := range []int{-1, 64, 65, math.MinInt, math.MaxInt, 256, 1 << 32} {
		put(fmt.Sprint("Token ", n), func(c *api.Call) { c.Token = n })
	}
	for _, n := range []int{9, 10, 64, 256} {
		put(fmt.Sprint(n, " arguments"), func(c *api.Call) { c.Args = make([]api.Wide, n) })
	}
	for _, n := range []int{-1, 1<<62 + 1, math.MinInt, math.MaxInt} {
		put(fmt.Sprint("Time ", n), func(c *api.Call) { c.Time = n })
	}
	for _, n := range []int{0, -1, 10001, math.MinInt, math.MaxInt} {
		put(fmt.Sprint("Gas ", n), func(c *api.Call) { c.Gas = n })
	}
	return calls
}

// goodCalls are calls that may be, at the edges of each field.
func goodCalls() map[string]api.Call {
	calls := map[string]api.Call{"all zero but gas": {Gas: 1000}}
	put := func(name string, turn func(*api.Call)) {
		call := ordinary(1000)
		turn(&call)
		calls[name] = call
	}
	for _, n := range []int{0, 1, 62, 63} {
		put(fmt.Sprint("Token ", n), func(c *api.Call) { c.Token = n })
	}
	for n := range 9 {
		put(fmt.Sprint(n, " arguments"), func(c *api.Call) { c.Args = make([]api.Wide, n) })
	}
	for _, n := range []int{0, 1, 1<<62 - 1, 1 << 62} {
		put(fmt.Sprint("Time ", n), func(c *api.Call) { c.Time = n })
	}
	for _, n := range []int{1, 2, 9999, 10000} {
		put(fmt.Sprint("Gas ", n), func(c *api.Call) { c.Gas = n })
	}
	put("the greatest amount", func(c *api.Call) { c.Amount = below(1) })
	put("addresses of noughts", func(c *api.Call) { c.Self, c.Caller = api.Address{}, api.Address{} })
	return calls
}

func TestP10_2_WhatIsRefusedFirst(t *testing.T) {
	program, none := lines(t, "push 1", "load", "done"), [][]byte{nil, {28}, {14, 0, 1}, make([]byte, 1025)}
	for _, code := range append(none, program) {
		for name, bad := range badCalls() {
			ran, e := Run(code, bad, nil)
			if ran != (api.Ran{}) || e != api.ErrArg {
				t.Errorf("no host, %s: %v, %d", name, ran, int(e))
			}
		}
		if _, e := Run(code, ordinary(1000), nil); e != api.ErrArg {
			t.Errorf("no host: %d", int(e))
		}
	}
	refused := func(what string, code []byte, call api.Call, wanted api.Errno) {
		t.Helper()
		ran, e, asked := wantRun(t, what, code, call, plain)
		if ran != (api.Ran{}) || e != wanted || len(asked) != 0 {
			t.Errorf("%s: %v, %d, not %d; asked %q", what, ran, int(e), int(wanted), asked)
		}
	}
	for _, code := range none {
		refused("no program", code, ordinary(1000), api.ErrMachineCode)
		for name, bad := range badCalls() {
			refused("no program, "+name, code, bad, api.ErrMachineCode)
		}
	}
	for name, bad := range badCalls() {
		refused(name, program, bad, api.ErrMachineCall)
		bad.Gas = 0
		refused(name+" and no gas", program, bad, api.ErrMachineCall)
		bad.Gas, bad.Token = 1000, -1
		refused(name+" and no token", program, bad, api.ErrMachineCall)
	}
	refused("the zero call", program, api.Call{}, api.ErrMachineCall)
}

func TestP10_2_CallsThatMayBe(t *testing.T) {
	for name, call := range goodCalls() {
		for code := range theTable {
			_, e, _ := wantRun(t, name, lines(t, append(pushes(3), sampleOf(code), "X:", "args", "done")...), call, plain)
			if e == api.ErrMachineCall || e == api.ErrArg || e == api.ErrMachineCode {
				t.Errorf("%s is refused: %d", name, int(e))
			}
		}
		if call.Gas < 1000 {
			continue
		}
		wantValue(t, call, of(uint64(len(call.Args))), "args", "done")
		wantValue(t, call, of(uint64(call.Token)), "token", "done")
		wantValue(t, call, of(uint64(call.Time)), "time", "done")
		wantValue(t, call, call.Amount, "amount", "done")
	}
	wantEnd(t, ordinary(1), 106, "push 1")
	wantEnd(t, ordinary(1), 102, "push 1", "done")
	wantEnd(t, ordinary(2), 0, "push 1", "done")
}

// Each argument of as many as may be, and those that are not there.
func TestP10_3_Arguments(t *testing.T) {
	for count := range 9 {
		call := ordinary(100)
		call.Args = nil
		for i := range count {
			call.Args = append(call.Args, api.Wide{uint64(i) + 1, 2, 3, uint64(i) + 4})
		}
		for n := range 256 {
			wanted := of(0)
			if n < count {
				wanted = call.Args[n]
			}
			wantValue(t, call, wanted, fmt.Sprint("arg ", n), "done")
		}
	}
}

func TestP10_3_WhichErrorComesFirst(t *testing.T) {
	// The end comes ahead of gas.
	wantEnd(t, ordinary(1), 106, "push 0")
	wantEnd(t, ordinary(3), 106, "push 0", "push 0", "pop")
	// Gas comes ahead of the stack: of each instruction that wants numbers, and of each that leaves one on a full stack.
	for code, line := range theTable {
		text := []string{"X:", sampleOf(code)}
		if line.takes > 0 {
			wantEnd(t, ordinary(line.gas), 103, text...)
			if line.gas > 1 {
				wantEnd(t, ordinary(line.gas-1), 102, text...)
			}
		}
		if line.leaves > line.takes {
			full := append(pushes(64), sampleOf(code))
			wantEnd(t, ordinary(64+line.gas), 103, full...)
			wantEnd(t, ordinary(64+line.gas-1), 102, full...)
		}
	}
	// The stack comes ahead of a number.
	wantEnd(t, ordinary(1000), 103, "push 0", "div")
	wantEnd(t, ordinary(1000), 103, "push 0", "mod")
	wantEnd(t, ordinary(1000), 103, "push 64", "have")
	wantEnd(t, ordinary(1000), 103, "push 64", "push 64", "send")
	// Gas comes ahead of a number.
	for _, x := range []struct {
		gas  int
		text []string
	}{{12, []string{"push 1", "push 0", "div"}}, {12, []string{"push 1", "push 0", "mod"}}, {4, []string{"push 1", "push 2", "sub"}}, {202, []string{"push 64", "push 0", "have"}}, {503, []string{"push 64", "push 0", "push 0", "send"}}} {
		wantEnd(t, ordinary(x.gas), 104, x.text...)
		wantEnd(t, ordinary(x.gas-1), 102, x.text...)
	}
	// stop and done.
	wantEnd(t, ordinary(1), 105, "stop")
	wantEnd(t, ordinary(1), 103, "done")
	wantEnd(t, ordinary(64+1), 105, append(pushes(64), "stop")...)
	wantEnd(t, ordinary(64), 102, append(pushes(64), "stop")...)
	wantEnd(t, ordinary(64), 106, pushes(64)...)
	wantEnd(t, ordinary(65), 103, pushes(65)...)
	wantEnd(t, ordinary(64), 102, pushes(65)...)
}

// A number that is refused is not brought to the host, whatever it would answer.
func TestP10_3_NumberAheadOfTheHost(t *testing.T) {
	for _, text := range [][]string{{"push 64", "push 0", "have", "done"}, {"push 64", "push 0", "push 0", "send", "push 1", "done"}} {
		_, e, asked := wantRun(t, fmt.Sprint(text), lines(t, text...), ordinary(10000), refusing(0, 77))
		if e != api.ErrMachineNumber || len(asked) != 0 {
			t.Errorf("%v: %d, asked %q", text, int(e), asked)
		}
	}
	for _, text := range [][]string{{"load"}, {"push 1", "save"}, {"push 1", "have"}, {"push 1", "push 1", "send"}} {
		for _, gas := range []int{2, 199, 10000} {
			_, e, asked := wantRun(t, fmt.Sprint(text), lines(t, text...), ordinary(gas), refusing(0, 77))
			if e == 77 || len(asked) != 0 {
				t.Errorf("%v: %d, asked %q", text, int(e), asked)
			}
		}
	}
}

// edges are numbers about which reckoning turns.
func edges() []*big.Int {
	list := []*big.Int{big.NewInt(0), big.NewInt(1), big.NewInt(2), big.NewInt(3), big.NewInt(10), big.NewInt(63), big.NewInt(64), big.NewInt(255), big.NewInt(256)}
	for _, n := range []uint{63, 64, 65, 127, 128, 129, 159, 160, 192, 255, 256} {
		for _, by := range []int64{-1, 0, 1} {
			if x := new(big.Int).Add(twoTo(n), big.NewInt(by)); x.Cmp(twoTo(256)) < 0 {
				list = append(list, x)
			}
		}
	}
	return list
}

func TestP10_3_Reckoning(t *testing.T) {
	for _, x := range edges() {
		for _, y := range edges() {
			ahead := []string{"push " + x.String(), "push " + y.String()}
			for _, name := range []string{"add", "sub", "mul", "div", "mod", "less", "same"} {
				text := append(slices.Clone(ahead), name, "done")
				if z := reckonSaid(name, x, y); z == nil {
					wantEnd(t, ordinary(100), 104, text...)
				} else {
					wantValue(t, ordinary(100), wideOf(z), text...)
				}
			}
		}
		is := of(0)
		if x.Sign() == 0 {
			is = of(1)
		}
		wantValue(t, ordinary(100), is, "push "+x.String(), "not", "done")
		wantValue(t, ordinary(100), is, "push "+x.String(), "when X", "push 1", "done", "X:", "push 0", "done")
	}
}

// Some of it once more, by numbers that stand here.
func TestP10_3_ReckoningByHand(t *testing.T) {
	const most = "115792089237316195423570985008687907853269984665640564039457584007913129639935"
	for _, x := range []struct {
		x, y, name string
		e          api.Errno
		z          api.Wide
	}{
		{"18446744073709551615", "1", "add", 0, api.Wide{0, 1}}, {most, "0", "add", 0, below(1)}, {most, "1", "add", 104, api.Wide{}}, {"1", most, "add", 104, api.Wide{}},
		{"18446744073709551616", "1", "sub", 0, api.Wide{all}}, {"0", "0", "sub", 0, api.Wide{}}, {"0", "1", "sub", 104, api.Wide{}}, {most, most, "sub", 0, api.Wide{}},
		{"18446744073709551616", "18446744073709551616", "mul", 0, api.Wide{0, 0, 1}}, {most, "1", "mul", 0, below(1)}, {most, "2", "mul", 104, api.Wide{}}, {"0", most, "mul", 0, api.Wide{}},
		{"7", "2", "div", 0, of(3)}, {most, "18446744073709551616", "div", 0, api.Wide{all, all, all}}, {"7", "0", "div", 104, api.Wide{}}, {"0", "0", "div", 104, api.Wide{}}, {"0", "7", "div", 0, of(0)},
		{"7", "2", "mod", 0, of(1)}, {most, "18446744073709551616", "mod", 0, api.Wide{all}}, {"7", "0", "mod", 104, api.Wide{}}, {"2", "7", "mod", 0, of(2)},
		{"1", "2", "less", 0, of(1)}, {"2", "1", "less", 0, of(0)}, {"2", "2", "less", 0, of(0)}, {"18446744073709551615", "18446744073709551616", "less", 0, of(1)},
		{"2", "2", "same", 0, of(1)}, {most, most, "same", 0, of(1)}, {"0", "18446744073709551616", "same", 0, of(0)},
	} {
		text := []string{"push " + x.x, "push " + x.y, x.name, "done"}
		if x.e != 0 {
			wantEnd(t, ordinary(100), x.e, text...)
		} else {
			wantValue(t, ordinary(100), x.z, text...)
		}
	}
}

func TestP10_3_WhereJumpsLead(t *testing.T) {
	// A loop: the sum of 1 to n.
	sum := []string{"push 0", "arg 0", "loop:", "dup 0", "not", "when out", "dup 0", "swap 2", "add", "swap 1", "push 1", "sub", "jump loop", "out:", "pop", "done"}
	for n, wanted := range map[uint64]uint64{0: 0, 1: 1, 2: 3, 10: 55, 100: 5050} {
		call := ordinary(10000)
		call.Args = []api.Wide{of(n)}
		wantValue(t, call, of(wanted), sum...)
	}
	wantEnd(t, ordinary(10000), 102, "L:", "jump L")
	wantEnd(t, ordinary(10000), 103, "L:", "push 1", "jump L")
	wantValue(t, ordinary(100), of(2), "jump b", "a:", "push 2", "done", "b:", "jump a")
	wantEnd(t, ordinary(100), 106, "jump b", "a:", "stop", "b:", "push 2")
	wantEnd(t, ordinary(100), 105, "jump b", "b:", "stop")
	far := append(append([]string{"jump far"}, repeated(1000, "pop")...), "far:", "push 6", "done")
	wantValue(t, ordinary(100), of(6), far...)
	wantEnd(t, ordinary(100), 105, "push 1", "when x", "push 7", "done", "x:", "stop")
}

func TestP10_4_NumbersAsTheyAre(t *testing.T) {
	tokens := map[string]bool{"0": true, "1": true, "63": true, "64": false, "65": false, "255": false, "256": false, "18446744073709551615": false, twoTo(64).String(): false, new(big.Int).Add(twoTo(64), big.NewInt(5)).String(): false,
		twoTo(128).String(): false, twoTo(192).String(): false, new(big.Int).Sub(twoTo(256), big.NewInt(1)).String(): false}
	for _, who := range edges() {
		address := new(big.Int).Mod(who, twoTo(160)).FillBytes(make([]byte, 20))
		for token, is := range tokens {
			ran, e, asked := wantRun(t, "have", lines(t, "push "+token, "push "+who.String(), "have", "done"), ordinary(1000), plain)
			wanted := []string{fmt.Sprintf("have %s %x", token, address)}
			if is && (e != api.OK || ran != (api.Ran{Value: of(9), Gas: 203}) || !slices.Equal(asked, wanted)) {
				t.Errorf("have %s %v: %v, %d, asked %q", token, who, ran, int(e), asked)
			}
			if !is && (e != api.ErrMachineNumber || len(asked) != 0) {
				t.Errorf("have %s %v: %d, asked %q", token, who, int(e), asked)
			}
			for _, amount := range []string{"0", "1", bigOf(below(1)).String()} {
				_, e, asked = wantRun(t, "send", lines(t, "push "+token, "push "+who.String(), "push "+amount, "send", "push 1", "done"), ordinary(1000), plain)
				wanted = []string{fmt.Sprintf("send %s %x %s", token, address, amount)}
				if is && (e != api.OK || !slices.Equal(asked, wanted)) || !is && (e != api.ErrMachineNumber || len(asked) != 0) {
					t.Errorf("send %s %v %s: %d, asked %q", token, who, amount, int(e), asked)
				}
			}
		}
		for _, other := range edges() {
			_, e, asked := wantRun(t, "save", lines(t, "push "+who.String(), "push "+other.String(), "save", "push 1", "done"), ordinary(1000), plain)
			if e != api.OK || !slices.Equal(asked, []string{fmt.Sprintf("save %v %v", who, other)}) {
				t.Errorf("save %v %v: %d, asked %q", who, other, int(e), asked)
			}
		}
		_, e, asked := wantRun(t, "load", lines(t, "push "+who.String(), "load", "done"), ordinary(1000), plain)
		if e != api.OK || !slices.Equal(asked, []string{fmt.Sprintf("load %v", who)}) {
			t.Errorf("load %v: %d, asked %q", who, int(e), asked)
		}
	}
}

func TestP10_4_AddressesAreNumbers(t *testing.T) {
	for i := range 20 {
		for _, b := range []byte{1, 0x80, 0xff} {
			call := ordinary(1000)
			call.Caller, call.Self = api.Address{}, api.Address{}
			call.Caller[i], call.Self[19-i] = b, b
			number := new(big.Int).Lsh(big.NewInt(int64(b)), uint(8*(19-i)))
			wantValue(t, call, wideOf(number), "caller", "done")
			wantValue(t, call, wideOf(new(big.Int).Lsh(big.NewInt(int64(b)), uint(8*i))), "self", "done")
			_, _, asked := wantRun(t, "have caller", lines(t, "token", "caller", "have", "done"), call, plain)
			if wanted := fmt.Sprintf("have 3 %x", call.Caller[:]); len(asked) != 1 || asked[0] != wanted {
				t.Errorf("asked %q, not %q", asked, wanted)
			}
		}
	}
	full := ordinary(100)
	full.Caller = api.Address(bytes.Repeat([]byte{0xff}, 20))
	wantValue(t, full, wideOf(new(big.Int).Sub(twoTo(160), big.NewInt(1))), "caller", "done")
}

// asksAll asks each question, in an order that can be told, and answers what was told first.
func asksAll() []string {
	return []string{"push 5", "load", "push 6", "dup 1", "save", "push 7", "caller", "have", "push 8", "self", "push 4", "send", "push 11", "load", "pop", "pop", "done"}
}

func TestP10_4_InTheOrderOfTheSteps(t *testing.T) {
	a, o := ann(), own()
	wanted := []string{"load 5", "save 6 9", fmt.Sprintf("have 7 %x", a[:]), fmt.Sprintf("send 8 %x 4", o[:]), "load 11"}
	ran, e, asked := wantRun(t, "all", lines(t, asksAll()...), ordinary(10000), plain)
	if e != api.OK || !slices.Equal(asked, wanted) || ran.Value != of(9) {
		t.Errorf("%v, %d, asked %q, not %q", ran, int(e), asked, wanted)
	}
	// What is told is what stands there then.
	climbs := func(n int) told { return told{value: of(100 + uint64(n))} }
	ran, e, asked = wantRun(t, "all", lines(t, asksAll()...), ordinary(10000), climbs)
	wanted[1] = "save 6 100"
	if e != api.OK || !slices.Equal(asked, wanted) || ran.Value != of(100) {
		t.Errorf("%v, %d, asked %q, not %q", ran, int(e), asked, wanted)
	}
	// In a loop it is asked each time.
	_, e, asked = wantRun(t, "a loop", lines(t, "L:", "push 1", "load", "pop", "jump L"), ordinary(10000), climbs)
	if e != api.ErrMachineGas || len(asked) != 10000/207 {
		t.Errorf("a loop: %d, asked %d times", int(e), len(asked))
	}
	// What is jumped over is not asked, nor what stands behind done.
	_, e, asked = wantRun(t, "jumped over", lines(t, "push 1", "jump X", "load", "X:", "done", "load"), ordinary(10000), plain)
	if e != api.OK || len(asked) != 0 {
		t.Errorf("jumped over: %d, asked %q", int(e), asked)
	}
}

func TestP10_4_ErrorsOfTheHost(t *testing.T) {
	for at := range 6 {
		for _, number := range []api.Errno{1, 2, 85, 100, 102, 103, 104, 105, 106, 107, 999, -1, math.MaxInt, math.MinInt} {
			ran, e, asked := wantRun(t, "all", lines(t, asksAll()...), ordinary(10000), refusing(at, number))
			if at == 5 { // there is no such question
				wantErr(t, "all", e, api.OK)
				continue
			}
			if ran != (api.Ran{}) || e != number || len(asked) != at+1 {
				t.Errorf("%d at question %d: %v, %d, asked %q", int(number), at, ran, int(e), asked)
			}
		}
	}
}

// nested is a host that runs a program at each question, with another such host for it.
type nested struct {
	desk
	run   func(code []byte, call api.Call, host Host) (api.Ran, api.Errno)
	code  []byte
	depth int
	notes *[]string
}

func (n *nested) inner() (api.Wide, api.Errno) {
	if n.depth == 0 {
		return of(1), api.OK
	}
	call := ordinary(1000 * n.depth)
	call.Args = []api.Wide{of(uint64(n.depth))}
	below := *n
	below.depth--
	ran, e := n.run(n.code, call, &below)
	*n.notes = append(*n.notes, fmt.Sprint(n.depth, ran, e))
	return ran.Value, e
}

func (n *nested) Load(api.Wide) (api.Wide, api.Errno) { return n.inner() }
func (n *nested) Save(api.Wide, api.Wide) api.Errno   { _, e := n.inner(); return e }

func TestP10_6_AHostThatRunsProgramsMeanwhile(t *testing.T) {
	code := lines(t, "arg 0", "push 2", "load", "push 3", "load", "add", "add", "push 1", "dup 1", "save", "done")
	notes := [2][]string{}
	var rans [2]api.Ran
	for i, run := range []func([]byte, api.Call, Host) (api.Ran, api.Errno){Run, runSaid} {
		host := &nested{run: run, code: code, depth: 4, notes: &notes[i]}
		ran, e := run(code, ordinary(5000), host)
		wantErr(t, "nested", e, api.OK)
		rans[i] = ran
	}
	if rans[0] != rans[1] || !slices.Equal(notes[0], notes[1]) || len(notes[0]) != 3+9+27+81 {
		t.Errorf("%v and %v, %d and %d notes", rans[0], rans[1], len(notes[0]), len(notes[1]))
	}
	// The one outside goes by its own gas: inside there was less than it needs.
	deep := &nested{run: Run, code: lines(t, "L:", "jump L"), depth: 1, notes: new([]string)}
	if _, e := Run(code, ordinary(5000), deep); e != api.ErrMachineGas {
		t.Errorf("an inner run's error: %d", int(e))
	}
}

// meddler is a host that writes into what Run was given.
type meddler struct {
	desk
	meddle func()
}

func (m *meddler) Load(slot api.Wide) (api.Wide, api.Errno) {
	m.meddle()
	return m.desk.Load(slot)
}

func TestP10_6_AHostThatWritesIntoWhatWasHandedIn(t *testing.T) {
	text := append([]string{"push 5", "load", "pop", "jump on", "on:", "arg 1"}, asksAll()[:13]...)
	text = append(text, "arg 0", "arg 1", "add", "args", "add", "done")
	was, call := lines(t, text...), ordinary(10000)
	wanted, e, asked := wantRun(t, "alone", was, call, plain)
	wantErr(t, "alone", e, api.OK)
	for _, fill := range []byte{0, 2, 14, 255} {
		code, args := slices.Clone(was), slices.Clone(call.Args)
		m := &meddler{desk: desk{answer: plain}}
		m.meddle = func() {
			for i := range code {
				code[i] = fill
			}
			clear(args)
		}
		meddled := call
		meddled.Args = args
		if ran, e := Run(code, meddled, m); ran != wanted || e != api.OK || !slices.Equal(m.asked, asked) {
			t.Errorf("meddled with %d: %v, %d, asked %q", fill, ran, int(e), m.asked)
		}
	}
}

func TestP10_5_GasUsed(t *testing.T) {
	code := lines(t, asksAll()...)
	used := 1 + 200 + 1 + 1 + 200 + 1 + 2 + 200 + 1 + 2 + 1 + 500 + 1 + 200 + 1 + 1 + 1
	for _, gas := range []int{used, used + 1, 9999, 10000} {
		ran, e, _ := wantRun(t, "all", code, ordinary(gas), plain)
		if e != api.OK || ran != (api.Ran{Value: of(9), Gas: used}) {
			t.Errorf("with %d: %v, %d", gas, ran, int(e))
		}
	}
	for gas := 1; gas < used; gas++ {
		ran, e, _ := wantRun(t, "all", code, ordinary(gas), plain)
		if e != api.ErrMachineGas || ran != (api.Ran{}) {
			t.Errorf("with %d: %v, %d", gas, ran, int(e))
		}
	}
	for _, x := range []struct {
		text []string
		e    api.Errno
	}{{[]string{"push 1", "stop"}, 105}, {[]string{"push 1", "pop", "pop"}, 103}, {[]string{"push 1"}, 106}, {[]string{"push 1", "dup 0", "add", "push 5", "sub"}, 104}} {
		ran, e, _ := wantRun(t, fmt.Sprint(x.text), lines(t, x.text...), ordinary(100), plain)
		if ran != (api.Ran{}) || e != x.e {
			t.Errorf("%v: %v, %d", x.text, ran, int(e))
		}
	}
	wantValue(t, ordinary(10000), of(10000-2), "gas", "done")
	wantValue(t, ordinary(3), of(1), "gas", "done")
	wantEnd(t, ordinary(2), 102, "gas", "done")
}

// The same from many goroutines at once.
func TestP10_6_SideBySide(t *testing.T) {
	code := lines(t, asksAll()...)
	text := strings.Join(asksAll(), "\n")
	wanted, _ := runSaid(code, ordinary(2000), &desk{answer: plain})
	var wait sync.WaitGroup
	for range 8 {
		wait.Go(func() {
			for range 50 {
				if ran, e := Run(code, ordinary(2000), &desk{answer: plain}); ran != wanted || e != api.OK {
					t.Errorf("side by side: %v, %d", ran, int(e))
				}
				if b, _, _ := Assemble(text); !bytes.Equal(b, code) {
					t.Errorf("side by side: %v", b)
				}
			}
		})
	}
	wait.Wait()
}

func TestP10_7_EveryInstruction(t *testing.T) {
	for code, line := range theTable {
		b := lines(t, "X:", sampleOf(code))
		wanted := sampleOf(code) + "\n"
		if line.operand == "a place" {
			wanted = "L0:\n" + line.name + " L0\n"
		}
		if text, e := Text(b); text != wanted || e != api.OK {
			t.Errorf("%s: %q, %d", line.name, text, int(e))
		}
	}
	for n := range 256 {
		if text, _ := Text([]byte{16, byte(n)}); text != fmt.Sprintf("arg %d\n", n) {
			t.Errorf("arg %d: %q", n, text)
		}
	}
	for k := 1; k <= 32; k++ {
		for _, b := range []byte{0, 1, 0xff} {
			push := append([]byte{2, byte(k)}, bytes.Repeat([]byte{b}, k)...)
			if text, _ := Text(push); text != fmt.Sprintf("push %v\n", new(big.Int).SetBytes(push[2:])) {
				t.Errorf("push of %d bytes: %q", k, text)
			}
		}
	}
}

func TestP10_7_Labels(t *testing.T) {
	for _, x := range []struct {
		code []byte
		text string
	}{
		{[]byte{14, 0, 0, 4, 3}, "L0:\njump L0\ndup 3\n"},
		{[]byte{14, 0, 3, 15, 0, 0, 14, 0, 3}, "L0:\njump L3\nL3:\nwhen L0\njump L3\n"},
		{[]byte{15, 0, 5, 16, 9, 0}, "when L5\narg 9\nL5:\nstop\n"},
		{append([]byte{14, 3, 255}, make([]byte, 1021)...), "jump L1023\n" + strings.Repeat("stop\n", 1020) + "L1023:\nstop\n"},
	} {
		if text, e := Text(x.code); text != x.text || e != api.OK {
			t.Errorf("Text(%.20v): %.200q, %d, not %.200q", x.code, text, int(e), x.text)
		}
	}
	for _, code := range [][]byte{nil, {}, {28}, {14, 0, 1}, {2, 0}, make([]byte, 1025)} {
		if text, e := Text(code); text != "" || e != api.ErrMachineCode {
			t.Errorf("Text(%.20v): %q, %d", code, text, int(e))
		}
	}
}

func TestP10_8_BlanksAndRemarks(t *testing.T) {
	for _, text := range []string{"push 7\ndone", "push 7\ndone\n", "push 7\n\n\ndone\n\n\n", "  push\t \t7 \n\tdone\t", "push 7#\ndone#done", "# a remark\npush 7 # another\n#\n # \ndone", "\npush 7\ndone ##",
		"push 7\ndone # \x00\xff\r é", "push 7#8\ndone", "a:\npush 7\nb: # here\ndone\nc:", "push 7\n#done\ndone", "\t\t\n \npush 7\ndone\n \t"} {
		wantCode(t, text, 2, 1, 7, 1)
	}
	for text, line := range map[string]int{"push 7\r\ndone": 1, "push 7\ndone\r": 2, "push 7\n\r\ndone": 2, "push\v7": 1, "push\f7": 1, "push\u00a07": 1, "push 7\x00": 1, "\x00": 1, "\ufeffpush 7": 1, "done\n\u2028": 2, "push\r7": 1, "\xffdone": 1, "done\xff": 1,
		"push # 7": 1, "pu#sh 7": 1, "push 7, done": 1, "push 7; done": 1, "// no": 1, "push 7 // no": 1, "\n\n\nx": 4, "\n\n\nx\n\n": 4} {
		wantLine(t, text, line, api.ErrMachineText)
	}
}

func TestP10_8_NamesAndTheirWords(t *testing.T) {
	for code, line := range theTable {
		right := "X:\n" + sampleOf(code)
		if _, _, e := wantAssemble(t, right); e != api.OK {
			t.Errorf("%s: %d", right, int(e))
		}
		wrong := []string{strings.ToUpper(sampleOf(code)), sampleOf(code) + " 1", sampleOf(code) + " X", line.name + "x", "x" + line.name, line.name[:len(line.name)-1] + "q", sampleOf(code) + " + #", line.name + ": X", line.name + " :", line.name + " 1 1", line.name + "2", line.name + " X:"}
		if line.operand == "" {
			wrong = append(wrong, line.name+" 0")
		} else {
			wrong = append(wrong, line.name, line.name+" ", line.name+" # 2")
		}
		for _, text := range wrong {
			wantLine(t, "X:\n"+text+"\nstop", 2, api.ErrMachineText)
		}
	}
	for _, text := range []string{"nothing", "0", "7", ":", "::", "_:", "1:", "stop stop", "stop:stop", "X :", ": X", "push 1 done"} {
		wantLine(t, text, 1, api.ErrMachineText)
	}
}

func TestP10_8_Numbers(t *testing.T) {
	most := new(big.Int).Sub(twoTo(256), big.NewInt(1))
	for bits := range uint(257) {
		for _, by := range []int64{-1, 0, 1} {
			n := new(big.Int).Add(twoTo(bits), big.NewInt(by))
			if n.Cmp(most) > 0 {
				wantLine(t, "push "+n.String(), 1, api.ErrMachineText)
				continue
			}
			b := n.Bytes()
			if len(b) == 0 {
				b = []byte{0}
			}
			wantCode(t, "push "+n.String(), append([]byte{2, byte(len(b))}, b...)...)
			wantLine(t, "push 0"+n.String(), 1, api.ErrMachineText)
		}
	}
	for _, word := range []string{"", "-1", "+1", "-0", "00", "007", "1e3", "0x10", "1_000", "1.0", "ten", strings.Repeat("9", 78), strings.Repeat("9", 79), strings.Repeat("9", 5000), strings.Repeat("0", 5000), "１", "L", "1L"} {
		wantLine(t, "push "+word, 1, api.ErrMachineText)
	}
	for _, x := range []struct {
		name        string
		code        byte
		least, most int
	}{{"dup", 4, 0, 15}, {"swap", 5, 1, 15}, {"arg", 16, 0, 255}} {
		for n := range 300 {
			text := fmt.Sprint(x.name, " ", n)
			if n < x.least || n > x.most {
				wantLine(t, text, 1, api.ErrMachineText)
			} else {
				wantCode(t, text, x.code, byte(n))
			}
			wantLine(t, fmt.Sprint(x.name, " 0", n), 1, api.ErrMachineText)
		}
		for _, word := range []string{"-1", "+1", "-0", "00", "257", "65536", "65537", "4294967297", "18446744073709551617", twoTo(64).String(), twoTo(128).String(), most.String(), twoTo(256).String(), strings.Repeat("1", 200), "x", "1x", "0x1"} {
			wantLine(t, x.name+" "+word, 1, api.ErrMachineText)
		}
	}
}

func TestP10_8_Labels(t *testing.T) {
	long := "Abcdefghijklmnopqrstuvwxyz_012" // 30 bytes
	for _, name := range []string{"a", "z", "A", "Z", "m", "a0", "a9", "a_", "aA_9z", long, "push", "stop", "L0", "L00", "jump", "Done"} {
		wantCode(t, "stop\n"+name+":\njump "+name, 0, 14, 0, 1)
		wantCode(t, "stop\n"+name+":\nwhen "+name, 0, 15, 0, 1)
		wantCode(t, name+":\nstop", 0)
	}
	for _, name := range []string{"", "0", "0a", "_a", "_", "a-b", "a.b", "a:", "a:b", long + "3", long + long, "é", "aé", "a\xff", "a\x00", "[", "`", "@", "{", "/", "a[", "a`", "a@", "a{", "a/", "a b", "a\tb", "a\rb", "a "} {
		wantLine(t, name+":\nstop", 1, api.ErrMachineText)
		if !strings.HasSuffix(name, " ") {
			wantLine(t, "stop\njump "+name, 2, api.ErrMachineText)
			wantLine(t, "stop\nwhen "+name, 2, api.ErrMachineText)
		}
	}
	wantLine(t, "a:\nstop\na:", 3, api.ErrMachineText)
	wantLine(t, "a:\na:\nstop", 2, api.ErrMachineText)
	wantLine(t, "a:\nb:\nstop\nc:\nb:\na:", 5, api.ErrMachineText)
	wantCode(t, "a:\nA:\njump a\njump A", 14, 0, 0, 14, 0, 0)
	wantCode(t, "a:\nb:\nc:\njump b\nd:\nwhen d", 14, 0, 0, 15, 0, 3)
	wantCode(t, "jump b\na:\njump a\nb:\njump b", 14, 0, 6, 14, 0, 3, 14, 0, 6)
	wantCode(t, "stop\nend:", 0)
	wantCode(t, "stop\nend:\nother:", 0)
	wantLine(t, "jump end\nend:", 0, api.ErrMachineCode)
	wantLine(t, "stop\nwhen end\nend:\n", 0, api.ErrMachineCode)
	wantLine(t, "a:\njump a\njump b\nb:", 0, api.ErrMachineCode)
	wantCode(t, "jump end\nend:\nstop", 14, 0, 3, 0)
}

// Labels ahead of each instruction, and jumps to each.
func TestP10_8_LabelsAheadOfEachPlace(t *testing.T) {
	var text []string
	for code, line := range theTable {
		text = append(text, fmt.Sprint("at", code, ":"), strings.Replace(sampleOf(code), "X", "at0", 1), "when at"+fmt.Sprint((code*5)%28), line.name+"_:")
	}
	wantAssemble(t, strings.Join(text, "\n"))
	code, line, e := Assemble(strings.Join(text, "\n"))
	if line != 0 || e != api.OK {
		t.Fatalf("line %d, %d", line, int(e))
	}
	wantThereAndBack(t, code)
}

func TestP10_8_WhichLineIsTold(t *testing.T) {
	for _, x := range []struct {
		text string
		line int
		e    api.Errno
	}{
		{"jump q\nnothing", 2, 107}, {"nothing\njump q", 1, 107}, {"jump q\njump r", 1, 107}, {"stop\njump r\njump q\nr:", 3, 107},
		{"jump q\na:\na:", 3, 107}, {"a:\njump q\na:\nnothing", 3, 107}, {"a:\njump q\nnothing\na:", 3, 107}, {"jump q\njump 5", 2, 107}, {"jump q\njump q:", 2, 107},
		{"jump q\nwhen r\nq:", 2, 107}, {"when r\njump q\nq:", 1, 107}, {"jump end\nend:\njump q", 3, 107}, {"jump end\nend:\nend:", 3, 107}, {"jump end\nend:\nnothing", 3, 107},
		{"jump q\n" + strings.Repeat("stop\n", 2000), 1, 107}, {strings.Repeat("stop\n", 2000) + "nothing", 2001, 107}, {strings.Repeat("stop\n", 2000), 0, 100},
		{"\n\n# \njump q\n", 4, 107}, {"", 0, 100}, {"\n", 0, 100}, {"#", 0, 100}, {"a:", 0, 100}, {"a:\na:", 2, 107}, {" ", 0, 100},
		{"stop\n" + strings.Repeat(" ", 65531), 0, 0}, {"stop\n" + strings.Repeat(" ", 65532), 0, 107},
	} {
		if _, line, e := wantAssemble(t, x.text); line != x.line || e != x.e {
			t.Errorf("%.60q: %d, %d, not %d, %d", x.text, line, int(e), x.line, int(x.e))
		}
	}
}

// someLines are right lines and wrong ones.
func someLines() []string {
	list := []string{"", "#", " # x", "a:", "b:", "c :", "a: b", "jump a", "jump b", "when b", "when c", "jump", "jump a b", "jump 1", "push 0", "push 01", "push", "push a", "dup 0", "dup 16", "swap 0", "swap 1", "arg 255", "arg 256", "stop", "stop 1", "done", "nothing", "push 300\t# x", "\tdone", "done\r"}
	return list
}

func TestP10_8_LinesInEveryOrder(t *testing.T) {
	list := someLines()
	for _, a := range list {
		wantAssemble(t, a)
		for _, b := range list {
			wantAssemble(t, a+"\n"+b)
			for _, c := range list {
				wantAssemble(t, a+"\n"+b+"\n"+c+"\n")
			}
		}
	}
}

func TestP10_8_HowLongATextMayBe(t *testing.T) {
	remark := "stop\n#" + strings.Repeat("x", 65530)
	if len(remark) != 65536 {
		t.Fatalf("%d bytes", len(remark))
	}
	wantCode(t, remark, 0)
	wantLine(t, remark+"x", 0, api.ErrMachineText)
	wantLine(t, remark+"\n", 0, api.ErrMachineText)
	wantLine(t, "nothing\n"+remark, 0, api.ErrMachineText)
	wantLine(t, strings.Repeat("\n", 65536), 0, api.ErrMachineCode)
	wantLine(t, strings.Repeat("\n", 65537), 0, api.ErrMachineText)
	wantLine(t, strings.Repeat("\n", 65535)+"x", 65536, api.ErrMachineText)
	wantLine(t, strings.Repeat("x", 65536), 1, api.ErrMachineText)
	wantLine(t, strings.Repeat("push 1\n", 9362), 0, api.ErrMachineCode)
	wantLine(t, strings.Repeat("push 65536\n", 5950)+"L:\njump L", 0, api.ErrMachineCode)
	wantCode(t, strings.Repeat("stop\n", 1024), make([]byte, 1024)...)
	wantLine(t, strings.Repeat("stop\n", 1025), 0, api.ErrMachineCode)
	wantCode(t, "jump X\n"+strings.Repeat("stop\n", 1020)+"X:\nstop", append([]byte{14, 3, 255}, make([]byte, 1021)...)...)
	wantLine(t, "jump X\n"+strings.Repeat("stop\n", 1021)+"X:", 0, api.ErrMachineCode)
	wantLine(t, "jump X\n"+strings.Repeat("stop\n", 1021)+"X:\nstop", 0, api.ErrMachineCode)
	wantCode(t, "jump X\n"+strings.Repeat("stop\n", 253)+"X:\nstop", append([]byte{14, 1, 0}, make([]byte, 254)...)...)
}

// guarded is a list with room behind it that nobody may write into.
func guarded[T comparable](list []T, with T) ([]T, func() bool) {
	room := append(slices.Clone(list), slices.Repeat([]T{with}, 40)...)
	was := slices.Clone(room)
	return room[:len(list)], func() bool { return slices.Equal(room, was) }
}

func TestR4_WhatIsHandedInStays(t *testing.T) {
	for _, text := range [][]string{asksAll(), {"X:", "arg 0", "push 5", "add", "pop", "jump X"}, {"stop"}} {
		code, codeStays := guarded(lines(t, text...), 0xee)
		args, argsStay := guarded(ordinary(1).Args, of(99))
		call := ordinary(5000)
		call.Args = args
		Check(code)
		Text(code)
		Run(code, call, &desk{answer: plain})
		call.Gas = 0
		Run(code, call, &desk{answer: plain})
		if !codeStays() || !argsStay() {
			t.Errorf("%v: what was handed in was written into", text)
		}
	}
}

func TestR4_WhatIsAnsweredIsNew(t *testing.T) {
	text := strings.Join(asksAll(), "\n")
	one, _, _ := Assemble(text)
	was := slices.Clone(one)
	two, _, _ := Assemble(text)
	for i := range one[:cap(one)] {
		one[:cap(one)][i] = 0xee
	}
	three, _, _ := Assemble(text)
	if !bytes.Equal(two, was) || !bytes.Equal(three, was) {
		t.Errorf("what was answered is shared")
	}
}

func TestR4_NilAndEmpty(t *testing.T) {
	code := lines(t, "args", "arg 0", "add", "done")
	for _, args := range [][]api.Wide{nil, {}} {
		call := ordinary(100)
		call.Args = args
		if ran, e := Run(code, call, &desk{answer: plain}); ran != (api.Ran{Gas: 7}) || e != api.OK {
			t.Errorf("no arguments: %v, %d", ran, int(e))
		}
	}
	for _, none := range [][]byte{nil, {}} {
		if _, e := Run(none, ordinary(100), &desk{answer: plain}); e != api.ErrMachineCode {
			t.Errorf("no code: %d", int(e))
		}
	}
}

package machine

import (
	"bytes"
	"fmt"
	"math/big"
	"math/rand"
	"slices"
	"strings"
	"testing"

	"causeway/api"
)

// drawnNumber is a number by chance: small ones, edges, any.
func drawnNumber(r *rand.Rand) *big.Int {
	switch r.Intn(6) {
	case 0:
		return edges()[r.Intn(len(edges()))]
	case 1:
		return new(big.Int).Rand(r, twoTo(uint(1+r.Intn(256))))
	}
	return big.NewInt(int64(r.Intn(70)))
}

// pushOf is a push of a number, with noughts ahead of it now and then.
func pushOf(r *rand.Rand, n *big.Int, short bool) []byte {
	b := n.Bytes()
	if len(b) == 0 {
		b = []byte{0}
	}
	if !short && r.Intn(3) == 0 {
		b = append(make([]byte, r.Intn(33-len(b))), b...)
	}
	return append([]byte{2, byte(len(b))}, b...)
}

// drawnStep is an instruction for a stack of about that height; a jump's place is drawn later.
func drawnStep(r *rand.Rand, height int, short bool) []byte {
	for {
		c := byte(r.Intn(28))
		line := theTable[c]
		switch {
		case c <= 1 && r.Intn(12) > 0, c >= 24 && r.Intn(3) > 0:
			continue
		case height < line.takes && r.Intn(40) > 0:
			c = 2
		}
		switch theTable[c].operand {
		case "k and k bytes":
			return pushOf(r, drawnNumber(r), short)
		case "a place":
			return []byte{c, 0, 0}
		case "0 to 15", "1 to 15":
			n := 1 + r.Intn(15)
			if r.Intn(30) > 0 {
				n = max(1, min(n, height-1))
			}
			return []byte{c, byte(n)}
		case "0 to 255":
			return []byte{c, byte(r.Intn(10))}
		}
		return []byte{c}
	}
}

// drawnProgram is a program by chance of at most so many bytes.
func drawnProgram(r *rand.Rand, most int, short bool) []byte {
	var code []byte
	var places []int
	height := 0
	for {
		step := drawnStep(r, height, short)
		if len(code)+len(step) > most {
			break
		}
		places = append(places, len(code))
		code = append(code, step...)
		height = max(0, height+theTable[step[0]].leaves-theTable[step[0]].takes)
	}
	for i, at := range places {
		if theTable[code[at]].operand == "a place" {
			to := places[r.Intn(len(places))]
			if r.Intn(4) > 0 { // mostly a little ahead, so that runs go far
				to = places[min(len(places)-1, i+1+r.Intn(6))]
			}
			code[at+1], code[at+2] = byte(to>>8), byte(to)
		}
	}
	return code
}

func drawnCall(r *rand.Rand) api.Call {
	call := api.Call{Token: r.Intn(64), Amount: wideOf(drawnNumber(r)), Time: r.Intn(1<<62 + 1), Gas: 1 + r.Intn(10000)}
	r.Read(call.Self[:])
	r.Read(call.Caller[:])
	for range r.Intn(9) {
		call.Args = append(call.Args, wideOf(drawnNumber(r)))
	}
	return call
}

// drawnAnswers is how a host answers, by chance: it refuses now and then.
func drawnAnswers(seed int64) func(int) told {
	return func(n int) told {
		r := rand.New(rand.NewSource(seed*1000 + int64(n)))
		if r.Intn(25) == 0 {
			return told{of(5), api.Errno(r.Intn(250))}
		}
		return told{value: wideOf(drawnNumber(r))}
	}
}

// wantThereAndBack: of a program Text and Assemble give one that does the same.
func wantThereAndBack(t testing.TB, code []byte) []byte {
	t.Helper()
	text, e := Text(code)
	if wanted, _ := textSaid(code); text != wanted || e != api.OK {
		t.Fatalf("Text(%v): %q, %d, not %q", code, text, int(e), wanted)
	}
	back, line, e := Assemble(text)
	if line != 0 || e != api.OK || len(back) > len(code) {
		t.Fatalf("Assemble(%q): line %d, %d, %d bytes of %d", text, line, int(e), len(back), len(code))
	}
	if again, e := Text(back); e != api.OK || stripped(again) != stripped(text) {
		t.Fatalf("Text again: %q, %d, not %q", again, int(e), text)
	}
	return back
}

// stripped is a text without the numbers of its labels, which are others where a push was longer than it need be.
func stripped(text string) string {
	var out []string
	for _, line := range strings.Split(text, "\n") {
		word, _, _ := strings.Cut(line, " L")
		if strings.HasPrefix(line, "L") {
			word = "L"
		}
		out = append(out, word)
	}
	return strings.Join(out, "\n")
}

func TestP10_3To6_LongPrograms(t *testing.T) {
	count := 6000
	if testing.Short() {
		count = 600
	}
	ends, steps := map[api.Errno]int{}, map[string]int{}
	for seed := range count {
		r := rand.New(rand.NewSource(int64(seed)))
		code, call, answers := drawnProgram(r, 1+r.Intn(1024), false), drawnCall(r), drawnAnswers(int64(seed))
		if len(code) == 0 {
			continue
		}
		wantErr(t, "Check", Check(code), api.OK)
		_, e, _ := wantRun(t, fmt.Sprint("seed ", seed), code, call, answers)
		_, _, did := runSaidSteps(code, call, &desk{answer: answers})
		ends[e]++
		sum := 0
		for name, n := range did {
			steps[name] += n
			sum += n
		}
		if sum > call.Gas {
			t.Errorf("seed %d: %d steps with %d gas", seed, sum, call.Gas)
		}
		if t.Failed() {
			t.FailNow()
		}
	}
	if testing.Short() {
		return
	}
	for _, e := range []api.Errno{0, 102, 103, 104, 105, 106} {
		if ends[e] < 10 {
			t.Errorf("%d ends with %d", ends[e], int(e))
		}
	}
	for _, line := range theTable {
		if line.name != "stop" && steps[line.name] < 10 {
			t.Errorf("%s was done %d times", line.name, steps[line.name])
		}
	}
}

func TestP10_9_ThereAndBack(t *testing.T) {
	count := 3000
	if testing.Short() {
		count = 300
	}
	same := 0
	for seed := range count {
		r := rand.New(rand.NewSource(int64(10000 + seed)))
		short := seed%2 == 0
		code := drawnProgram(r, 3+r.Intn(1022), short)
		if len(code) == 0 {
			continue
		}
		back := wantThereAndBack(t, code)
		if short && !bytes.Equal(back, code) {
			t.Fatalf("seed %d: %v came back as %v", seed, code, back)
		}
		if bytes.Equal(back, code) {
			same++
		}
		wantAlike(t, r, code, back)
		if t.Failed() {
			t.FailNow()
		}
	}
	if same == count {
		t.Errorf("each program came back as it was: none had a push that was too long")
	}
}

// wantAlike runs two programs, by some calls: they ask and answer the same.
func wantAlike(t testing.TB, r *rand.Rand, a, b []byte) {
	t.Helper()
	for range 3 {
		call, answers := drawnCall(r), drawnAnswers(r.Int63n(1<<40))
		one, two := &desk{answer: answers}, &desk{answer: answers}
		ranA, eA := Run(a, call, one)
		ranB, eB := Run(b, call, two)
		if ranA != ranB || eA != eB || !slices.Equal(one.asked, two.asked) {
			t.Errorf("%v, %d, %q; but %v, %d, %q", ranA, int(eA), one.asked, ranB, int(eB), two.asked)
		}
	}
}

// Every number of bytes that a push may have for one number comes back as the least.
func TestP10_9_PushesOfEveryLength(t *testing.T) {
	for k := 1; k <= 32; k++ {
		for _, n := range []int64{0, 1, 255, 256, 65536} {
			number := big.NewInt(n)
			if len(number.Bytes()) > k {
				continue
			}
			code := append([]byte{2, byte(k)}, number.FillBytes(make([]byte, k))...)
			code = append(code, 1)
			back := wantThereAndBack(t, code)
			least := max(1, len(number.Bytes()))
			if int(back[1]) != least || len(back) != 3+least || bytes.Equal(back, code) != (k == least) {
				t.Errorf("push %d in %d bytes came back as %v", n, k, back)
			}
			ran, e, _ := wantRun(t, "a push", code, ordinary(10), plain)
			if ran.Value != wideOf(number) || e != api.OK {
				t.Errorf("push %d in %d bytes: %v, %d", n, k, ran, int(e))
			}
		}
	}
}

// A long push ahead of a jump's goal: the goal comes nearer.
func TestP10_9_PlacesMove(t *testing.T) {
	code := append([]byte{14, 0, 37, 2, 32}, make([]byte, 32)...)
	code = append(code, 2, 2, 0, 6, 1, 14, 0, 3)
	wantCheck(t, "moving", code, 0)
	back := wantThereAndBack(t, code)
	if wanted := []byte{14, 0, 6, 2, 1, 0, 2, 1, 6, 1, 14, 0, 3}; !bytes.Equal(back, wanted) {
		t.Errorf("%v, not %v", back, wanted)
	}
	wantAlike(t, rand.New(rand.NewSource(1)), code, back)
}

// Lines by chance, of right words more often than not.
func TestP10_8_LongTexts(t *testing.T) {
	count := 4000
	if testing.Short() {
		count = 400
	}
	ends := map[api.Errno]int{}
	for seed := range count {
		r := rand.New(rand.NewSource(int64(seed)))
		_, _, e := wantAssemble(t, drawnText(r))
		ends[e]++
		if t.Failed() {
			t.FailNow()
		}
	}
	for _, e := range []api.Errno{0, 100, 107} {
		if ends[e] < 40 && !testing.Short() {
			t.Errorf("%d texts end with %d", ends[e], int(e))
		}
	}
}

func drawnText(r *rand.Rand) string {
	var text []string
	faults := r.Intn(3)
	labels := 0
	for range 1 + r.Intn(120) {
		line := ""
		switch x := r.Intn(20); {
		case x == 0:
			line = "# " + fmt.Sprint(r.Intn(9))
		case x == 1:
			line = []string{"", " ", "\t"}[r.Intn(3)]
		case x < 5:
			line, labels = fmt.Sprint("l", labels, ":"), labels+1
		case x == 5 && faults == 0 && r.Intn(20) == 0:
			line = someLines()[r.Intn(len(someLines()))]
		case x < 8:
			line = fmt.Sprint([]string{"jump", "when"}[r.Intn(2)], " l", r.Intn(max(1, labels+r.Intn(2))))
		default:
			line = strings.Replace(sampleOf(r.Intn(28)), "X", "l0", 1)
		}
		if r.Intn(5) == 0 {
			line = " " + strings.ReplaceAll(line, " ", "\t ") + " # x"
		}
		text = append(text, line)
	}
	if r.Intn(2) == 0 {
		text = append([]string{"l0:"}, slices.DeleteFunc(text, func(line string) bool { return strings.Contains(line, "l0:") })...)
	}
	return strings.Join(text, "\n")
}

// A root, rounded down, by halves: a longer way there, whose end is known.
func TestP10_6_ARoot(t *testing.T) {
	code := lines(t, "push 0", "push 4294967296", // the root is at least the one, and below the other
		"again:", "dup 0", "dup 2", "sub", "push 2", "less", "when out",
		"dup 1", "dup 1", "add", "push 2", "div", "dup 0", "dup 0", "mul", "arg 0", "swap 1", "less", "when lower",
		"swap 2", "pop", "jump again",
		"lower:", "swap 1", "pop", "jump again",
		"out:", "pop", "done")
	for _, n := range []uint64{0, 1, 2, 3, 4, 8, 9, 15, 16, 17, 99, 100, 1 << 40, 1<<40 - 1, 1 << 62, 1<<64 - 1} {
		call := ordinary(10000)
		call.Args = []api.Wide{of(n)}
		ran, e, _ := wantRun(t, "a root", code, call, plain)
		if root := new(big.Int).Sqrt(new(big.Int).SetUint64(n)); e != api.OK || bigOf(ran.Value).Cmp(root) != 0 {
			t.Errorf("the root of %d: %v, %d, not %v", n, bigOf(ran.Value), int(e), root)
		}
	}
}

// FuzzAgainstTheWords takes bytes as a program, as a call, and as lines.
func FuzzAgainstTheWords(f *testing.F) {
	f.Add([]byte{2, 2, 1, 44, 1}, "push 300\ndone", 100, 3, int64(1))
	f.Add([]byte{14, 0, 0}, "L:\njump L", 12, 0, int64(2))
	for seed := range 30 {
		r := rand.New(rand.NewSource(int64(seed)))
		f.Add(drawnProgram(r, 10+r.Intn(200), false), drawnText(r), r.Intn(10002), r.Intn(66)-1, int64(seed))
	}
	f.Fuzz(func(t *testing.T, code []byte, text string, gas, token int, seed int64) {
		call := drawnCall(rand.New(rand.NewSource(seed)))
		call.Gas, call.Token = gas, token
		wantErr(t, "Check", Check(code), checkSaid(code))
		wantRun(t, "bytes", code, call, drawnAnswers(seed))
		if Check(code) == api.OK {
			back := wantThereAndBack(t, code)
			wantAlike(t, rand.New(rand.NewSource(seed)), code, back)
		}
		b, _, e := wantAssemble(t, text)
		if e == api.OK {
			if back := wantThereAndBack(t, b); !bytes.Equal(back, b) {
				t.Errorf("%v came back as %v", b, back)
			}
		}
	})
}

func BenchmarkLoop(b *testing.B) {
	code := lines(b, "push 0", "L:", "push 1", "add", "jump L")
	for b.Loop() {
		Run(code, ordinary(10000), &desk{answer: plain})
	}
}

func BenchmarkCheck(b *testing.B) {
	code := make([]byte, 1024)
	for b.Loop() {
		Check(code)
	}
}

func BenchmarkAssemble(b *testing.B) {
	text := strings.Repeat("# a remark that says nothing\n", 2000) + strings.Repeat("stop\n", 1024)
	for b.Loop() {
		Assemble(text)
	}
}

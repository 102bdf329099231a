package escrow

import (
	"fmt"
	"math/big"
	"math/rand"
	"sync"
	"testing"

	"causeway/api"
)

// drawnToken is mostly one of a few, now and then any, or one that may not be.
func drawnToken(r *rand.Rand) int {
	switch r.Intn(12) {
	case 0:
		return r.Intn(64)
	case 1:
		return outside()[r.Intn(len(outside()))]
	}
	return []int{0, 1, 62, 63}[r.Intn(4)]
}

func drawnIndex(r *rand.Rand) int {
	switch r.Intn(12) {
	case 0:
		return edgeIndices()[r.Intn(len(edgeIndices()))]
	case 1:
		return r.Intn(full)
	}
	return r.Intn(200)
}

// drawnAmount is small, or great, or about what there is of something.
func drawnAmount(r *rand.Rand, there api.Wide) api.Wide {
	switch r.Intn(10) {
	case 0:
		return of(0)
	case 1:
		return greatest()
	case 2:
		return there
	case 3: // just what is missing, or one more
		rest := new(big.Int).Sub(bigOf(greatest()), bigOf(there))
		return wideOf(rest.Add(rest, big.NewInt(int64(r.Intn(2)))))
	case 4: // one more than there is
		return wideOf(bigOf(there).Add(bigOf(there), big.NewInt(1)))
	case 5:
		a := api.Wide{r.Uint64(), r.Uint64(), r.Uint64(), r.Uint64()}
		a[3] >>= r.Intn(64)
		return a
	}
	return of(uint64(r.Intn(9)))
}

// drawnCall is a call of a long script; tokens are listed and deposited more often than they are stopped, so that there is something to pay.
func drawnCall(r *rand.Rand, s *said) call {
	c := call{name: names()[r.Intn(6)], index: drawnIndex(r), token: drawnToken(r), stop: r.Intn(2) == 0}
	if c.name == "Stop" && r.Intn(2) == 0 {
		c.name = "Deposit"
	}
	there := s.heldOf(c.token)
	if c.name == "Lock" || c.name == "Free" {
		there = wideOf(s.locked)
	}
	c.amount = drawnAmount(r, there)
	return c
}

func steps(n int) int {
	if testing.Short() {
		return n / 10
	}
	return n
}

// Long scripts of all calls, now and then over a copy: behind each call all that is told is asked.
func TestP14_7_LongScripts(t *testing.T) {
	for seed := range 8 {
		r := rand.New(rand.NewSource(int64(seed)))
		vaults := []both{newBoth()}
		seen := map[api.Errno]int{}
		for i := range steps(1500) {
			at := r.Intn(len(vaults))
			if r.Intn(60) == 0 {
				next := vaults[at].copied()
				if len(vaults) < 4 {
					vaults = append(vaults, next)
				} else {
					vaults[r.Intn(4)] = next
				}
			}
			c := drawnCall(r, vaults[at].said)
			seen[vaults[at].do(t, fmt.Sprint("script ", seed, ", step ", i), c)]++
			if i%50 == 0 {
				for j, b := range vaults {
					b.wantTold(t, fmt.Sprint("script ", seed, ", behind step ", i, ", vault ", j))
				}
			}
			if t.Failed() {
				return
			}
		}
		for _, e := range []api.Errno{0, 140, 141, 142, 143, 144, 145, 146, 147, 148, 149} {
			if seen[e] == 0 && !testing.Short() {
				t.Errorf("script %d never had the answer %d", seed, int(e))
			}
		}
	}
}

// What is held is what was deposited less what was paid: reckoned from the answers alone.
func TestP14_5_Held(t *testing.T) {
	for seed := range 4 {
		r := rand.New(rand.NewSource(int64(100 + seed)))
		v, s := New(), newSaid() // s only for amounts near what there is
		var sums [64]big.Int
		var locked big.Int
		for i := range steps(4000) {
			c := drawnCall(r, s)
			c.inWords(s)
			if c.inVault(v) == api.OK {
				switch c.name {
				case "Deposit":
					sums[c.token].Add(&sums[c.token], bigOf(c.amount))
				case "Pay":
					sums[c.token].Sub(&sums[c.token], bigOf(c.amount))
				case "Lock":
					locked.Add(&locked, bigOf(c.amount))
				case "Free":
					locked.Sub(&locked, bigOf(c.amount))
				}
			}
			for token := range sums {
				if bigOf(v.Held(token)).Cmp(&sums[token]) != 0 {
					t.Fatalf("seed %d, behind step %d, %v: Held(%d) is %v, not %v", seed, i, c, token, bigOf(v.Held(token)), &sums[token])
				}
			}
			if bigOf(v.Locked()).Cmp(&locked) != 0 {
				t.Fatalf("seed %d, behind step %d, %v: Locked is %v, not %v", seed, i, c, bigOf(v.Locked()), &locked)
			}
		}
	}
}

// Each index is paid once at most, in a vault and in each copy; and once it was paid it stays so.
func TestP14_6_Once(t *testing.T) {
	r := rand.New(rand.NewSource(6))
	type counted struct {
		vault *Vault
		times map[int]int
	}
	first := counted{New(), map[int]int{}}
	for token := range 3 {
		first.vault.List(token)
		first.vault.Deposit(token, greatest())
	}
	vaults := []counted{first}
	for i := range steps(6000) {
		x := vaults[r.Intn(len(vaults))]
		if i%1500 == 700 {
			c := counted{x.vault.Copy(), map[int]int{}}
			for index, n := range x.times {
				c.times[index] = n
			}
			vaults = append(vaults, c)
		}
		index := r.Intn(300)
		if x.vault.Paid(index) != (x.times[index] == 1) {
			t.Fatalf("Paid(%d) is %v, but it was paid %d times", index, x.vault.Paid(index), x.times[index])
		}
		if x.vault.Pay(index, r.Intn(4), of(uint64(r.Intn(3)))) == api.OK {
			x.times[index]++
		}
		if x.times[index] > 1 {
			t.Fatalf("index %d was paid %d times", index, x.times[index])
		}
	}
}

// Many indices that stand side by side are each paid once, and none beside them.
func TestP14_6_SideBySide(t *testing.T) {
	v := New()
	v.List(0)
	for _, base := range []int{0, 1000, 1 << 20, full - 300} {
		for i := range 300 {
			index := base + i
			if (i*i)%3 == 0 {
				continue
			}
			if e := v.Pay(index, 0, of(0)); e != api.OK {
				t.Fatalf("Pay(%d): %d", index, int(e))
			}
			if e := v.Pay(index, 0, of(0)); e != api.ErrEscrowPaid {
				t.Fatalf("Pay(%d) again: %d", index, int(e))
			}
		}
		for i := range 300 {
			if v.Paid(base+i) != ((i*i)%3 != 0) {
				t.Errorf("Paid(%d) is %v", base+i, v.Paid(base+i))
			}
		}
	}
}

// A call over one token turns nothing of another one.
func TestP14_7_OneTokenAndTheOthers(t *testing.T) {
	r := rand.New(rand.NewSource(7))
	b := newBoth()
	for i := range steps(3000) {
		c := drawnCall(r, b.said)
		ahead := tellVault(b.vault, nil)
		c.inVault(b.vault)
		c.inWords(b.said)
		behind := tellVault(b.vault, nil)
		for j, token := range askedTokens() {
			if token == c.token && c.name != "Lock" && c.name != "Free" {
				continue
			}
			if ahead.listed[j] != behind.listed[j] || ahead.stopped[j] != behind.stopped[j] || ahead.held[j] != behind.held[j] {
				t.Fatalf("step %d, %v turned token %d", i, c, token)
			}
		}
	}
}

// Two vaults that are told the same answer the same, whatever was asked between.
func TestR5_SameCallsSameAnswers(t *testing.T) {
	r := rand.New(rand.NewSource(5))
	one, two, s := New(), New(), newSaid()
	for i := range steps(3000) {
		c := drawnCall(r, s)
		c.inWords(s)
		if i%3 == 0 {
			tellVault(two, edgeIndices())
			two.Copy().Lock(of(1))
		}
		if a, b := c.inVault(one), c.inVault(two); a != b {
			t.Fatalf("step %d, %v: %d and %d", i, c, int(a), int(b))
		}
	}
	asked := edgeIndices()
	if text := tellVault(one, asked).differ(tellVault(two, asked), asked); text != "" {
		t.Error(text)
	}
}

// Who asks a vault, or goes on with a copy of it, does not disturb another who does so at the same time.
func TestR5_SideBySide(t *testing.T) {
	b := stuffed(t)
	asked := b.indices()
	wanted := tellWords(b.said, asked)
	var group sync.WaitGroup
	for range 8 {
		group.Go(func() {
			c := b.copied()
			for _, x := range turning() {
				c.do(t, "side by side", x)
				if text := tellVault(b.vault, asked).differ(wanted, asked); text != "" {
					t.Errorf("side by side: %s", text)
				}
			}
		})
	}
	group.Wait()
}

// scriptOf makes calls of bytes: four each say which call, which token, which index and which amount; what there is counts in the amount.
func scriptOf(b both, x []byte) call {
	tokens, indices := append(askedTokens(), 0, 1, 2, 3), edgeIndices()
	c := call{name: names()[int(x[0])%6], token: tokens[int(x[1])%len(tokens)], stop: x[0] >= 128}
	if c.index = int(x[2]); x[2] >= 160 {
		c.index = indices[int(x[2])%len(indices)]
	}
	there := b.said.heldOf(c.token)
	if c.name == "Lock" || c.name == "Free" {
		there = wideOf(b.said.locked)
	}
	switch x[3] >> 6 {
	case 0:
		c.amount[x[3]%4] = uint64(x[3]%64) / 4
	case 1: // about what there is
		n := bigOf(there)
		c.amount = wideOf(n.Add(n, big.NewInt(int64(x[3]%4)-1)).Abs(n))
	case 2: // about what is missing
		n := new(big.Int).Sub(bigOf(greatest()), bigOf(there))
		c.amount = wideOf(n.Add(n, big.NewInt(int64(x[3]%4)-1)).Abs(n))
	default:
		c.amount = less(uint64(x[3] % 64))
	}
	return c
}

func FuzzAgainstTheWords(f *testing.F) {
	f.Add([]byte("\x00\x0c\x00\x00\x02\x0c\x00\x24\x03\x0c\x07\x04\x03\x0c\x07\x04\x80\x0c\x00\x00\x02\x0c\x00\x04"))
	f.Add([]byte("\x04\x00\x00\xc0\x04\x00\x00\x04\x05\x00\x00\x08\x05\x00\x00\xc0\xff\xff\xff\xff"))
	f.Add([]byte("\x00\x4b\x00\x00\x02\x4b\x00\xc0\x03\x4b\xb5\x41\x03\x4b\xb5\x41\x03\x4b\xc0\x42\x06\x00\x00\x00\x03\x4b\xff\x42"))
	f.Fuzz(func(t *testing.T, script []byte) {
		b := newBoth()
		var left []both
		for i := 0; len(script) >= 4 && i < 300; i, script = i+1, script[4:] {
			if script[0] == 6 { // a copy goes on, and the one that it was made of stays
				left = append(left, b)
				b = b.copied()
			}
			b.do(t, "fuzz", scriptOf(b, script))
		}
		for i, one := range left[:min(len(left), 20)] {
			one.wantTold(t, fmt.Sprint("left behind, number ", i))
		}
	})
}

// manyPaid has so many indices paid, as a contract does that pays them one behind the other.
func manyPaid(n int) *Vault {
	v := New()
	v.List(0)
	v.Deposit(0, greatest())
	for index := range n {
		v.Pay(index, 0, of(1))
	}
	return v
}

func BenchmarkPay(b *testing.B) {
	v := manyPaid(0)
	index := 0
	for b.Loop() {
		v.Pay(index, 0, of(1))
		index++
	}
}

func BenchmarkCopy(b *testing.B) {
	for _, n := range []int{0, 1000, 100000} {
		b.Run(fmt.Sprint(n), func(b *testing.B) {
			v := manyPaid(n)
			for b.Loop() {
				v.Copy()
			}
		})
	}
}

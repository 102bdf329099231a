package store

import (
	"crypto/sha256"
	"maps"
	"math/big"
	"slices"
	"strings"

	"causeway/api"
)

// The second reckoning: a table is a map of texts, its root and its bytes are worked out each time from all of them, by the words; a state is a row of steps through which each question goes. The limits are written out, not taken from api.

// texts is what a table has.
type texts map[string]string

// ahead tells whether a key is ahead of another, byte by byte.
func ahead(a, b string) bool {
	for i := 0; i < len(a) && i < len(b); i++ {
		if a[i] != b[i] {
			return a[i] < b[i]
		}
	}
	return len(a) < len(b)
}

// sayRising are the keys of a map, each ahead of the next.
func sayRising[V any](m map[string]V) []string {
	return slices.SortedFunc(maps.Keys(m), func(a, b string) int {
		switch {
		case ahead(a, b):
			return -1
		case ahead(b, a):
			return 1
		}
		return 0
	})
}

func sayKey(key string) bool { return 1 <= len(key) && len(key) <= 128 }

func sayCheck(key, value string) api.Errno {
	switch {
	case !sayKey(key):
		return 70
	case len(value) > 4096:
		return 71
	}
	return 0
}

func (x texts) put(key, value string) api.Errno {
	if e := sayCheck(key, value); e != 0 {
		return e
	}
	if value == "" {
		delete(x, key)
	} else {
		x[key] = value
	}
	return 0
}

func (x texts) find(key string) (string, api.Errno) {
	if !sayKey(key) {
		return "", 70
	}
	return x[key], 0
}

func (x texts) apply(changes ...api.Change) api.Errno {
	for _, c := range changes {
		if e := sayCheck(c.Key, string(c.New)); e != 0 {
			return e
		}
	}
	for _, c := range changes {
		x.put(c.Key, string(c.New))
	}
	return 0
}

func sha(parts ...[]byte) api.Digest { return sha256.Sum256(slices.Concat(parts...)) }

// bitsOf are a digest's bits, the highest of its first byte first.
func bitsOf(d api.Digest) string {
	return new(big.Int).SetBytes(append([]byte{1}, d[:]...)).Text(2)[1:]
}

// under is what the map under the root has: by the bits of the key's digest.
func (x texts) under() map[string]api.Bound {
	all := map[string]api.Bound{}
	for _, key := range sayRising(x) {
		at := sha([]byte(key))
		all[bitsOf(at)] = api.Bound{Key: at, Value: sha([]byte(x[key]))}
	}
	return all
}

// sayOver is the digest over the part of a map that begins with some bits.
func sayOver(all map[string]api.Bound, part string) api.Digest {
	within := map[string]api.Bound{}
	for bits, b := range all {
		if strings.HasPrefix(bits, part) {
			within[bits] = b
		}
	}
	switch len(within) {
	case 0:
		return api.Digest{}
	case 1:
		for _, b := range within {
			return sha([]byte{2}, b.Key[:], b.Value[:])
		}
	}
	left, right := sayOver(within, part+"0"), sayOver(within, part+"1")
	return sha([]byte{3}, left[:], right[:])
}

func (x texts) root() api.Digest { return sayOver(x.under(), "") }

// number is a number's form.
func number(n int) []byte {
	digits := big.NewInt(int64(n)).Bytes()
	return append([]byte{byte(len(digits))}, digits...)
}

// framed are bytes with how many they are.
func framed(text string) []byte { return append(number(len(text)), text...) }

// listed are the bytes of any pairs, whether a table tells them so or not.
func listed(pairs ...api.Pair) []byte {
	b := append([]byte{83}, number(len(pairs))...)
	for _, p := range pairs {
		b = append(append(b, framed(p.Key)...), framed(string(p.Value))...)
	}
	return b
}

func (x texts) pairs() []api.Pair {
	var pairs []api.Pair
	for _, key := range sayRising(x) {
		pairs = append(pairs, api.Pair{Key: key, Value: []byte(x[key])})
	}
	return pairs
}

func (x texts) bytes() ([]byte, api.Errno) {
	if b := listed(x.pairs()...); len(b) <= 1<<22 {
		return b, 0
	}
	return nil, 30
}

// cutter cuts forms off bytes; once there were too few, or none of its form, it is bad.
type cutter struct {
	b   []byte
	bad bool
}

func (c *cutter) cut(n int) []byte {
	if c.bad || n < 0 || n > len(c.b) {
		c.bad = true
		return nil
	}
	head := c.b[:n]
	c.b = c.b[n:]
	return head
}

func (c *cutter) number() int {
	k := c.cut(1)
	if c.bad {
		return 0
	}
	x := new(big.Int).SetBytes(c.cut(int(k[0])))
	if len(x.Bytes()) != int(k[0]) || !x.IsInt64() {
		c.bad = true
		return 0
	}
	return int(x.Int64())
}

func (c *cutter) text() string { return string(c.cut(c.number())) }

// sayRead reads bytes as pairs, and takes them, if the table that has these is written so again.
func sayRead(b []byte) (texts, api.Errno) {
	c := &cutter{b: b}
	x := texts{}
	first := c.cut(1)
	n := c.number()
	for i := 0; i < n && !c.bad; i++ {
		key := c.text()
		if value := c.text(); x.put(key, value) != 0 {
			c.bad = true
		}
	}
	again, e := x.bytes()
	if c.bad || first[0] != 83 || len(c.b) > 0 || e != 0 || string(again) != string(b) {
		return nil, 73
	}
	return x, 0
}

// row is a state, as the row of its steps.
type row struct {
	source Source
	told   texts // an empty text, where the source has none
	steps  []api.Pair
	marks  []int
}

func rowOver(source Source) *row { return &row{source: source, told: texts{}} }

func (r *row) ask(key string) api.Errno {
	if _, is := r.told[key]; is {
		return 0
	}
	value, e := r.source.Find(key)
	if e == 0 && len(value) > 4096 {
		e = 71
	}
	if e == 0 {
		r.told[key] = string(value)
	}
	return e
}

// now is the value that was laid last, or what the source has.
func (r *row) now(key string) string {
	for _, s := range slices.Backward(r.steps) {
		if s.Key == key {
			return string(s.Value)
		}
	}
	return r.told[key]
}

func (r *row) get(key string) (string, api.Errno) {
	if !sayKey(key) {
		return "", 70
	}
	if e := r.ask(key); e != 0 {
		return "", e
	}
	return r.now(key), 0
}

func (r *row) put(key, value string) api.Errno {
	if e := sayCheck(key, value); e != 0 {
		return e
	}
	if e := r.ask(key); e != 0 {
		return e
	}
	r.steps = append(r.steps, api.Pair{Key: key, Value: []byte(value)})
	return 0
}

func (r *row) mark() int {
	r.marks = append(r.marks, len(r.steps))
	return len(r.marks) - 1
}

func (r *row) back(mark int) api.Errno {
	if mark < 0 || mark >= len(r.marks) {
		return 72
	}
	r.steps, r.marks = r.steps[:r.marks[mark]], r.marks[:mark+1]
	return 0
}

func (r *row) touched() []string { return sayRising(r.told) }

func (r *row) changes() []api.Change {
	var changes []api.Change
	for _, key := range r.touched() {
		if now := r.now(key); now != r.told[key] {
			changes = append(changes, api.Change{Key: key, Old: []byte(r.told[key]), New: []byte(now)})
		}
	}
	return changes
}

package courier

import (
	"bytes"
	"crypto/sha256"
	"fmt"
	"math/big"
	"reflect"
	"slices"
	"testing"

	"causeway/api"
)

// The second reckoning: by the words of the chapters, over entries that are executed anew, with leaves as bytes and paths that are made here. Errors and stages are written out, not taken from api.

// common is how many first entries two rows have in common.
func common(a, b []api.Entry) int {
	k := 0
	for k < len(a) && k < len(b) && alike(a[k], b[k]) {
		k++
	}
	return k
}

func alike(a, b api.Entry) bool {
	same := bytes.Equal(a.Body, b.Body)
	a.Body, b.Body = nil, nil
	return same && reflect.DeepEqual(a, b)
}

func bigOf(w api.Wide) *big.Int {
	n := new(big.Int)
	for i := 3; i >= 0; i-- {
		n.Add(n.Lsh(n, 64), new(big.Int).SetUint64(w[i]))
	}
	return n
}

// short is a number as bytes: how many, then they, the highest first.
func short(n *big.Int) []byte { return append([]byte{byte(len(n.Bytes()))}, n.Bytes()...) }

// bytesOf is a leaf as bytes.
func bytesOf(l api.Leaf) []byte {
	b := []byte{'L'}
	for _, n := range []int{l.Index, l.Entry, l.Token} {
		b = append(b, short(big.NewInt(int64(n)))...)
	}
	return slices.Concat(b, l.To[:], short(bigOf(l.Amount)))
}

func leafDigest(l api.Leaf) api.Digest {
	return sha256.Sum256(append([]byte{0}, bytesOf(l)...))
}

func nodeDigest(left, right api.Digest) api.Digest {
	return sha256.Sum256(slices.Concat([]byte{1}, left[:], right[:]))
}

// half is the greatest power of two below n.
func half(n int) int {
	k := 1
	for 2*k < n {
		k *= 2
	}
	return k
}

func rootOf(l []api.Leaf) api.Digest {
	switch len(l) {
	case 0:
		return sha256.Sum256(nil)
	case 1:
		return leafDigest(l[0])
	}
	k := half(len(l))
	return nodeDigest(rootOf(l[:k]), rootOf(l[k:]))
}

func pathOf(l []api.Leaf, i int) []api.Digest {
	if len(l) == 1 {
		return nil
	}
	k := half(len(l))
	if i < k {
		return append(pathOf(l[:k], i), rootOf(l[k:]))
	}
	return append(pathOf(l[k:], i-k), rootOf(l[:k]))
}

func (w *world) stage(index int) int {
	if _, is := w.paid[index]; is {
		return 4
	}
	if index < 0 || index >= len(w.side.leaves) {
		return 0
	}
	if index < w.c.Confirmed().Leaves {
		return 3
	}
	for _, p := range w.c.Pending() {
		if index < p.Commit.Leaves {
			return 2
		}
	}
	return 1
}

// refused is why a leaf is not claimed.
func (w *world) refused(index int) api.Errno {
	all, confirmed := w.side.leaves, w.c.Confirmed()
	if _, is := w.paid[index]; is {
		return 222
	}
	if index < 0 || index >= len(all) {
		return 220
	}
	if index >= confirmed.Leaves {
		return 221
	}
	if len(all) < confirmed.Leaves || rootOf(all[:confirmed.Leaves]) != confirmed.Outbox {
		return 223
	}
	return 0
}

func (w *world) claim(by api.Address, index int) (api.Op, api.Errno) {
	if e := w.refused(index); e != 0 {
		return api.Op{}, e
	}
	return api.Op{Kind: 13, By: by, Body: bytesOf(w.side.leaves[index]), Path: pathOf(w.side.leaves[:w.c.Confirmed().Leaves], index)}, 0
}

func (w *world) due() []int {
	var l []int
	for i := range w.side.leaves {
		if w.refused(i) == 0 {
			l = append(l, i)
		}
	}
	return l
}

// payment is what comes of a claim that is told, by the words.
func (w *world) payment(index int) api.Result {
	l := w.side.leaves[index]
	if listed, _ := w.c.Listed(l.Token); !listed {
		return api.Result{Code: 141}
	}
	if bigOf(w.c.Held(l.Token)).Cmp(bigOf(l.Amount)) < 0 {
		return api.Result{Code: 146}
	}
	return api.Result{Pays: []api.Pay{{Why: 1, Token: l.Token, To: l.To, Amount: l.Amount, Index: l.Index}}}
}

// sameOp tells whether two operations are the same, nil and empty lists being one.
func sameOp(a, b api.Op) bool {
	same := bytes.Equal(a.Body, b.Body) && slices.Equal(a.Path, b.Path)
	a.Body, a.Path, b.Body, b.Path = nil, nil, nil, nil
	return same && reflect.DeepEqual(a, b)
}

func sameResult(a, b api.Result) bool {
	return a.Code == b.Code && a.Number == b.Number && slices.Equal(a.Pays, b.Pays)
}

// edges are the indexes at which something may change: about nought, the node's leaves, those that are confirmed and asserted, and far away.
func (w *world) edges() []int {
	l := []int{-1 << 63, -full, -1, 0, 1, full - 1, full, 1<<63 - 1}
	counts := []int{len(w.side.leaves), w.c.Confirmed().Leaves}
	for _, p := range w.c.Pending() {
		counts = append(counts, p.Commit.Leaves)
	}
	for _, n := range counts {
		l = append(l, n-2, n-1, n, n+1)
	}
	for i := range w.paid {
		l = append(l, i)
	}
	slices.Sort(l)
	return slices.Compact(l)
}

// differ tells where the calls answer something else than the words; nothing, if they do not.
func (w *world) differ(by api.Address, indexes ...int) string {
	for _, i := range indexes {
		if got, e := Stage(w.n, w.c, i); got != w.stage(i) || e != 0 {
			return fmt.Sprintf("Stage(%d): %d, %d, not %d", i, got, int(e), w.stage(i))
		}
		got, e := Claim(w.n, w.c, by, i)
		if wanted, f := w.claim(by, i); !sameOp(got, wanted) || e != f {
			return fmt.Sprintf("Claim(%d): %s, %d, not %s, %d", i, textOf(got), int(e), textOf(wanted), int(f))
		}
	}
	if got, e := Due(w.n, w.c); !slices.Equal(got, w.due()) || e != 0 {
		return fmt.Sprintf("Due: %v, %d, not %v", got, int(e), w.due())
	}
	return ""
}

// wantWords holds the calls against the words, at all leaves and all edges.
func (w *world) wantWords(t testing.TB, what string) {
	t.Helper()
	l := w.edges()
	for i := range w.side.leaves {
		l = append(l, i)
	}
	if text := w.differ(bob, l...); text != "" {
		t.Errorf("%s: %s", what, text)
	}
}

// want... hold one call against what is written here, and all of them against the words.

// wantStages wants the stages of the first indexes.
func (w *world) wantStages(t testing.TB, what string, wanted ...int) {
	t.Helper()
	for i, s := range wanted {
		if got, e := Stage(w.n, w.c, i); got != s || e != 0 {
			t.Errorf("%s: Stage(%d): %d, %d, not %d", what, i, got, int(e), s)
		}
	}
	w.wantWords(t, what)
}

// wantStage wants the stage of one index.
func (w *world) wantStage(t testing.TB, what string, index, wanted int) {
	t.Helper()
	if got, e := Stage(w.n, w.c, index); got != wanted || e != 0 {
		t.Errorf("%s: Stage(%d): %d, %d, not %d", what, index, got, int(e), wanted)
	}
}

// wantRefused wants claims of these indexes to be refused.
func (w *world) wantRefused(t testing.TB, what string, code api.Errno, indexes ...int) {
	t.Helper()
	for _, i := range indexes {
		if o, e := Claim(w.n, w.c, dan, i); e != code || !reflect.DeepEqual(o, api.Op{}) {
			t.Errorf("%s: Claim(%d): %s, %d, not %d", what, i, textOf(o), int(e), int(code))
		}
	}
	w.wantWords(t, what)
}

// wantDue wants just these indexes to be due.
func (w *world) wantDue(t testing.TB, what string, wanted ...int) {
	t.Helper()
	if got, e := Due(w.n, w.c); !slices.Equal(got, wanted) || e != 0 {
		t.Errorf("%s: Due: %v, %d, not %v", what, got, int(e), wanted)
	}
	w.wantWords(t, what)
}

// wantClaim lets a claim that must be told be done at a time: P22.4.
func (w *world) wantClaim(t testing.TB, what string, by api.Address, now, index int) api.Result {
	t.Helper()
	o, e := Claim(w.n, w.c, by, index)
	if wanted, f := w.claim(by, index); !sameOp(o, wanted) || e != 0 || f != 0 {
		t.Fatalf("%s: Claim(%d): %s, %d, not %s, %d", what, index, textOf(o), int(e), textOf(wanted), int(f))
	}
	wanted, ahead := w.payment(index), tell(w.c)
	r := w.try(now, o)
	if !sameResult(r, wanted) {
		t.Errorf("%s: the claim of %d: %+v, not %+v", what, index, r, wanted)
	}
	if r.Code != 0 {
		if !reflect.DeepEqual(tell(w.c), ahead) {
			t.Errorf("%s: the claim of %d is refused, and the contract has turned", what, index)
		}
		return r
	}
	if _, e := Claim(w.n, w.c, by, index); !w.c.Paid(index) || e != 222 {
		t.Errorf("%s: behind its payment the claim of %d: %d", what, index, int(e))
	}
	w.wantStage(t, what, index, 4)
	return r
}

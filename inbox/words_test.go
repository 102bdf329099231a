package inbox

import (
	"bytes"
	"crypto/sha256"
	"fmt"
	"math"
	"math/big"
	"reflect"
	"slices"

	"causeway/api"
)

// The second reckoning: an entry's bytes are written by the library's great numbers, a link is the library's digest, and a box is a list of entries and of their links that is copied whole whenever it is copied. Errors and limits are written out, not taken from api.

// sayNumber lays a natural as its length in a byte and its bytes, the highest first and no nought ahead.
func sayNumber(text []byte, n *big.Int) []byte {
	b := n.Bytes()
	return append(append(text, byte(len(b))), b...)
}

func sayInt(text []byte, n int) []byte { return sayNumber(text, big.NewInt(int64(n))) }

func sayWide(text []byte, a api.Wide) []byte {
	n := new(big.Int)
	for i := 3; i >= 0; i-- {
		n.Lsh(n, 64).Or(n, new(big.Int).SetUint64(a[i]))
	}
	return sayNumber(text, n)
}

// sayMayBe tells whether values may be an entry.
func sayMayBe(e api.Entry) bool {
	if e.Time < 0 || e.Time > 4611686018427387904 {
		return false
	}
	switch e.Kind {
	case 1:
		return 0 <= e.Token && e.Token <= 63 && e.Amount != api.Wide{} && 0 <= e.Gas && e.Gas <= 1099511627776 && len(e.Body) == 0
	case 2:
		return len(e.Body) <= 4096 && e.Token == 0 && e.To == api.Address{} && e.Amount == api.Wide{} && e.Gas == 0
	}
	return false
}

// sayText is the bytes of an entry that may be.
func sayText(e api.Entry) []byte {
	text := append([]byte{byte(e.Kind)}, e.Sender[:]...)
	text = sayInt(text, e.Time)
	if e.Kind == 2 {
		return append(sayInt(text, len(e.Body)), e.Body...)
	}
	text = append(sayInt(text, e.Token), e.To[:]...)
	return sayInt(sayWide(text, e.Amount), e.Gas)
}

func sayNext(link api.Digest, e api.Entry) (api.Digest, api.Errno) {
	if !sayMayBe(e) {
		return api.Digest{}, 150
	}
	return sha256.Sum256(slices.Concat(link[:], sayText(e))), 0
}

// sayCheck looks for the first fault, and then makes the links.
func sayCheck(from, to api.Digest, entries []api.Entry) api.Errno {
	for i, e := range entries {
		if !sayMayBe(e) {
			return 150
		}
		if i > 0 && e.Time < entries[i-1].Time {
			return 153
		}
	}
	for _, e := range entries {
		from, _ = sayNext(from, e)
	}
	if from != to {
		return 154
	}
	return 0
}

// same tells whether two entries are the same in every field, by the fields' names.
func same(a, b api.Entry) bool {
	x, y := reflect.ValueOf(a), reflect.ValueOf(b)
	for i := range x.NumField() {
		if x.Type().Field(i).Name == "Body" {
			if !bytes.Equal(a.Body, b.Body) {
				return false
			}
		} else if x.Field(i).Interface() != y.Field(i).Interface() {
			return false
		}
	}
	return true
}

// own is an entry that shares nothing with another one.
func own(e api.Entry) api.Entry {
	e.Body = bytes.Clone(e.Body)
	return e
}

// said is what a box is by the words.
type said struct {
	entries []api.Entry
	links   []api.Digest // links[n] is the one behind n entries
}

func newSaid() *said { return &said{links: []api.Digest{{}}} }

func (s *said) copied() *said {
	c := &said{links: slices.Clone(s.links)}
	for _, e := range s.entries {
		c.entries = append(c.entries, own(e))
	}
	return c
}

func (s *said) add(e api.Entry) (int, api.Errno) {
	n := len(s.entries)
	if !sayMayBe(e) {
		return 0, 150
	}
	if n > 0 && e.Time < s.entries[n-1].Time {
		return 0, 153
	}
	link, _ := sayNext(s.links[n], e)
	s.entries, s.links = append(s.entries, own(e)), append(s.links, link)
	return n, 0
}

func (s *said) link(count int) (api.Digest, api.Errno) {
	if count < 0 || count > len(s.entries) {
		return api.Digest{}, 151
	}
	return s.links[count], 0
}

func (s *said) entry(number int) (api.Entry, api.Errno) {
	if number < 0 || number > len(s.entries)-1 {
		return api.Entry{}, 151
	}
	return s.entries[number], 0
}

func (s *said) list(from, to int) ([]api.Entry, api.Errno) {
	if 0 <= from && from <= to && to <= len(s.entries) {
		return s.entries[from:to], 0
	}
	return nil, 151
}

func (s *said) fork(other *said) int {
	n := 0
	for other != nil && n < len(s.entries) && n < len(other.entries) && same(s.entries[n], other.entries[n]) {
		n++
	}
	return n
}

// edges are numbers at which something could turn in a box of so many entries.
func edges(n int) []int {
	l := []int{math.MinInt, math.MinInt + 1, math.MinInt32, -n - 1, -n, -2, -1, 0, 1, 2, n / 2, n - 2, n - 1, n, n + 1, n + 2, 2 * n, 1 << 40, 1<<40 + 1, math.MaxInt32, 1 << 32, 1<<32 + 1, math.MaxInt - 1, math.MaxInt}
	slices.Sort(l)
	return slices.Compact(l)
}

// differ tells where a box tells something else than the words; nothing, if it does not.
func (s *said) differ(b *Box) string {
	n := len(s.entries)
	if b.Len() != n {
		return fmt.Sprintf("Len is %d, not %d", b.Len(), n)
	}
	asked := edges(n)
	for i := range n {
		asked = append(asked, i)
	}
	for _, i := range asked {
		if text := s.differAt(b, i); text != "" {
			return text
		}
	}
	for _, from := range edges(n) {
		for _, to := range edges(n) {
			if text := s.differOver(b, from, to); text != "" {
				return text
			}
		}
	}
	return ""
}

func (s *said) differAt(b *Box, i int) string {
	link, e := b.Link(i)
	if wanted, wantedE := s.link(i); link != wanted || e != wantedE {
		return fmt.Sprintf("Link(%d) is %x, %d, not %x, %d", i, link, int(e), wanted, int(wantedE))
	}
	entry, e := b.Entry(i)
	if wanted, wantedE := s.entry(i); !same(entry, wanted) || e != wantedE {
		return fmt.Sprintf("Entry(%d) is %s, %d, not %s, %d", i, brief(entry), int(e), brief(wanted), int(wantedE))
	}
	return ""
}

func (s *said) differOver(b *Box, from, to int) string {
	list, e := b.Entries(from, to)
	wanted, wantedE := s.list(from, to)
	if !slices.EqualFunc(list, wanted, same) || e != wantedE {
		return fmt.Sprintf("Entries(%d, %d) are %d, %d, not %d, %d, or other ones", from, to, len(list), int(e), len(wanted), int(wantedE))
	}
	return ""
}

// brief tells an entry without the most of a long Body.
func brief(e api.Entry) string {
	n := len(e.Body)
	e.Body = e.Body[:min(n, 9)]
	return fmt.Sprintf("%+v (%d)", e, n)
}

package digest

import (
	"bytes"
	"crypto/sha256"
	"encoding"
	"math"
	"slices"
	"strings"
	"sync"
	"testing"

	"causeway/api"
)

const (
	ofNothing = "e3b0c44298fc1c149afbf4c8996fb92427ae41e4649b934ca495991b7852b855"
	ofA       = "ca978112ca1bbdcafac231b39a23dc4da786eff8147c4e72b9807785afee48bb"
	ofAbc     = "ba7816bf8f01cfea414140de5dae2223b00361a396177a9cb410ff61f20015ad"
)

// row gives n bytes that do not repeat with the length of a piece.
func row(n int) []byte {
	b := make([]byte, n)
	for i := range b {
		b[i] = byte(31*i + i/64*7 + 5)
	}
	return b
}

// edges are the lengths in bytes at which the ending of a text changes, for one piece and for two.
func edges() []int {
	return []int{0, 1, 2, 31, 32, 33, 54, 55, 56, 57, 62, 63, 64, 65, 118, 119, 120, 121, 127, 128, 129, 191, 192, 193, 1000, 4096, 4097}
}

// known is the digest of bytes by the library.
func known(b []byte) api.Digest {
	return api.Digest(sha256.Sum256(b))
}

// knownBits is the digest of bits: the text is ended here, bit by bit as the chapter tells it, and the library takes in nothing but whole pieces.
func knownBits(t *testing.T, data []byte, n int) api.Digest {
	t.Helper()
	var text []byte // a bit in each
	for i := range n {
		text = append(text, data[i/8]>>(7-i%8)&1)
	}
	text = append(text, 1)
	for len(text)%512 != 448 {
		text = append(text, 0)
	}
	for i := 63; i >= 0; i-- {
		text = append(text, byte(n>>i&1))
	}
	whole := make([]byte, len(text)/8)
	for i, bit := range text {
		whole[i/8] |= bit << (7 - i%8)
	}
	h := sha256.New()
	h.Write(whole)
	inside, err := h.(encoding.BinaryMarshaler).MarshalBinary()
	if err != nil || len(inside) < 36 {
		t.Fatalf("the library does not tell its state: %v", err)
	}
	return api.Digest(inside[4:36]) // four bytes that name the kind, then the eight words
}

// guarded gives data in a list with spare room, and a look whether list and room are as they were.
func guarded(data []byte) ([]byte, func() bool) {
	whole := append(bytes.Clone(data), 0xa5, 0x5a, 0xa5)
	was := bytes.Clone(whole)
	return whole[:len(data)], func() bool { return bytes.Equal(whole, was) }
}

func wantHex(t *testing.T, what string, got api.Digest, want string) {
	t.Helper()
	if s := Hex(got); s != want {
		t.Errorf("%s: %s, not %s", what, s, want)
	}
}

func wantDigest(t *testing.T, what string, n int, got, want api.Digest) {
	t.Helper()
	if got != want {
		t.Errorf("%s at %d: %x, not %x", what, n, got, want)
	}
}

func TestP1_1Examples(t *testing.T) {
	wantHex(t, "Sum of nil", Sum(nil), ofNothing)
	wantHex(t, "Sum of an empty list", Sum([]byte{}), ofNothing)
	wantHex(t, "Sum of abc", Sum([]byte("abc")), ofAbc)
	wantHex(t, "Sum of 56 bytes", Sum([]byte("abcdbcdecdefdefgefghfghighijhijkijkljklmklmnlmnomnopnopq")),
		"248d6a61d20638b8e5c026930c3e6039a33ce45964ff2167f6ecedd419db06c1")
	wantHex(t, "Sum of a million a", Sum([]byte(strings.Repeat("a", 1000*1000))),
		"cdc76e5c9914fb9281a1c7e284d73e67f1809a48a497200e046d39ccc7112cd0")
	wantHex(t, "Parts of a, nothing, bc", Parts([]byte("a"), []byte(""), []byte("bc")), ofAbc)
	wantHex(t, "Parts of none", Parts(), ofNothing)
	wantHex(t, "Parts of a nil list of parts", Parts([][]byte(nil)...), ofNothing)
	wantHex(t, "Parts of empty ones", Parts(nil, []byte{}, nil), ofNothing)
}

func TestP1_1SumAtAllLengths(t *testing.T) {
	long := row(700)
	for n := range len(long) {
		wantDigest(t, "Sum", n, Sum(long[:n]), known(long[:n]))
	}
	for _, n := range edges() {
		wantDigest(t, "Sum", n, Sum(row(n)), known(row(n)))
		full := bytes.Repeat([]byte{0xff}, n)
		wantDigest(t, "Sum of bytes 255", n, Sum(full), known(full))
	}
}

func TestP1_1PartsKeepTheirOrder(t *testing.T) {
	a, b := row(70), row(90)
	wantDigest(t, "Parts", 160, Parts(a, b), known(append(bytes.Clone(a), b...)))
	wantDigest(t, "Parts the other way", 160, Parts(b, a), known(append(bytes.Clone(b), a...)))
}

// A text of 2^29 bytes has 2^32 bits, so that the higher word of its length is not nought.
func TestP1_1LengthAbove32Bits(t *testing.T) {
	if testing.Short() {
		t.Skip("it digests half a gigabyte")
	}
	h, want := New(), sha256.New()
	chunk := row(1 << 20)
	for range 1 << 9 {
		h.Write(chunk)
		want.Write(chunk)
	}
	if h.Len() != 1<<29 {
		t.Errorf("Len: %d", h.Len())
	}
	wantDigest(t, "a Hasher", h.Len(), h.Sum(), api.Digest(want.Sum(nil)))
}

func TestP1_2Examples(t *testing.T) {
	const five = "d6d3e02a31a84a8caa9718ed6c2057be09db45e7823eb5079ce7a573a3760f95"
	for _, data := range [][]byte{{0x68}, {0x6f, 0xff}, {0x6b}} {
		d, e := Bits(data, 5)
		wantHex(t, "Bits, five", d, five)
		if e != api.OK {
			t.Errorf("Bits(%x, 5): error %d", data, e)
		}
	}
	for _, data := range [][]byte{nil, {}, []byte("abc")} {
		d, e := Bits(data, 0)
		wantHex(t, "Bits, none", d, ofNothing)
		if e != api.OK {
			t.Errorf("Bits(%x, 0): error %d", data, e)
		}
	}
}

func TestP1_2EveryNumberOfBits(t *testing.T) {
	data := row(150)
	for n := 0; n <= 8*len(data); n++ {
		d, e := Bits(data, n)
		if e != api.OK {
			t.Errorf("Bits of %d: error %d", n, e)
		}
		wantDigest(t, "Bits", n, d, knownBits(t, data, n))
	}
}

func TestP1_2WhatStandsBehindSaysNothing(t *testing.T) {
	for _, n := range []int{0, 1, 7, 8, 9, 439, 440, 441, 446, 447, 448, 449, 455, 456, 457, 511, 512, 513, 519, 520, 521, 959, 960, 961} {
		bare := row(n/8 + 1)
		bare[n/8] &^= 0xff >> (n % 8)
		want, _ := Bits(bare, n)
		for _, behind := range []byte{0x00, 0x5a, 0xa5, 0xff} {
			full := append(bytes.Clone(bare), behind, behind)
			full[n/8] |= behind & (0xff >> (n % 8))
			d, e := Bits(full, n)
			if e != api.OK {
				t.Errorf("Bits of %d: error %d", n, e)
			}
			wantDigest(t, "Bits with something behind", n, d, want)
		}
	}
}

func TestP1_2ALastBitOfNoughtCounts(t *testing.T) {
	seen := map[api.Digest]int{}
	for n := range 17 {
		d, _ := Bits([]byte{0, 0}, n)
		if m, is := seen[d]; is {
			t.Errorf("%d and %d bits of nought have one digest", m, n)
		}
		seen[d] = n
	}
}

func TestP1_2NumbersThatMayNotBe(t *testing.T) {
	for _, c := range []struct {
		data []byte
		n    int
	}{
		{[]byte("abc"), 25}, {[]byte("abc"), -1}, {nil, 1}, {[]byte{}, 1}, {nil, -1},
		{[]byte("abc"), math.MaxInt}, {[]byte("abc"), math.MinInt}, {nil, math.MaxInt}, {nil, math.MinInt},
		{row(64), 513}, {row(56), 449}, {row(64), 520}, {row(3), 1<<32 + 8},
	} {
		d, e := Bits(c.data, c.n)
		if e != api.ErrDigestBits || d != (api.Digest{}) {
			t.Errorf("Bits of %d bytes, %d: %x, %d", len(c.data), c.n, d, e)
		}
	}
	// Bytes in the spare room are none of the list's.
	if d, e := Bits(row(8)[:3], 25); e != api.ErrDigestBits || d != (api.Digest{}) {
		t.Errorf("Bits into the spare room: %x, %d", d, e)
	}
}

func TestP1_3Hex(t *testing.T) {
	for _, c := range []struct {
		d api.Digest
		s string
	}{
		{api.Digest{}, strings.Repeat("0", 64)},
		{api.Digest(bytes.Repeat([]byte{0xff}, 32)), strings.Repeat("f", 64)},
		{api.Digest{0x01, 0x23, 0x45, 0x67, 0x89, 0xab, 0xcd, 0xef, 31: 0xf0}, "0123456789abcdef" + strings.Repeat("0", 46) + "f0"},
	} {
		wantHex(t, "Hex", c.d, c.s)
	}
}

func TestP1_3ReadHexTellsWhatHexTold(t *testing.T) {
	for b := range 256 {
		for _, at := range []int{0, 15, 31} {
			d := Sum([]byte{byte(b)})
			d[at] = byte(b)
			got, e := ReadHex(Hex(d))
			if got != d || e != api.OK {
				t.Errorf("ReadHex(%s): %x, %d", Hex(d), got, e)
			}
		}
	}
	if d, e := ReadHex(ofAbc); Hex(d) != ofAbc || e != api.OK {
		t.Errorf("ReadHex(%s): %x, %d", ofAbc, d, e)
	}
}

func TestP1_3TextsThatAreNoDigest(t *testing.T) {
	texts := []string{
		"", "0", ofAbc[:63], ofAbc + "0", ofAbc[:62], ofAbc + ofAbc,
		strings.ToUpper(ofAbc), strings.Replace(ofAbc, "a", "A", 1), ofAbc[:63] + "D",
		" " + ofAbc[1:], ofAbc[:63] + " ", ofAbc[:30] + " " + ofAbc[31:], " " + ofAbc, ofAbc + "\n", "0x" + ofAbc[2:],
		"é" + ofAbc[2:], strings.Repeat("é", 64),
	}
	for _, s := range texts {
		if d, e := ReadHex(s); d != (api.Digest{}) || e != api.ErrDigestHex {
			t.Errorf("ReadHex(%q): %x, %d", s, d, e)
		}
	}
}

func TestP1_3EachByteIsADigitOrNone(t *testing.T) {
	for c := range 256 {
		is := strings.IndexByte("0123456789abcdef", byte(c)) >= 0
		for _, at := range []int{0, 1, 31, 62, 63} {
			b := []byte(ofAbc)
			b[at] = byte(c)
			d, e := ReadHex(string(b))
			if is && (e != api.OK || Hex(d) != string(b)) || !is && (e != api.ErrDigestHex || d != (api.Digest{})) {
				t.Errorf("ReadHex with byte %d at %d: %x, %d", c, at, d, e)
			}
		}
	}
}

func TestP1_4Example(t *testing.T) {
	h := New()
	h.Write([]byte("a"))
	c := h.Copy()
	h.Write([]byte("bc"))
	wantHex(t, "the first", h.Sum(), ofAbc)
	if c.Len() != 1 || h.Len() != 3 {
		t.Errorf("Len: %d and %d", c.Len(), h.Len())
	}
	wantHex(t, "its copy", c.Sum(), ofA)
	h.Reset()
	if h.Len() != 0 {
		t.Errorf("Len behind Reset: %d", h.Len())
	}
	wantHex(t, "behind Reset", h.Sum(), ofNothing)
	wantHex(t, "the copy behind the first one's Reset", c.Sum(), ofA)
}

func TestP1_4ANewOneHasTakenNothing(t *testing.T) {
	h := New()
	if h.Len() != 0 {
		t.Errorf("Len of a new one: %d", h.Len())
	}
	wantHex(t, "a new one", h.Sum(), ofNothing)
	h.Write(nil)
	h.Write([]byte{})
	if h.Len() != 0 {
		t.Errorf("Len behind nothing: %d", h.Len())
	}
	wantHex(t, "behind nothing", h.Sum(), ofNothing)
}

func TestP1_4SumLeavesItAsItIs(t *testing.T) {
	data := row(300)
	h := New()
	for n := range len(data) {
		wantDigest(t, "Sum", n, h.Sum(), known(data[:n]))
		wantDigest(t, "Sum once more", n, h.Sum(), known(data[:n]))
		if h.Len() != n {
			t.Errorf("Len behind %d bytes: %d", n, h.Len())
		}
		h.Write(data[n : n+1])
	}
}

func TestP1_4ACopyGoesItsOwnWay(t *testing.T) {
	data, other := row(200), bytes.Repeat([]byte{0x77}, 200)
	for _, at := range []int{0, 1, 55, 56, 63, 64, 65, 128, 130} {
		for _, more := range []int{0, 1, 8, 63, 64, 65, 70} {
			h := New()
			h.Write(data[:at])
			c := h.Copy()
			c.Write(other[:more])
			h.Write(data[at : at+more])
			wantDigest(t, "the first", at+more, h.Sum(), known(data[:at+more]))
			wantDigest(t, "its copy", at+more, c.Sum(), known(append(bytes.Clone(data[:at]), other[:more]...)))
			c.Reset()
			if h.Len() != at+more || c.Len() != 0 {
				t.Errorf("Len behind the copy's Reset: %d and %d", h.Len(), c.Len())
			}
			wantDigest(t, "the first behind the copy's Reset", at+more, h.Sum(), known(data[:at+more]))
		}
	}
}

func TestP1_4ResetIsAsNew(t *testing.T) {
	h := New()
	for _, n := range edges() {
		h.Write(row(n))
		h.Reset()
		if h.Len() != 0 {
			t.Errorf("Len behind Reset at %d: %d", n, h.Len())
		}
		wantHex(t, "behind Reset", h.Sum(), ofNothing)
		// A short text leans on nothing being left of the long one.
		h.Write([]byte("abc"))
		wantHex(t, "abc behind Reset", h.Sum(), ofAbc)
		h.Reset()
	}
}

func TestP1_4TwoHashersAreTwo(t *testing.T) {
	a, b := New(), New()
	a.Write([]byte("abc"))
	if b.Len() != 0 || Hex(b.Sum()) != ofNothing {
		t.Error("what one took, the other has")
	}
	a.Reset()
	b.Write([]byte("abc"))
	wantHex(t, "the second", b.Sum(), ofAbc)
	wantHex(t, "the first", a.Sum(), ofNothing)
}

func TestP1_5TwoCutsAnywhere(t *testing.T) {
	data := row(130)
	want := known(data)
	for i := 0; i <= len(data); i++ {
		for j := i; j <= len(data); j++ {
			a, b, c := data[:i], data[i:j], data[j:]
			h := New()
			h.Write(a)
			h.Write(b)
			h.Write(c)
			if h.Sum() != want || h.Len() != len(data) || Parts(a, b, c) != want {
				t.Fatalf("cut at %d and %d: %x, %x", i, j, h.Sum(), Parts(a, b, c))
			}
		}
	}
}

func TestP1_5ManyCuts(t *testing.T) {
	for _, n := range edges() {
		data := row(n)
		want := Sum(data)
		for _, size := range []int{1, 3, 7, 31, 63, 64, 65, 127, 128, 129} {
			parts := slices.Collect(slices.Chunk(data, size))
			h := New()
			for _, part := range parts {
				h.Write(part)
			}
			wantDigest(t, "a Hasher, list by list", n, h.Sum(), want)
			wantDigest(t, "Parts", n, Parts(parts...), want)
		}
		d, e := Bits(data, 8*n)
		if e != api.OK {
			t.Errorf("Bits of %d bytes: error %d", n, e)
		}
		wantDigest(t, "Bits of all", n, d, want)
	}
}

func TestNothingHandedInIsChanged(t *testing.T) {
	for _, n := range edges() {
		data, same := guarded(row(n))
		front, back := data[:n/2], data[n/2:]
		parts := [][]byte{front, nil, back, []byte("spare")}
		h := New()
		h.Write(data)
		h.Sum()
		Sum(data)
		Parts(parts[:3]...)
		Bits(data, 8*n)
		Bits(data, max(8*n-3, 0))
		Bits(data, -1)
		if !same() {
			t.Errorf("%d bytes, or what stands behind them, were changed", n)
		}
		if parts[1] != nil || !bytes.Equal(parts[0], front) || !bytes.Equal(parts[2], back) || string(parts[3]) != "spare" {
			t.Errorf("the list of parts was changed at %d", n)
		}
	}
}

func TestNothingHandedInIsKept(t *testing.T) {
	for _, n := range edges() {
		data := row(n)
		want := known(data)
		h := New()
		h.Write(data)
		c := h.Copy()
		clear(data)
		wantDigest(t, "a Hasher whose bytes were changed later", n, h.Sum(), want)
		wantDigest(t, "its copy", n, c.Sum(), want)
	}
}

func TestNothingHangsOnWhatElseRuns(t *testing.T) {
	data := row(5000)
	want := known(data)
	got := make([]api.Digest, 16)
	var all sync.WaitGroup
	for i := range got {
		all.Go(func() {
			h := New()
			for part := range slices.Chunk(data, 10*i+1) {
				h.Write(part)
			}
			got[i] = h.Sum()
		})
	}
	all.Wait()
	for i, d := range got {
		wantDigest(t, "a Hasher beside others", i, d, want)
	}
}

func FuzzCuts(f *testing.F) {
	f.Add([]byte("abc"), uint(1), uint(5))
	f.Add(row(200), uint(64), uint(441))
	f.Fuzz(func(t *testing.T, data []byte, cut, n uint) {
		at := int(cut % uint(len(data)+1))
		want := known(data)
		h := New()
		h.Write(data[:at])
		h.Write(data[at:])
		if h.Sum() != want || Sum(data) != want || Parts(data[:at], data[at:]) != want {
			t.Errorf("%d bytes cut at %d", len(data), at)
		}
		count := int(n % uint(8*len(data)+1))
		if d, e := Bits(data, count); e != api.OK || d != knownBits(t, data, count) {
			t.Errorf("%d bits of %d bytes: %x, %d", count, len(data), d, e)
		}
	})
}

func BenchmarkSum(b *testing.B) {
	data := row(1 << 16)
	b.SetBytes(int64(len(data)))
	for b.Loop() {
		Sum(data)
	}
}

// BenchmarkPair is what the trees above do most: two digests behind a byte.
func BenchmarkPair(b *testing.B) {
	left, right := Sum([]byte("left")), Sum([]byte("right"))
	for b.Loop() {
		Parts([]byte{1}, left[:], right[:])
	}
}

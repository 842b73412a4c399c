// Package word is layer 1: pointers, order numbers of keys, and offers, packed into numbers.
package word

import "underwood/api"

// How many bits each field of a packed number has.
const (
	idxBits  = 16
	markBits = 1
	cntBits  = 28
	valBits  = 32
	kindBits = 2
)

// field is a number, of which so many of the lowest bits count.
type field struct {
	n    int
	bits int
}

// lay packs fields, the first one lowest.
func lay(fields ...field) int {
	n, at := 0, 0
	for _, f := range fields {
		n |= low(f.n, f.bits) << at
		at += f.bits
	}
	return n
}

// part is the field of n that has so many bits, behind all those below it.
func part(n, bits int, below ...int) int {
	for _, b := range below {
		n >>= b
	}
	return low(n, bits)
}

func low(n, bits int) int { return n & (1<<bits - 1) }

// Pack is a pointer as a number.
func Pack(r api.Ref) int {
	mark := 0
	if r.Mark {
		mark = 1
	}
	return lay(field{r.Idx, idxBits}, field{mark, markBits}, field{r.Cnt, cntBits})
}

// Of is a number as a pointer.
func Of(n int) api.Ref {
	return api.Ref{
		Idx:  part(n, idxBits),
		Mark: part(n, markBits, idxBits) == 1,
		Cnt:  part(n, cntBits, idxBits, markBits),
	}
}

// Turn is a pointer that comes behind another one: its count tells them apart, though both may be to one node.
func Turn(r api.Ref, idx int) api.Ref {
	return api.Ref{Idx: low(idx, idxBits), Cnt: low(r.Cnt+1, cntBits)}
}

// Rev turns 16 bits round.
func Rev(k int) int {
	n := 0
	for i := range idxBits {
		n = n<<1 | k>>i&1
	}
	return n
}

// Real is a key's order number.
func Real(k int) int { return 2*Rev(k) + 1 }

// Dummy is a bucket's order number.
func Dummy(b int) int { return 2 * Rev(b) }

// Key is the key, or the bucket, of an order number.
func Key(n int) int { return Rev(low(n, idxBits+1) >> 1) }

// Offer is an offer as a number.
func Offer(v, kind, cnt int) int {
	return lay(field{v, valBits}, field{kind, kindBits}, field{cnt, cntBits})
}

// Offered is a number as an offer.
func Offered(n int) (v, kind, cnt int) {
	return part(n, valBits), part(n, kindBits, valBits), part(n, cntBits, valBits, kindBits)
}

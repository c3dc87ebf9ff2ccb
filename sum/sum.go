// Package sum is layer 1: see shared/doc/01-sum.md.
package sum

// polynomial is CRC-32C's, turned about: the lowest bit goes first.
const polynomial = 0x82f63b78

// Of answers CRC-32C of b.
func Of(b []byte) uint32 {
	rest := ^uint32(0)
	for _, x := range b {
		rest = throughByte(rest ^ uint32(x))
	}
	return ^rest
}

// throughByte divides on by eight bits, those of the byte that was added last.
func throughByte(rest uint32) uint32 {
	for range 8 {
		odd := rest&1 != 0
		rest >>= 1
		if odd {
			rest ^= polynomial
		}
	}
	return rest
}

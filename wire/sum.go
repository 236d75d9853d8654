package wire

// turned is the polynomial 04C11DB7 with its bits turned round: so the bits of the bytes, and of the result, need not be.
const turned = 0xEDB88320

// sum is the usual one of 32 bits.
func sum(bytes []byte) uint32 {
	rest := ^uint32(0)
	for _, b := range bytes {
		rest ^= uint32(b)
		for range 8 {
			low := rest & 1
			rest = rest>>1 ^ turned*low
		}
	}
	return ^rest
}

package codec

// A byte of a number is a group of bits, and above it the bit that tells that another group follows.
const (
	groupBits = 7
	more      = 1 << groupBits
)

// unsigned maps a number to one without sign. -n - 1 is ^n, which exists for the smallest number too, unlike -n.
func unsigned(n int) uint64 {
	if n < 0 {
		return 2*uint64(^n) + 1
	}
	return 2 * uint64(n)
}

// signed returns the number that unsigned maps to u.
func signed(u uint64) int {
	n := int(u / 2)
	if u%2 == 1 {
		return ^n
	}
	return n
}

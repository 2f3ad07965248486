package swap

// What the document's sum begins as, and what it is xored with for a bit that falls out.
const (
	sumStart = 4294967295
	sumXor   = 2197175160
)

// Sum is the sum of bytes.
func Sum(bytes string) uint32 {
	sum := uint32(sumStart)
	for i := range len(bytes) {
		sum ^= uint32(bytes[i])
		for range 8 {
			if sum&1 == 1 {
				sum = sum>>1 ^ sumXor
			} else {
				sum >>= 1
			}
		}
	}
	return ^sum
}

// Mark is what is remembered of a file: enough to tell whether it is another one.
type Mark struct {
	Length int
	Sum    uint32
}

// MarkOf is the mark of a file of these bytes.
func MarkOf(bytes string) Mark {
	return Mark{Length: len(bytes), Sum: Sum(bytes)}
}

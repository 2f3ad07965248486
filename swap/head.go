package swap

import "quill/api"

// A head is headMark, its numbers, noughts, and at its end its own sum.
const (
	headMark    = "quilltxt"
	headSumFrom = api.SectorSize - 4
)

// head is what a half tells of its text.
type head struct {
	number uint64
	text   Mark
	file   Mark // of the file, as it was when the text was written
}

// sector is the sector of a head.
func (h head) sector() string {
	var s [api.SectorSize]byte
	told := addMark(addMark(add([]byte(headMark), h.number, 8), h.text), h.file)
	copy(s[:], told)
	copy(s[headSumFrom:], add(nil, uint64(Sum(string(s[:headSumFrom]))), 4))
	return string(s[:])
}

// readHead reads a head, if the sector is one.
func readHead(sector string) (head, bool) {
	var h head
	rest := sector[len(headMark):]
	h.number, rest = take(rest, 8)
	h.text, rest = takeMark(rest)
	h.file, _ = takeMark(rest)
	// What was read makes the very same sector again only if all else of it, too, is as in a head.
	if h.sector() != sector {
		return head{}, false
	}
	return h, true
}

// add puts a number of so many bytes behind others, its lowest byte first.
func add(bytes []byte, number uint64, size int) []byte {
	for range size {
		bytes = append(bytes, byte(number))
		number >>= 8
	}
	return bytes
}

// take takes such a number off the front.
func take(bytes string, size int) (uint64, string) {
	var number uint64
	for i := range size {
		number |= uint64(bytes[i]) << (8 * i)
	}
	return number, bytes[size:]
}

func addMark(bytes []byte, m Mark) []byte {
	return add(add(bytes, uint64(m.Length), 8), uint64(m.Sum), 4)
}

func takeMark(bytes string) (Mark, string) {
	length, bytes := take(bytes, 8)
	sum, bytes := take(bytes, 4)
	return Mark{Length: int(length), Sum: uint32(sum)}, bytes
}

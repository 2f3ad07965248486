package swap

import "strings"

// Found is a text that stands in a swap, the mark that was written with it, and the Writer that goes on behind it.
type Found struct {
	Text string
	File Mark
	Next Writer
}

// Find finds the later one of the texts in a swap that fit. The sectors are as many, and as long, as a swap has.
func Find(sectors []string, fits func(text string) bool) (Found, bool) {
	var (
		h    head
		text string
		ok   bool
	)
	half := laterHalf(sectors)
	last := 1 - half
try:
	if h, ok = readHead(sectors[headAt(half)]); !ok {
		goto next
	}
	if text, ok = readBody(sectors, half, h.text); !ok {
		goto next
	}
	if !fits(text) {
		goto next
	}
	return Found{Text: text, File: h.file, Next: Writer{known: true, unsettled: true, half: half, number: h.number}}, true
next:
	if half == last {
		return Found{}, false
	}
	half = last
	goto try
}

// laterHalf tells which half to try first: if both have heads, that of the later text.
func laterHalf(sectors []string) int {
	h0, ok0 := readHead(sectors[headAt(0)])
	h1, ok1 := readHead(sectors[headAt(1)])
	if ok1 && (!ok0 || later(h1.number, h0.number)) {
		return 1
	}
	return 0
}

// later tells whether the first number is ahead by less than half of the way round.
func later(number, than uint64) bool { return int64(number-than) > 0 }

// readBody reads the bytes of a half, if they are those of which this is the mark.
func readBody(sectors []string, half int, m Mark) (string, bool) {
	bytes := strings.Join(sectors[bodyAt(half):bodyAt(half)+bodySize], "")
	if m.Length < 0 || m.Length > len(bytes) {
		return "", false
	}
	bytes = bytes[:m.Length]
	return bytes, Sum(bytes) == m.Sum
}

// Package swap: how texts lie in a swap, the acts that bring one there, and how it is found again.
//
// There are two halves. Each has a head, of one sector, and behind it the bytes of a text. A text is written into the half that does not hold the last one that was written whole: first the head of that half is blotted out, then the bytes are written, then the new head, with a Sync behind each of the three. So wherever a head stands, all bytes that it tells of stand behind it, and at all times one of the halves holds a whole text. Of two such texts the one with the higher number is the later one; numbers wrap round, and the one that is ahead by less than half of the way round is the higher.
package swap

import "quill/api"

// The layout of a half.
const (
	headSize = 1
	bodySize = (api.MaxLines*(api.MaxLine+1) + api.SectorSize - 1) / api.SectorSize
	halfSize = headSize + bodySize
)

// Writer knows where in a swap the last text stands that was written whole. The zero Writer knows nothing of its swap: anything may stand there.
type Writer struct {
	known     bool
	unsettled bool // the last text was read, and perhaps no Sync came behind it yet
	half      int
	number    uint64
}

// Fresh tells whether there is no text yet that was written whole, or read.
func (w *Writer) Fresh() bool { return !w.known }

// Acts are the acts that write a text, with the mark of the file as it is now.
func (w *Writer) Acts(text string, file Mark) []api.Act {
	half, number := w.next()
	var acts []api.Act
	if w.unsettled {
		// Else the text that was read might be lost behind the blot of the one ahead of it.
		acts = append(acts, settle())
	}
	acts = append(acts, blot(half))
	if w.Fresh() {
		// A text that someone left in the other half could have any number.
		acts = append(acts, blot(1-half))
	}
	acts = append(acts, settle())
	for at := 0; at < len(text); at += api.SectorSize {
		piece := text[at:min(at+api.SectorSize, len(text))]
		acts = append(acts, write(bodyAt(half)+at/api.SectorSize, piece))
	}
	h := head{number: number, text: MarkOf(text), file: file}
	return append(acts, settle(), write(headAt(half), h.sector()), settle())
}

// Written tells the Writer that the acts it gave last were all done.
func (w *Writer) Written() {
	half, number := w.next()
	*w = Writer{known: true, half: half, number: number}
}

// next is where the next text goes, and its number.
func (w *Writer) next() (int, uint64) {
	return 1 - w.half, w.number + 1
}

func headAt(half int) int { return half * halfSize }

func bodyAt(half int) int { return headAt(half) + headSize }

// blot is the act that leaves a half without a head.
func blot(half int) api.Act { return write(headAt(half), "") }

func settle() api.Act { return api.Act{Kind: api.Sync} }

// write is the act that writes a sector: these bytes, and noughts behind them.
func write(at int, bytes string) api.Act {
	var sector [api.SectorSize]byte
	copy(sector[:], bytes)
	return api.Act{Kind: api.Write, At: at, Data: string(sector[:])}
}

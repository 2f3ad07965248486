package quill

import (
	"quill/api"
	"quill/swap"
)

// Recover reads a swap (P9).
func Recover(swap []string, file string, every int) (*Doc, bool, api.Errno) {
	if every < 1 || every > api.MaxEvery || !isSwap(swap) {
		return nil, false, api.ErrArg
	}
	return readBack(swap, file, every)
}

// isSwap tells whether these are the sectors of a swap.
func isSwap(sectors []string) bool {
	if len(sectors) != api.Sectors {
		return false
	}
	for _, s := range sectors {
		if len(s) != api.SectorSize {
			return false
		}
	}
	return true
}

// readBack makes a document of the text that the sectors have, and tells whether its file is the one that the text was written with.
func readBack(sectors []string, file string, every int) (*Doc, bool, api.Errno) {
	found, ok := swap.Find(sectors, isText)
	if !ok {
		return nil, false, api.ErrCorrupt
	}
	lines, _ := cut(found.Text)
	d := newDoc(lines, file, every)
	d.swap = found.Next
	return d, d.file == found.File, api.OK
}

// Package quill: lines of text that outlive crashes in a swap of sectors: see DOC.md.
package quill

import (
	"quill/api"
	"quill/swap"
	"quill/tree"
)

// Doc is a document.
type Doc struct {
	lines   tree.Tree[string]
	file    swap.Mark // of the file's bytes, as the document knows them
	every   int
	edits   int // since the last sync that was done was begun
	counted int // since the last sync was begun
	swap    swap.Writer
	job     job
}

// Open reads a file (P3).
func Open(file string, every int) (*Doc, api.Errno) {
	if every < 1 || every > api.MaxEvery {
		return nil, api.ErrArg
	}
	lines, ok := cut(file)
	if !ok {
		return nil, api.ErrText
	}
	d := newDoc(lines, file, every)
	d.beginSync()
	return d, api.OK
}

// newDoc makes a document of these lines, whose file's bytes are these.
func newDoc(lines []string, file string, every int) *Doc {
	d := &Doc{file: swap.MarkOf(file), every: every}
	for _, line := range lines {
		d.put(d.lines.Len(), line)
	}
	return d
}

// Look tells how the document is (P8).
func (d *Doc) Look() api.View {
	return api.View{Lines: d.lines.Len(), Edits: d.edits, Job: d.job.kind}
}

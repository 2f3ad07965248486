package quill

import (
	"math/rand"
	"slices"
	"testing"

	"quill/api"
)

// past is a text as it was when a sync was begun, and the file's bytes of then, as the document knew them.
type past struct{ text, file string }

// computer is a document with its swap and its file, on which acts fail, and which fails itself, by chance; and it is known what may be left.
type computer struct {
	*testing.T
	*rand.Rand
	doc      *Doc
	swap     *disk
	disk     *files
	file     string   // the file's bytes, as the document knows them
	texts    []past   // what may be left of the swap
	promised bool     // that one of them is
	saved    []string // what may be left of the file
	fails    int      // how often it failed
	read     int      // how often a text was read back behind that
}

// newComputer opens a file; in the swap there are these texts of others.
func newComputer(t *testing.T, seed int, k *disk, texts []past, file string) *computer {
	c := &computer{T: t, Rand: rand.New(rand.NewSource(int64(seed))), swap: k, texts: texts}
	c.settle(k.now(), file)
	c.open(file)
	return c
}

func (c *computer) open(file string) {
	c.doc, c.file = mustOpen(c.T, file, 1+c.Intn(api.MaxEvery)), file
	c.texts = append(c.texts, past{file, file})
}

// settle is called when all that is left of the swap and the file is known.
func (c *computer) settle(swap []string, file string) {
	c.swap, c.disk = diskOf(swap), &files{now: []string{file}}
	c.saved = []string{file}
}

// step does one thing: an edit or so, some acts, or a failure.
func (c *computer) step() {
	switch {
	case c.Intn(8) == 0:
		c.fail()
	case c.doc.Look().Job != api.NoJob:
		c.act()
	default:
		c.ask()
	}
}

// ask edits, or begins a job.
func (c *computer) ask() {
	switch c.Intn(6) {
	case 0:
		c.doc.Sync()
	case 1:
		c.doc.Save()
		c.saved = append(c.saved, c.doc.Text())
	default:
		edit(c.Rand, c.doc)
	}
	if c.doc.Look().Job == api.Syncing {
		c.texts = append(c.texts, past{c.doc.Text(), c.file})
	}
}

// act does some of the acts that are to be done, or all; one of them may fail.
func (c *computer) act() {
	most, failing := c.Intn(80), -1
	if c.Intn(3) == 0 {
		failing = c.Intn(most + 1)
	}
	if c.Intn(2) == 0 {
		most = api.MaxActs
	}
	for k := 0; k < most && c.doc.Look().Job != api.NoJob; k++ {
		c.actOnce(k != failing)
	}
}

// actOnce does one act; one that fails may be done all the same.
func (c *computer) actOnce(ok bool) {
	a, _ := c.doc.Act()
	job := c.doc.Look().Job
	if ok || c.Intn(2) == 0 {
		if job == api.Syncing {
			c.swap.do(a)
		} else {
			c.disk.do(a)
		}
	}
	wantErrno(c.T, "P6: Done", c.doc.Done(ok), api.OK)
	if !ok || c.doc.Look().Job != api.NoJob {
		return
	}
	if job == api.Syncing {
		c.texts, c.promised = []past{{c.doc.Text(), c.file}}, true
	} else {
		c.file, c.saved = c.doc.Text(), []string{c.doc.Text()}
	}
}

// fail ends the program; mostly because the computer fails, sometimes alone: then the swap and the file are as they are, but not all of it is safe.
func (c *computer) fail() {
	c.fails++
	left, file := c.swap.now(), c.disk.now[len(c.disk.now)-1]
	if c.promised && c.Intn(3) == 0 {
		c.recover(left, file)
		return
	}
	ends := slices.Concat(c.disk.now, c.disk.earlier)
	left, file = c.swap.byChance(c.Rand), ends[c.Intn(len(ends))]
	if !slices.Contains(c.saved, file) {
		c.Fatalf("P11: the file %q, want one of %q", file, c.saved)
	}
	c.settle(left, file)
	isRead := c.recover(left, file)
	c.texts = slices.DeleteFunc(c.texts, func(p past) bool { return !isRead(p) })
}

// recover reads the swap back; if there is no text, and none was promised, the file is opened. It tells which of the texts may be the one that was read.
func (c *computer) recover(left []string, file string) (isRead func(past) bool) {
	every := 1 + c.Intn(api.MaxEvery)
	d, same, e := Recover(left, file, every)
	if e == api.ErrCorrupt && d == nil && !same && !c.promised {
		c.open(file)
		return func(past) bool { return true }
	}
	if d == nil || e != api.OK {
		c.Fatalf("P10: failure %d: %v, %d", c.fails, d, e)
	}
	isRead = func(p past) bool { return p.text == d.Text() && (p.file == file) == same }
	if !slices.ContainsFunc(c.texts, isRead) {
		c.Fatalf("P10: failure %d: %q with the file %q: %v, want one of %q", c.fails, d.Text(), file, same, c.texts)
	}
	wantLook(c.T, "P9", d, api.View{Lines: d.lines.Len()})
	c.doc, c.file, c.promised = d, file, true
	c.read++
	return isRead
}

package quill

import (
	"quill/api"
	"quill/swap"
)

// job is what is under way: its kind, and the acts that are still to be done.
type job struct {
	kind int
	acts []api.Act
}

func (d *Doc) busy() bool { return d.job.kind != api.NoJob }

// Sync writes the text into the swap (P6).
func (d *Doc) Sync() api.Errno {
	switch {
	case d.busy():
		return api.ErrBusy
	case d.edits == 0 && !d.swap.Fresh():
		return api.ErrIdle
	}
	d.beginSync()
	return api.OK
}

func (d *Doc) beginSync() {
	d.counted = 0
	d.job = job{kind: api.Syncing, acts: d.swap.Acts(d.Text(), d.file)}
}

// Save replaces the file by the text (P7).
func (d *Doc) Save() api.Errno {
	if d.busy() {
		return api.ErrBusy
	}
	d.job = job{kind: api.Saving, acts: saveActs(d.Text())}
	return api.OK
}

// saveActs are the acts of a Save. The new file is synced ahead of the Rename: a crash never leaves a part of it as the file.
func saveActs(text string) []api.Act {
	acts := []api.Act{{Kind: api.Begin}}
	if text != "" {
		acts = append(acts, api.Act{Kind: api.Append, Data: text})
	}
	return append(acts, api.Act{Kind: api.SyncFile}, api.Act{Kind: api.Rename}, api.Act{Kind: api.SyncDir})
}

// Act tells what is to be done now (P6).
func (d *Doc) Act() (api.Act, bool) {
	if !d.busy() {
		return api.Act{}, false
	}
	return d.job.acts[0], true
}

// Done tells that it was done, or failed (P6).
func (d *Doc) Done(ok bool) api.Errno {
	if !d.busy() {
		return api.ErrIdle
	}
	d.job.acts = d.job.acts[1:]
	if ok && len(d.job.acts) > 0 {
		return api.OK
	}
	kind := d.job.kind
	d.job = job{}
	if ok {
		d.succeeded(kind)
	}
	return api.OK
}

// succeeded is called when all acts of a job were done. The text is still the one that it began with: nothing is edited while there is a job.
func (d *Doc) succeeded(kind int) {
	if kind == api.Saving {
		d.file = swap.MarkOf(d.Text())
		return
	}
	d.swap.Written()
	d.edits = 0
}

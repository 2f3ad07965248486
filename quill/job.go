package quill

import "quill/api"

// job is what is under way: its kind, and the acts that are still to be done.
type job struct {
	kind int
	acts []api.Act
}

func (d *Doc) busy() bool { return d.job.kind != api.NoJob }

// Sync writes the text into the swap (P6).
func (d *Doc) Sync() api.Errno {
	switch {
	case d.busy():
		return api.ErrBusy
	case d.edits == 0 && !d.swap.Fresh():
		return api.ErrIdle
	}
	d.beginSync()
	return api.OK
}

func (d *Doc) beginSync() {
	d.counted = 0
	d.job = job{kind: api.Syncing, acts: d.swap.Acts(d.Text(), d.file)}
}

// Act tells what is to be done now (P6).
func (d *Doc) Act() (api.Act, bool) {
	if !d.busy() {
		return api.Act{}, false
	}
	return d.job.acts[0], true
}

// Done tells that it was done, or failed (P6).
func (d *Doc) Done(ok bool) api.Errno {
	if !d.busy() {
		return api.ErrIdle
	}
	d.job.acts = d.job.acts[1:]
	switch {
	case !ok:
		d.job = job{}
	case len(d.job.acts) == 0:
		d.endSync()
	}
	return api.OK
}

// endSync is called when all acts of a sync were done. Nothing was edited since it was begun: there was a job.
func (d *Doc) endSync() {
	d.job = job{}
	d.swap.Written()
	d.edits = 0
}

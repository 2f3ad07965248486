package quill

import (
	"strings"
	"testing"

	"quill/api"
)

func TestP6NoJob(t *testing.T) {
	d := synced(t, "a\n", 5)
	if a, is := d.Act(); is || a != (api.Act{}) {
		t.Errorf("P6: Act: %+v, %v", a, is)
	}
	wantErrno(t, "P6: Done(true)", d.Done(true), api.ErrIdle)
	wantErrno(t, "P6: Done(false)", d.Done(false), api.ErrIdle)
}

// TestP6Acts: the acts of a sync, of long texts and of none, the first and the ones behind it.
func TestP6Acts(t *testing.T) {
	for _, file := range []string{"", "\n", "a\nb\n", sixty, strings.Repeat(forty+"\n", 60)} {
		d := mustOpen(t, file, 1)
		for round := range 4 {
			text := d.Text()
			acts := finish(t, d)
			for k, a := range acts {
				write := a.Kind == api.Write && a.At >= 0 && a.At < api.Sectors && len(a.Data) == api.SectorSize
				if !write && a != (api.Act{Kind: api.Sync}) {
					t.Errorf("P6: act %d: %+v", k, a)
				}
			}
			if len(acts) == 0 || acts[len(acts)-1].Kind != api.Sync || !writtenBy(acts, text) {
				t.Errorf("P6: sync %d of %q: %d acts", round, text, len(acts))
			}
			if d.Insert(0, "new") == api.ErrFull {
				d.Replace(0, strings.Repeat("n", round))
			}
		}
	}
}

// TestP6AnActFails: whichever act fails, the job is over at once, and the next sync is a whole one.
func TestP6AnActFails(t *testing.T) {
	failed := [api.SyncDir + 1]int{}
	for _, first := range []bool{true, false} {
		for k := 0; ; k++ {
			d := mustOpen(t, "a\nb\n", 5)
			if !first {
				finish(t, d)
				d.Insert(0, "c")
				wantErrno(t, "P6: Sync", d.Sync(), api.OK)
			}
			view, text := d.Look(), d.Text()
			for range k {
				d.Done(true)
			}
			a, is := d.Act()
			if !is {
				break
			}
			failed[a.Kind]++
			wantErrno(t, "P6: Sync with a job", d.Sync(), api.ErrBusy)
			wantErrno(t, "P6: Done(false)", d.Done(false), api.OK)
			wantErrno(t, "P6: Done behind it", d.Done(false), api.ErrIdle)
			view.Job = api.NoJob
			wantLook(t, "P6", d, view)
			if a, is := d.Act(); is || a != (api.Act{}) || d.Text() != text {
				t.Fatalf("P6: behind a failed act: %+v, %v, %q", a, is, d.Text())
			}
			wantErrno(t, "P6: Sync behind one that failed", d.Sync(), api.OK)
			if acts := finish(t, d); !writtenBy(acts, text) {
				t.Fatalf("P6: behind act %d that failed: the sync does not write %q", k, text)
			}
			wantErrno(t, "P6: Sync behind one that was done", d.Sync(), api.ErrIdle)
		}
	}
	if failed[api.Write] == 0 || failed[api.Sync] == 0 {
		t.Errorf("P6: the acts that failed: %v", failed)
	}
}

func TestP6Idle(t *testing.T) {
	d := mustOpen(t, "a\n", 5)
	wantErrno(t, "P6: Sync with a job", d.Sync(), api.ErrBusy)
	for range 3 {
		d.Done(false)
		wantErrno(t, "P6: Sync when none was done", d.Sync(), api.OK)
		wantErrno(t, "P6: Sync with a job", d.Sync(), api.ErrBusy)
	}
	finish(t, d)
	for range 2 {
		wantErrno(t, "P6: Sync without an edit", d.Sync(), api.ErrIdle)
		wantErrno(t, "P4: Delete nowhere", d.Delete(9), api.ErrArg)
	}
	d.Replace(0, "a")
	wantErrno(t, "P6: Sync behind an edit", d.Sync(), api.OK)
	d.Done(true)
	d.Done(false)
	wantErrno(t, "P6: Sync behind one that failed", d.Sync(), api.OK)
	finish(t, d)
	wantErrno(t, "P6: Sync without an edit", d.Sync(), api.ErrIdle)
	d.Insert(0, "b")
	d.Delete(0)
	wantErrno(t, "P6: Sync behind edits that come to nothing", d.Sync(), api.OK)
}

func TestP8Look(t *testing.T) {
	d := mustOpen(t, "a\nb\n", 5)
	wantLook(t, "P8", d, api.View{Lines: 2, Job: api.Syncing})
	wantErrno(t, "P4: Insert with a job", d.Insert(0, "x"), api.ErrBusy)
	d.Done(true)
	wantLook(t, "P8: in the midst of a job", d, api.View{Lines: 2, Job: api.Syncing})
	finish(t, d)
	wantLook(t, "P8", d, api.View{Lines: 2})
	for k := 1; k <= 4; k++ {
		d.Insert(0, "c")
		wantLook(t, "P8", d, api.View{Lines: 2 + k, Edits: k})
	}
	d.Sync()
	wantLook(t, "P8: the sync is begun", d, api.View{Lines: 6, Edits: 4, Job: api.Syncing})
	acts := 0
	for d.Look().Job == api.Syncing {
		wantLook(t, "P8: the sync is not done", d, api.View{Lines: 6, Edits: 4, Job: api.Syncing})
		d.Done(true)
		acts++
	}
	wantLook(t, "P8: the sync is done", d, api.View{Lines: 6})
	wantLook(t, "P8: no lines", synced(t, "", 1), api.View{})
}

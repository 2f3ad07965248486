package quill

import (
	"math/rand"
	"slices"
	"strings"
	"testing"

	"quill/api"
	"quill/swap"
)

// saveOf is what the document asks for as the acts of a Save.
func saveOf(text string) []api.Act {
	if text == "" {
		return []api.Act{{Kind: 3}, {Kind: 5}, {Kind: 6}, {Kind: 7}}
	}
	return []api.Act{{Kind: 3}, {Kind: 4, Data: text}, {Kind: 5}, {Kind: 6}, {Kind: 7}}
}

// save does a whole Save.
func save(t *testing.T, d *Doc) {
	t.Helper()
	wantErrno(t, "P7: Save", d.Save(), api.OK)
	if acts, want := finish(t, d), saveOf(d.Text()); !slices.Equal(acts, want) {
		t.Fatalf("P7: the acts of Save: %+v, want %+v", acts, want)
	}
}

// wantSync does a sync and fails if, behind so many syncs that were done, it does not write this text and keep the length and the sum of this file.
func wantSync(t *testing.T, promise string, d *Doc, done int, text, file string) {
	t.Helper()
	if d.Look().Job == api.NoJob {
		wantErrno(t, "P6: Sync", d.Sync(), api.OK)
	}
	var w swap.Writer
	for range done {
		w.Written()
	}
	if acts := finish(t, d); !slices.Equal(acts, w.Acts(text, swap.MarkOf(file))) {
		t.Fatalf("%s: sync %d does not write %q with the mark of the file %q", promise, done, text, file)
	}
}

// TestP7Acts: the acts of a Save of long texts and of none, whether the first sync was done or failed.
func TestP7Acts(t *testing.T) {
	for _, file := range []string{"", "\n", "a\nb\n", "\x00\xff\r\n", sixty, strings.Repeat(forty+"\n", 60)} {
		for _, first := range []bool{true, false} {
			d := mustOpen(t, file, 5)
			if first {
				finish(t, d)
			} else {
				d.Done(false)
			}
			save(t, d)
			save(t, d)
			if d.Text() != file {
				t.Errorf("P7: behind Save: %q, want %q", d.Text(), file)
			}
		}
	}
	d := synced(t, "a\n", 5)
	d.Insert(1, "b")
	save(t, d)
	d.Delete(0)
	d.Delete(0)
	save(t, d)
}

// TestP7ActByAct: an act is told till it is done, and nothing else can be begun meanwhile.
func TestP7ActByAct(t *testing.T) {
	d := synced(t, "a\nb\n", 5)
	d.Delete(0)
	wantErrno(t, "P7: Save", d.Save(), api.OK)
	for k, want := range saveOf("b\n") {
		for range 2 {
			if a, is := d.Act(); !is || a != want {
				t.Fatalf("P7: act %d: %+v, %v, want %+v", k, a, is, want)
			}
			wantErrno(t, "P4: Insert", d.Insert(0, "x"), api.ErrBusy)
			wantErrno(t, "P4: Insert nowhere", d.Insert(9, "\n"), api.ErrBusy)
			wantErrno(t, "P4: Delete", d.Delete(0), api.ErrBusy)
			wantErrno(t, "P4: Delete nowhere", d.Delete(-1), api.ErrBusy)
			wantErrno(t, "P4: Replace", d.Replace(0, "x"), api.ErrBusy)
			wantErrno(t, "P4: Replace nowhere", d.Replace(9, "\n"), api.ErrBusy)
			wantErrno(t, "P6: Sync", d.Sync(), api.ErrBusy)
			wantErrno(t, "P7: Save", d.Save(), api.ErrBusy)
			if line, e := d.Line(0); line != "b" || e != api.OK {
				t.Errorf("P4: Line: %q, %d", line, e)
			}
			wantLook(t, "P8: in a Save", d, api.View{Lines: 1, Edits: 1, Job: api.Saving})
		}
		wantErrno(t, "P6: Done", d.Done(true), api.OK)
	}
	wantLook(t, "P8: behind a Save", d, api.View{Lines: 1, Edits: 1})
	if a, is := d.Act(); is || a != (api.Act{}) {
		t.Errorf("P6: Act behind a Save: %+v, %v", a, is)
	}
	wantErrno(t, "P6: Done behind a Save", d.Done(true), api.ErrIdle)
	wantErrno(t, "P4: Insert behind a Save", d.Insert(0, "x"), api.OK)
}

// TestP7BusySyncing: no Save in any sync: that of Open, that of Sync, and that which an edit begins.
func TestP7BusySyncing(t *testing.T) {
	begin := []func(d *Doc){
		func(d *Doc) {},
		func(d *Doc) { finish(t, d); d.Insert(0, "x"); d.Sync() },
		func(d *Doc) { finish(t, d); d.Insert(0, "x"); d.Delete(0) },
	}
	for k, first := range begin {
		d := mustOpen(t, "a\n", 2)
		first(d)
		for d.Look().Job != api.NoJob {
			before := stateOf(d)
			wantErrno(t, "P7: Save in a sync", d.Save(), api.ErrBusy)
			if stateOf(d) != before || before.view.Job != api.Syncing {
				t.Fatalf("P7: sync %d: %+v, before: %+v", k, stateOf(d), before)
			}
			d.Done(true)
		}
		save(t, d)
	}
}

// TestP7AnActFails: whichever act fails, the job is over at once, and the file's bytes are those that they were.
func TestP7AnActFails(t *testing.T) {
	for _, text := range []string{"", "b\n"} {
		for k, failing := range saveOf(text) {
			d := synced(t, "a\n", 20)
			d.Delete(0)
			if text != "" {
				d.Insert(0, "b")
			}
			view := d.Look()
			wantErrno(t, "P7: Save", d.Save(), api.OK)
			for range k {
				d.Done(true)
			}
			if a, _ := d.Act(); a != failing {
				t.Fatalf("P7: act %d: %+v, want %+v", k, a, failing)
			}
			wantErrno(t, "P6: Done(false)", d.Done(false), api.OK)
			wantErrno(t, "P6: Done behind it", d.Done(true), api.ErrIdle)
			wantLook(t, "P8: behind a Save that failed", d, view)
			if a, is := d.Act(); is || a != (api.Act{}) || d.Text() != text {
				t.Fatalf("P6: behind a Save that failed: %+v, %v, %q", a, is, d.Text())
			}
			wantSync(t, "P7: a Save that failed", d, 1, text, "a\n")
			save(t, d)
			d.Insert(0, "c")
			wantSync(t, "P7: a Save that was done at last", d, 2, "c\n"+text, text)
			d.Insert(0, "d")
			d.Save()
			d.Done(false)
			wantSync(t, "P7: a Save that failed behind one that was done", d, 3, "d\nc\n"+text, text)
		}
	}
}

// TestP7FileOfASync: a sync keeps the length and the sum of the file as it is when the sync is begun, whatever its own text is.
func TestP7FileOfASync(t *testing.T) {
	d := mustOpen(t, "a\n", 3)
	wantSync(t, "P3", d, 0, "a\n", "a\n")
	d.Insert(1, "b")
	wantSync(t, "P3: no Save yet", d, 1, "a\nb\n", "a\n")
	save(t, d)
	d.Replace(0, "c")
	wantSync(t, "P7: a Save", d, 2, "c\nb\n", "a\nb\n")
	d.Insert(0, "d")
	d.Save()
	for range 4 {
		d.Done(true)
	}
	if d.file != swap.MarkOf("a\nb\n") {
		t.Errorf("P7: a Save that is not over: %+v", d.file)
	}
	finish(t, d)
	wantSync(t, "P7: a second Save", d, 3, "d\nc\nb\n", "d\nc\nb\n")
	d.Delete(0)
	d.Delete(0)
	d.Delete(0) // begins the sync
	wantSync(t, "P5: every edit", d, 4, "", "d\nc\nb\n")
	save(t, d)
	d.Insert(0, "e")
	wantSync(t, "P7: a Save of no lines", d, 5, "e\n", "")
}

// TestP7NoSync: a Save is no sync: it neither counts as one nor makes one needful.
func TestP7NoSync(t *testing.T) {
	d := mustOpen(t, "a\n", 3)
	d.Done(false)
	save(t, d)
	wantErrno(t, "P6: Sync, when none was done", d.Sync(), api.OK)
	finish(t, d)
	save(t, d)
	wantErrno(t, "P6: Sync, without an edit", d.Sync(), api.ErrIdle)
	d.Save()
	d.Done(false)
	wantErrno(t, "P6: Sync, without an edit", d.Sync(), api.ErrIdle)
	d.Insert(0, "b")
	d.Insert(0, "c")
	save(t, d)
	wantLook(t, "P8: behind a Save", d, api.View{Lines: 3, Edits: 2})
	d.Save()
	d.Done(false)
	wantLook(t, "P8: behind a Save that failed", d, api.View{Lines: 3, Edits: 2})
	d.Insert(0, "d")
	wantLook(t, "P5: the third edit since a sync was begun", d, api.View{Lines: 4, Edits: 3, Job: api.Syncing})
	d.Done(false)
	save(t, d)
	wantLook(t, "P8: a Save behind a sync that failed", d, api.View{Lines: 4, Edits: 3})
	wantSync(t, "P6: Sync behind edits that a Save saved", d, 1, "d\nc\nb\na\n", "d\nc\nb\na\n")
	wantLook(t, "P8", d, api.View{Lines: 4})
}

// files are the file and the new one, as the computer may leave them when it fails.
type files struct {
	fresh   string   // the new file
	sure    int      // so many of its bytes were there at its last SyncFile
	now     []string // what the file may be, if no Rename is lost
	earlier []string // what it may be, if a Rename since the last SyncDir is lost
}

func (f *files) do(a api.Act) {
	switch a.Kind {
	case api.Begin:
		f.fresh, f.sure = "", 0
	case api.Append:
		f.fresh += a.Data
	case api.SyncFile:
		f.sure = len(f.fresh)
	case api.Rename:
		f.earlier = append(f.earlier, f.now...)
		f.now = nil
		for size := f.sure; size <= len(f.fresh); size++ {
			f.now = append(f.now, f.fresh[:size])
		}
	case api.SyncDir:
		f.earlier = nil
	}
}

// edit edits by chance.
func edit(r *rand.Rand, d *Doc) {
	line := strings.Repeat(string(rune('a'+r.Intn(26))), r.Intn(41))
	switch at := r.Intn(d.lines.Len() + 1); r.Intn(3) {
	case 0:
		d.Insert(at, line)
	case 1:
		d.Delete(at)
	default:
		d.Replace(at, line)
	}
}

// TestP11Crashes: whichever acts fail, and whenever the computer does, the file is that of the last Save that was done, or the whole text of a later one.
func TestP11Crashes(t *testing.T) {
	for seed := range 40 {
		r := rand.New(rand.NewSource(int64(seed)))
		d := mustOpen(t, "a\nb\n", 1+seed%api.MaxEvery)
		disk := &files{now: []string{"a\nb\n"}}
		allowed := []string{"a\nb\n"}
		for range 300 {
			edit(r, d)
			if d.Save() == api.OK {
				allowed = append(allowed, d.Text())
			}
			saving := d.Look().Job == api.Saving
			failing := r.Intn(12)
			for k := 0; d.Look().Job != api.NoJob; k++ {
				a, _ := d.Act()
				if k != failing || r.Intn(2) == 0 {
					disk.do(a)
				}
				if e := d.Done(k != failing); e != api.OK {
					t.Fatalf("P6: Done: %d", e)
				}
				if saving && k != failing && d.Look().Job == api.NoJob {
					allowed = []string{d.Text()}
				}
				for _, left := range slices.Concat(disk.now, disk.earlier) {
					if !slices.Contains(allowed, left) {
						t.Fatalf("P11: behind act %d, %+v: %q", k, a, left)
					}
				}
			}
		}
	}
}

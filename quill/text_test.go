package quill

import (
	"math/rand"
	"slices"
	"strings"
	"testing"

	"quill/api"
)

func TestP3Open(t *testing.T) {
	for _, c := range []struct {
		file  string
		every int
		want  api.Errno
	}{
		{"a\nb\n", -1 << 63, api.ErrArg},
		{"a\nb\n", -1, api.ErrArg},
		{"a\nb\n", 0, api.ErrArg},
		{"a\nb\n", 1, api.OK},
		{"a\nb\n", 20, api.OK},
		{"a\nb\n", 21, api.ErrArg},
		{"a\nb\n", 1<<63 - 1, api.ErrArg},
		{"a\nb", 0, api.ErrArg},
		{"a\nb", 5, api.ErrText},
		{"a", 5, api.ErrText},
		{"", 5, api.OK},
		{"\n", 5, api.OK},
		{"\n\n", 5, api.OK},
		{forty + "\n", 5, api.OK},
		{fortyOne + "\n", 5, api.ErrText},
		{forty, 5, api.ErrText},
		{"a\n" + fortyOne + "\nb\n", 5, api.ErrText},
		{sixty, 5, api.OK},
		{sixty + "l\n", 5, api.ErrText},
		{sixty + "l", 5, api.ErrText},
		{strings.Repeat(forty+"\n", 60), 5, api.OK},
		{strings.Repeat("\n", 61), 5, api.ErrText},
		{strings.Repeat("z", 1<<20), 5, api.ErrText},
		{strings.Repeat("\n", 1<<20), 5, api.ErrText},
		{"\x00\xff\r\n\xc3\n", 5, api.OK},
	} {
		d, e := Open(c.file, c.every)
		if e != c.want || (d != nil) != (e == api.OK) {
			t.Errorf("P3: Open(%.50q, %d): %v, %d, want %d", c.file, c.every, d, e, c.want)
			continue
		}
		if d == nil {
			continue
		}
		wantLook(t, "P3", d, api.View{Lines: strings.Count(c.file, "\n"), Job: api.Syncing})
		if d.Text() != c.file {
			t.Errorf("P3: Text: %q, want %q", d.Text(), c.file)
		}
		if acts := finish(t, d); !writtenBy(acts, c.file) {
			t.Errorf("P3: the first sync does not write %q", c.file)
		}
	}
}

func TestP4Line(t *testing.T) {
	d := mustOpen(t, "a\n\nc\n", 5)
	for range 2 { // with a job, and with none
		for at, want := range []string{"a", "", "c"} {
			if line, e := d.Line(at); line != want || e != api.OK {
				t.Errorf("P4: Line(%d): %q, %d", at, line, e)
			}
		}
		for _, at := range []int{-1 << 63, -1, 3, 4, 1<<63 - 1} {
			if line, e := d.Line(at); line != "" || e != api.ErrArg {
				t.Errorf("P4: Line(%d): %q, %d", at, line, e)
			}
		}
		finish(t, d)
	}
	if _, e := synced(t, "", 5).Line(0); e != api.ErrArg {
		t.Errorf("P4: Line(0) of none: %d", e)
	}
}

func TestP4WhichErrorIsFirst(t *testing.T) {
	d := mustOpen(t, sixty, 5)
	for _, at := range []int{-1, 0, 61} {
		for _, line := range []string{"a", fortyOne, "\n"} {
			wantErrno(t, "P4: Insert with a job", d.Insert(at, line), api.ErrBusy)
			wantErrno(t, "P4: Replace with a job", d.Replace(at, line), api.ErrBusy)
		}
		wantErrno(t, "P4: Delete with a job", d.Delete(at), api.ErrBusy)
	}
	finish(t, d)
	for _, at := range []int{-1 << 63, -1, 60, 61, 1<<63 - 1} {
		if at != 60 {
			wantErrno(t, "P4: Insert nowhere", d.Insert(at, fortyOne), api.ErrArg)
		}
		wantErrno(t, "P4: Replace nowhere", d.Replace(at, "\n"), api.ErrArg)
		wantErrno(t, "P4: Delete nowhere", d.Delete(at), api.ErrArg)
	}
	for _, line := range []string{fortyOne, "\n", "a\n", "\na", "a\nb"} {
		wantErrno(t, "P4: Insert of no line", d.Insert(60, line), api.ErrLine)
		wantErrno(t, "P4: Replace by no line", d.Replace(59, line), api.ErrLine)
	}
	wantErrno(t, "P4: Insert into a full text", d.Insert(60, "a"), api.ErrFull)
	wantErrno(t, "P4: Insert into a full text", d.Insert(0, forty), api.ErrFull)
	if d.Text() != sixty {
		t.Errorf("P4: Text: %q", d.Text())
	}
	wantErrno(t, "P4: Replace in a full text", d.Replace(59, forty), api.OK)
	wantErrno(t, "P4: Delete in a full text", d.Delete(0), api.OK)
	wantErrno(t, "P4: Insert of line 60", d.Insert(59, ""), api.OK)
	if want := strings.Repeat("l\n", 58) + forty + "\n\n"; d.Text() != want {
		t.Errorf("P4: Text: %q, want %q", d.Text(), want)
	}
}

func TestP4Example(t *testing.T) {
	d := synced(t, "a\nb\n", 5)
	wantErrno(t, "Insert", d.Insert(2, "c"), api.OK)
	wantErrno(t, "Replace", d.Replace(0, "A"), api.OK)
	wantErrno(t, "Delete", d.Delete(1), api.OK)
	if d.Text() != "A\nc\n" {
		t.Errorf("P4: Text: %q", d.Text())
	}
	wantLook(t, "P8", d, api.View{Lines: 2, Edits: 3})
	wantErrno(t, "Sync", d.Sync(), api.OK)
	wantLook(t, "P8", d, api.View{Lines: 2, Edits: 3, Job: api.Syncing})
}

func TestP4AsAList(t *testing.T) {
	for seed := range 10 {
		r := rand.New(rand.NewSource(int64(seed)))
		d := synced(t, "", 20)
		var list []string
		for step := range 1000 {
			line := strings.Repeat(string([]byte{byte(step), byte(step >> 8)}), r.Intn(21))
			line = strings.ReplaceAll(line, "\n", "-")
			at := r.Intn(len(list) + 1)
			var e api.Errno
			switch {
			case r.Intn(2) == 0 && len(list) < api.MaxLines:
				e = d.Insert(at, line)
				list = slices.Insert(list, at, line)
			case at == len(list):
				continue
			case r.Intn(2) == 0:
				e = d.Delete(at)
				list = slices.Delete(list, at, at+1)
			default:
				e = d.Replace(at, line)
				list[at] = line
			}
			wantErrno(t, "P4: an edit", e, api.OK)
			finish(t, d)
			want := strings.Join(append(list, ""), "\n")
			if d.Text() != want {
				t.Fatalf("P4: Text: %q, want %q", d.Text(), want)
			}
			for at, want := range list {
				if line, e := d.Line(at); line != want || e != api.OK {
					t.Fatalf("P4: Line(%d): %q, %d, want %q", at, line, e, want)
				}
			}
		}
	}
}

func TestP5EveryEdit(t *testing.T) {
	for every := 1; every <= api.MaxEvery; every++ {
		d := synced(t, "a\n", every)
		for round := range 3 {
			for k := 1; k <= every; k++ {
				var e api.Errno
				switch k % 3 {
				case 0:
					e = d.Delete(0)
				case 1:
					e = d.Insert(0, "x")
				default:
					e = d.Replace(0, "x") // by the same line
				}
				wantErrno(t, "P5: an edit", e, api.OK)
				if v := d.Look(); v.Edits != k || (v.Job == api.Syncing) != (k == every) {
					t.Fatalf("P5: every %d, round %d, edit %d: %+v", every, round, k, v)
				}
			}
			wantErrno(t, "P4: an edit with a job", d.Insert(0, "y"), api.ErrBusy)
			text := d.Text()
			if acts := finish(t, d); !writtenBy(acts, text) {
				t.Fatalf("P5: the sync does not write %q", text)
			}
			wantLook(t, "P8", d, api.View{Lines: d.lines.Len()})
		}
	}
}

func TestP5OnlyWhatWasDone(t *testing.T) {
	d := synced(t, sixty, 2)
	for range 5 {
		d.Insert(0, "a")
		d.Insert(61, "a")
		d.Delete(60)
		d.Replace(0, fortyOne)
		d.Replace(-1, "a")
	}
	wantLook(t, "P5", d, api.View{Lines: 60})
	d.Delete(0)
	d.Delete(60)
	wantLook(t, "P5", d, api.View{Lines: 59, Edits: 1})
	d.Delete(0)
	wantLook(t, "P5", d, api.View{Lines: 58, Edits: 2, Job: api.Syncing})
}

// TestP5SinceBegun: a sync that was told to begin counts, whether it was done or not; Look's Edits count on till one is done.
func TestP5SinceBegun(t *testing.T) {
	for _, ok := range []bool{true, false} {
		d := synced(t, "", 3)
		d.Insert(0, "a")
		d.Insert(0, "b")
		wantErrno(t, "P6: Sync", d.Sync(), api.OK)
		before := 0
		if ok {
			finish(t, d)
		} else {
			d.Done(false)
			before = 2
		}
		wantLook(t, "P8", d, api.View{Lines: 2, Edits: before})
		d.Insert(0, "c")
		d.Insert(0, "d")
		wantLook(t, "P5", d, api.View{Lines: 4, Edits: before + 2})
		d.Insert(0, "e")
		wantLook(t, "P5", d, api.View{Lines: 5, Edits: before + 3, Job: api.Syncing})
		d.Done(false)
		wantLook(t, "P5", d, api.View{Lines: 5, Edits: before + 3})
		d.Delete(0)
		wantLook(t, "P5", d, api.View{Lines: 4, Edits: before + 4})
		wantErrno(t, "P6: Sync", d.Sync(), api.OK)
		finish(t, d)
		wantLook(t, "P8", d, api.View{Lines: 4})
	}
}

// TestP5FirstSyncFails: the edits since Open are counted on.
func TestP5FirstSyncFails(t *testing.T) {
	d := mustOpen(t, "a\n", 2)
	for round := range 3 {
		d.Done(false)
		wantLook(t, "P5", d, api.View{Lines: 1, Edits: 2 * round})
		d.Replace(0, "b")
		wantLook(t, "P5", d, api.View{Lines: 1, Edits: 2*round + 1})
		d.Replace(0, "b")
		wantLook(t, "P5", d, api.View{Lines: 1, Edits: 2*round + 2, Job: api.Syncing})
	}
	finish(t, d)
	wantLook(t, "P8", d, api.View{Lines: 1})
}

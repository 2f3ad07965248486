package quill

import (
	"slices"
	"strings"
	"testing"

	"quill/api"
)

var (
	forty    = strings.Repeat("x", api.MaxLine)
	fortyOne = forty + "x"
	sixty    = strings.Repeat("l\n", api.MaxLines)
)

// mustOpen opens a file of which the first sync is still to be done.
func mustOpen(t *testing.T, file string, every int) *Doc {
	t.Helper()
	d, e := Open(file, every)
	if d == nil || e != api.OK {
		t.Fatalf("Open(%q, %d): %d", file, every, e)
	}
	return d
}

// synced opens a file and does the first sync.
func synced(t *testing.T, file string, every int) *Doc {
	t.Helper()
	d := mustOpen(t, file, every)
	finish(t, d)
	return d
}

// finish does all acts of a job, and tells them.
func finish(t *testing.T, d *Doc) []api.Act {
	t.Helper()
	var acts []api.Act
	for {
		a, is := d.Act()
		if !is {
			return acts
		}
		acts = append(acts, a)
		if len(acts) > api.MaxActs {
			t.Fatal("P6: too many acts")
		}
		if e := d.Done(true); e != api.OK {
			t.Fatalf("P6: Done(true): %d", e)
		}
	}
}

// wantLook fails if the document doesn't look so.
func wantLook(t *testing.T, promise string, d *Doc, want api.View) {
	t.Helper()
	if v := d.Look(); v != want {
		t.Fatalf("%s: Look: %+v, want %+v", promise, v, want)
	}
}

// wantErrno fails if the answer is another one.
func wantErrno(t *testing.T, what string, got, want api.Errno) {
	t.Helper()
	if got != want {
		t.Fatalf("%s: %d, want %d", what, got, want)
	}
}

// state is all that can be seen of a document.
type state struct {
	text string
	view api.View
	act  api.Act
	is   bool
}

func stateOf(d *Doc) state {
	a, is := d.Act()
	return state{d.Text(), d.Look(), a, is}
}

// writtenBy tells whether the acts bring the bytes of a text into the swap, one sector behind the other.
func writtenBy(acts []api.Act, text string) bool {
	sectors := map[int]string{}
	for _, a := range acts {
		if a.Kind == api.Write {
			sectors[a.At] = a.Data
		}
	}
	var all strings.Builder
	places := make([]int, 0, len(sectors))
	for at := range sectors {
		places = append(places, at)
	}
	slices.Sort(places)
	for _, at := range places {
		all.WriteString(sectors[at])
	}
	return strings.Contains(all.String(), text)
}

package quill

import (
	"math/rand"
	"strings"
	"testing"

	"quill/api"
)

// call does a call that is drawn by chance, with whatever numbers and lines, and tells its answer.
func call(r *rand.Rand, d *Doc) api.Errno {
	places := []int{-1 << 63, -1, 0, 1, 2, d.lines.Len() - 1, d.lines.Len(), d.lines.Len() + 1, 61, 1<<63 - 1, r.Intn(60)}
	texts := []string{"", "a", "\n", "a\n", forty, fortyOne, "\x00\xff", strings.Repeat("\n", 5000), strings.Repeat("z", 5000)}
	at, line := places[r.Intn(len(places))], texts[r.Intn(len(texts))]
	switch r.Intn(10) {
	case 0, 1, 2:
		return d.Insert(at, line)
	case 3:
		return d.Delete(at)
	case 4:
		return d.Replace(at, line)
	case 5:
		return d.Sync()
	case 6:
		return d.Save()
	case 7:
		_, e := d.Line(at)
		return e
	}
	return d.Done(r.Intn(20) > 0)
}

func TestP1NothingChangedWithAnError(t *testing.T) {
	for seed := range 20 {
		r := rand.New(rand.NewSource(int64(seed)))
		d := mustOpen(t, "a\nb\nc\n", 1+seed)
		if seed%2 == 1 {
			_, k := syncedOn(t, sixty, 5)
			d, _ = mustRecover(t, k.now(), "a\n", 1+seed)
		}
		for range 3000 {
			before := stateOf(d)
			counted, file := d.counted, d.file
			if e := call(r, d); e != api.OK && (stateOf(d) != before || d.counted != counted || d.file != file) {
				t.Fatalf("P1: with the error %d: %+v, before: %+v", e, stateOf(d), before)
			}
		}
	}
}

func TestP1NothingBesideAnError(t *testing.T) {
	if d, e := Open("a", 5); d != nil || e != api.ErrText {
		t.Errorf("P1: Open: %v, %d", d, e)
	}
	if d, e := Open("a", 0); d != nil || e != api.ErrArg {
		t.Errorf("P1: Open: %v, %d", d, e)
	}
	wantRefused(t, "P1: Recover", nil, 5, api.ErrArg)
	wantRefused(t, "P1: Recover", newDisk().now(), 5, api.ErrCorrupt)
	d := synced(t, "a\n", 5)
	if line, e := d.Line(1); line != "" || e != api.ErrArg {
		t.Errorf("P1: Line: %q, %d", line, e)
	}
}

// TestP2Alone: two documents that are asked the same answer the same, whatever a third one is asked in between.
func TestP2Alone(t *testing.T) {
	one, other, third := mustOpen(t, "a\n", 3), mustOpen(t, "a\n", 3), mustOpen(t, sixty, 1)
	r1, r2, r3 := rand.New(rand.NewSource(5)), rand.New(rand.NewSource(5)), rand.New(rand.NewSource(6))
	for step := range 5000 {
		e1 := call(r1, one)
		call(r3, third)
		if e2 := call(r2, other); e1 != e2 || stateOf(one) != stateOf(other) {
			t.Fatalf("P2: step %d: %d and %d, %+v and %+v", step, e1, e2, stateOf(one), stateOf(other))
		}
	}
}

// TestP2Asking: what only asks changes nothing.
func TestP2Asking(t *testing.T) {
	d := mustOpen(t, "a\nb\n", 5)
	for range 2 {
		before := stateOf(d)
		for at := -1; at < 4; at++ {
			d.Line(at)
		}
		if stateOf(d) != before {
			t.Errorf("P2: %+v, before: %+v", stateOf(d), before)
		}
		finish(t, d)
	}
}

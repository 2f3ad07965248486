package quill

import (
	"iter"
	"math/rand"
	"slices"
	"strings"
	"testing"

	"quill/api"
)

var nought = strings.Repeat("\x00", api.SectorSize)

// disk is a swap of which it is known what each sector was since the last Sync.
type disk [api.Sectors][]string

// diskOf is a disk on which all is safe.
func diskOf(sectors []string) *disk {
	k := &disk{}
	for at, s := range sectors {
		k[at] = []string{s}
	}
	return k
}

// newDisk is a disk of noughts.
func newDisk() *disk { return diskOf(slices.Repeat([]string{nought}, api.Sectors)) }

func (k *disk) do(a api.Act) {
	if a.Kind == api.Write {
		k[a.At] = append(k[a.At], a.Data)
	}
	if a.Kind == api.Sync {
		*k = *diskOf(k.now())
	}
}

// left is what a failure leaves; choose tells which one of what a sector was, of so many.
func (k *disk) left(choose func(at, n int) int) []string {
	left := make([]string, api.Sectors)
	for at := range k {
		left[at] = k[at][choose(at, len(k[at]))]
	}
	return left
}

// now is the swap as it is.
func (k *disk) now() []string { return k.left(func(_, n int) int { return n - 1 }) }

// then is the swap as it was at the last Sync.
func (k *disk) then() []string { return k.left(func(_, _ int) int { return 0 }) }

// byChance is what some failure leaves.
func (k *disk) byChance(r *rand.Rand) []string {
	return k.left(func(_, n int) int { return r.Intn(n) })
}

// failures are what a failure may leave: all as it is, or as it was, and each sector that is not safe in each of its states, with the others as they are, and as they were.
func (k *disk) failures() iter.Seq[[]string] {
	return func(yield func([]string) bool) {
		if !yield(k.now()) || !yield(k.then()) {
			return
		}
		for at := range k {
			if len(k[at]) == 1 {
				continue
			}
			for _, state := range k[at] {
				for _, left := range [][]string{k.now(), k.then()} {
					left[at] = state
					if !yield(left) {
						return
					}
				}
			}
		}
	}
}

// finishOn does all acts of a job on a disk.
func finishOn(t *testing.T, d *Doc, k *disk) {
	t.Helper()
	for _, a := range finish(t, d) {
		k.do(a)
	}
}

// syncedOn opens a file and does the first sync on a disk.
func syncedOn(t *testing.T, file string, every int) (*Doc, *disk) {
	t.Helper()
	d, k := mustOpen(t, file, every), newDisk()
	finishOn(t, d, k)
	return d, k
}

// mustRecover reads a swap in which there is a text.
func mustRecover(t *testing.T, swap []string, file string, every int) (*Doc, bool) {
	t.Helper()
	d, same, e := Recover(swap, file, every)
	if d == nil || e != api.OK {
		t.Fatalf("P9: Recover: %v, %v, %d", d, same, e)
	}
	return d, same
}

// wantText fails if Recover gives another text.
func wantText(t *testing.T, promise string, swap []string, want string) {
	t.Helper()
	if d, _ := mustRecover(t, swap, "", 5); d.Text() != want {
		t.Fatalf("%s: %q, want %q", promise, d.Text(), want)
	}
}

// wantRefused fails if Recover does not give this error and nothing else.
func wantRefused(t *testing.T, what string, swap []string, every int, want api.Errno) {
	t.Helper()
	if d, same, e := Recover(swap, "a\n", every); d != nil || same || e != want {
		t.Errorf("%s: %v, %v, %d, want %d", what, d, same, e, want)
	}
}

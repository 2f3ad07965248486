package quill

import (
	"math/rand"
	"slices"
	"strings"
	"testing"

	"quill/api"
	"quill/swap"
)

// wantOneOf fails if Recover gives none of these texts; it tells the document.
func wantOneOf(t *testing.T, promise string, left []string, texts ...string) *Doc {
	t.Helper()
	d, _ := mustRecover(t, left, "", api.MaxEvery)
	if !slices.Contains(texts, d.Text()) {
		t.Fatalf("%s: %q, want one of %q", promise, d.Text(), texts)
	}
	return d
}

// goesOn fails if a text that is read back, and what is synced behind it, is not read back again, whatever is left behind each act.
func goesOn(t *testing.T, promise string, left []string, r *rand.Rand) {
	t.Helper()
	k := diskOf(left)
	d, _ := mustRecover(t, left, "", api.MaxEvery)
	wantText(t, promise+": again", left, d.Text())
	for range 3 {
		old := d.Text()
		d.Delete(0)
		d.Insert(0, strings.Repeat("!", r.Intn(41)))
		wantErrno(t, "P6: Sync", d.Sync(), api.OK)
		for d.Look().Job == api.Syncing {
			a, _ := d.Act()
			k.do(a)
			d.Done(true)
			wantOneOf(t, promise+": goes on", k.now(), old, d.Text())
			wantOneOf(t, promise+": goes on", k.then(), old, d.Text())
			wantOneOf(t, promise+": goes on", k.byChance(r), old, d.Text())
		}
		wantText(t, promise+": goes on", k.then(), d.Text())
	}
}

// TestP10EachAct: the computer fails behind each act of a sync, each sector that is not safe as it was or as it is: of a document that was opened, one that was read back, and one that goes on.
func TestP10EachAct(t *testing.T) {
	r := rand.New(rand.NewSource(1))
	for _, text := range []string{"", strings.Repeat(forty+"\n", 60)} {
		d, k := syncedOn(t, "a\n"+text[:len(text)/2], 20)
		for sync := range 4 {
			if sync == 1 {
				d, _ = mustRecover(t, k.now(), "", 20)
			}
			old := d.Text()
			d.Replace(0, strings.Repeat("n", sync))
			wantErrno(t, "P6: Sync", d.Sync(), api.OK)
			for d.Look().Job == api.Syncing {
				a, _ := d.Act()
				k.do(a)
				for left := range k.failures() {
					wantOneOf(t, "P10: in a sync", left, old, d.Text())
				}
				goesOn(t, "P10: in a sync", k.byChance(r), r)
				d.Done(true)
			}
			wantText(t, "P10: behind a sync", k.then(), d.Text())
		}
	}
}

// TestP10TheFirstSync: nothing is promised of the first sync till it is done; but what is read goes on (P12).
func TestP10TheFirstSync(t *testing.T) {
	r := rand.New(rand.NewSource(2))
	_, older := syncedOn(t, "older\n", 5)
	for _, k := range []*disk{newDisk(), older} {
		d := mustOpen(t, "a\nb\n", 5)
		for d.Look().Job == api.Syncing {
			a, _ := d.Act()
			k.do(a)
			d.Done(true)
			for left := range k.failures() {
				x, _, e := Recover(left, "", 5)
				if e == api.ErrCorrupt && x == nil {
					continue
				}
				wantOneOf(t, "P12: in the first sync", left, "older\n", "a\nb\n")
				goesOn(t, "P12: in the first sync", left, r)
			}
		}
		wantText(t, "P10: behind the first sync", k.then(), "a\nb\n")
	}
}

// begin begins the sync of a text of one line.
func begin(t *testing.T, d *Doc, line string) {
	t.Helper()
	wantErrno(t, "P4: Replace", d.Replace(0, line), api.OK)
	wantErrno(t, "P6: Sync", d.Sync(), api.OK)
}

// failAt does the acts of a sync, of which one fails, done all the same or not, and looks at what may be left behind each act; it tells the kind of the act, if there is one so far back.
func failAt(t *testing.T, d *Doc, k *disk, failing int, all bool, texts []string) (int, bool) {
	t.Helper()
	for i := 0; ; i++ {
		a, is := d.Act()
		if !is {
			return 0, false
		}
		if i != failing || all {
			k.do(a)
		}
		for left := range k.failures() {
			wantOneOf(t, "P10: acts that fail", left, texts...)
		}
		wantErrno(t, "P6: Done", d.Done(i != failing), api.OK)
		if i == failing {
			return a.Kind, true
		}
	}
}

// TestP10ActsFail: in two syncs, one behind the other, each act in turn fails, a Write or a Sync, done all the same or not; the third is done. With a document that goes on, and with one that was read back.
func TestP10ActsFail(t *testing.T) {
	failed := [api.SyncDir + 1]int{}
	for kind := range 8 {
		for one := 0; one < 8; one++ {
			for other := 0; other < 8; other++ {
				d, k := syncedOn(t, "old\n", 20)
				if kind&4 != 0 {
					d, _ = mustRecover(t, k.now(), "", 20)
				}
				begin(t, d, "one")
				if a, is := failAt(t, d, k, one, kind&1 != 0, []string{"old\n", "one\n"}); is {
					failed[a]++
				} else {
					continue // there was no such act
				}
				begin(t, d, "other")
				if _, is := failAt(t, d, k, other, kind&2 != 0, []string{"old\n", "one\n", "other\n"}); !is {
					wantText(t, "P10: a sync behind one that failed", k.then(), "other\n")
					continue
				}
				begin(t, d, "third")
				failAt(t, d, k, -1, false, []string{"old\n", "one\n", "other\n", "third\n"})
				wantText(t, "P10: a sync behind two that failed", k.then(), "third\n")
			}
		}
	}
	if failed[api.Write] == 0 || failed[api.Sync] == 0 {
		t.Errorf("P10: the acts that failed: %v", failed)
	}
}

// TestP10WithoutAFailure: a document is read back from the swap as it is, though not all of that is safe, and goes on; a failure behind that leaves what may be.
func TestP10WithoutAFailure(t *testing.T) {
	for acts := range 9 {
		d, k := syncedOn(t, "old\n", 20)
		begin(t, d, "new")
		for range acts {
			if a, is := d.Act(); is {
				k.do(a)
				d.Done(true)
			}
		}
		for _, ok := range []bool{true, false} {
			x, _ := mustRecover(t, k.now(), "", 20)
			read := x.Text()
			for range 3 {
				begin(t, x, "next")
				failAt(t, x, k, 0, ok, []string{"old\n", "new\n"})
			}
			if ok {
				wantText(t, "P10: behind the first act", k.then(), read)
			}
		}
	}
}

// TestP10AgainAndAgain: documents live long on computers that fail often (P9, P11 and P12, too).
func TestP10AgainAndAgain(t *testing.T) {
	for seed := range 40 {
		k, texts := newDisk(), []past(nil)
		if seed%2 == 1 {
			_, k = syncedOn(t, "someone's\n", 5)
			texts = []past{{"someone's\n", "someone's\n"}}
		}
		c := newComputer(t, seed, k, texts, strings.Repeat("line\n", seed%3*30))
		for range 1500 {
			c.step()
		}
		if c.read < 50 {
			t.Errorf("P10: %d failures, and a text was read back behind %d", c.fails, c.read)
		}
	}
}

// TestP10ReadBackManyTimes: no edit in between, one, or many.
func TestP10ReadBackManyTimes(t *testing.T) {
	d, k := syncedOn(t, "", 20)
	for round := range 300 {
		text := d.Text()
		for range 1 + round%3 {
			var same bool
			if d, same = mustRecover(t, k.now(), "", 1+round%20); d.Text() != text || !same {
				t.Fatalf("P10: round %d: %q, %v, want %q", round, d.Text(), same, text)
			}
		}
		if round%4 == 0 {
			continue
		}
		if d.Insert(0, strings.Repeat("x", round%41)) == api.ErrFull {
			d.Delete(round % 60)
		}
		d.Sync()
		finishOn(t, d, k)
	}
}

// checkAny fails if Recover gives something else than a text that goes on, or ErrCorrupt; it tells whether there was a text.
func checkAny(t *testing.T, r *rand.Rand, swap []string) bool {
	t.Helper()
	before := slices.Clone(swap)
	d, same, e := Recover(swap, "", 5)
	if !slices.Equal(swap, before) {
		t.Fatal("P2: the list was written into")
	}
	if e == api.ErrCorrupt && d == nil && !same {
		return false
	}
	if e != api.OK || d == nil {
		t.Fatalf("P12: %v, %v, %d", d, same, e)
	}
	if !isText(d.Text()) {
		t.Fatalf("P12: %q is no text", d.Text())
	}
	wantLook(t, "P12", d, api.View{Lines: strings.Count(d.Text(), "\n")})
	goesOn(t, "P12", swap, r)
	return true
}

// TestP12AnyBytes: noise, and noise in a swap in which there are texts.
func TestP12AnyBytes(t *testing.T) {
	r := rand.New(rand.NewSource(3))
	texts := 0
	for round := range 400 {
		d, k := syncedOn(t, strings.Repeat("line\n", r.Intn(61)), 20)
		for n := range r.Intn(4) {
			d.Delete(0)
			d.Insert(0, strings.Repeat("s", n))
			d.Sync()
			finishOn(t, d, k)
		}
		swap := k.now()
		for range 1 + r.Intn(12) {
			at := r.Intn(81)
			noise := []byte(swap[at])
			switch r.Intn(3) {
			case 0:
				noise[r.Intn(len(noise))] ^= 1 << r.Intn(8)
			case 1:
				r.Read(noise)
			case 2:
				noise = []byte(swap[r.Intn(81)])
			}
			swap[at] = string(noise)
		}
		if round%10 == 0 {
			for at := range swap {
				noise := []byte(swap[at])
				r.Read(noise)
				swap[at] = string(noise)
			}
		}
		if checkAny(t, r, swap) {
			texts++
		}
	}
	if texts < 20 || texts > 380 {
		t.Errorf("P12: %d texts", texts)
	}
}

// TestP12MixedSwaps: each sector is that of one swap or another.
func TestP12MixedSwaps(t *testing.T) {
	r := rand.New(rand.NewSource(4))
	var swaps [][]string
	for syncs := range 8 {
		d, k := syncedOn(t, strings.Repeat("line\n", 60-syncs), 20)
		for range syncs {
			d.Replace(r.Intn(50), strings.Repeat("r", r.Intn(41)))
			d.Sync()
			finishOn(t, d, k)
		}
		swaps = append(swaps, k.now())
	}
	for round := range 300 {
		one, other := swaps[r.Intn(8)], swaps[r.Intn(8)]
		swap := slices.Clone(one)
		for at := range swap {
			if round%2 == 0 && at >= r.Intn(80) || round%2 == 1 && r.Intn(40) == 0 {
				swap[at] = other[at]
			}
		}
		checkAny(t, r, swap)
	}
}

// TestP12NoTexts: bytes that are no text's, as whole in the swap as a text is: the text ahead of them is told, or none.
func TestP12NoTexts(t *testing.T) {
	r := rand.New(rand.NewSource(5))
	for _, bytes := range []string{
		"a", "\n\na", fortyOne + "\n", "a\n" + fortyOne + "\n", strings.Repeat("\n", 61), sixty + "l\n", sixty + "l", strings.Repeat(forty+"\n", 60) + "\n", strings.Repeat("\x00", 64), strings.Repeat("z", 39*api.SectorSize),
	} {
		d, k := syncedOn(t, "a\n", 5)
		d.Insert(1, "b")
		d.Sync()
		finishOn(t, d, k)
		found, _ := swap.Find(k.now(), isText)
		w := found.Next
		for _, want := range []bool{true, false} {
			for _, a := range w.Acts(bytes, swap.MarkOf("")) {
				k.do(a)
			}
			w.Written()
			if want {
				wantText(t, "P12: no text behind a text", k.now(), "a\nb\n")
			}
			if got := checkAny(t, r, k.now()); got != want {
				t.Errorf("P12: behind the bytes %.70q: %v, want %v", bytes, got, want)
			}
		}
	}
}

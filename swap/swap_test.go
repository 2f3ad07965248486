package swap

import (
	"hash/crc32"
	"math/rand"
	"strconv"
	"strings"
	"testing"

	"quill/api"
)

func TestSum(t *testing.T) {
	table := crc32.MakeTable(2197175160)
	if Sum("") != 0 {
		t.Errorf("the sum of nothing: %d", Sum(""))
	}
	if got := Sum("123456789"); got != 0xe3069283 {
		t.Errorf("the sum of 123456789: %x", got)
	}
	for _, text := range []string{"a\n", "\x00", "\xff\xff\n", strings.Repeat("line\n", 500)} {
		if got, want := Sum(text), crc32.Checksum([]byte(text), table); got != want {
			t.Errorf("the sum of %q: %d, want %d", text, got, want)
		}
	}
	if m := MarkOf("a\n"); m != (Mark{Length: 2, Sum: Sum("a\n")}) {
		t.Errorf("the mark: %+v", m)
	}
}

// disk is a swap of which it is known what each sector was since the last Sync.
type disk [api.Sectors][]string

func newDisk(fill func(at int) string) *disk {
	d := &disk{}
	for at := range d {
		d[at] = []string{fill(at)}
	}
	return d
}

func noughts(int) string { return strings.Repeat("\x00", api.SectorSize) }

func (d *disk) do(a api.Act) {
	for at := range d {
		if last := len(d[at]) - 1; a.Kind == api.Sync {
			d[at] = d[at][last:]
		} else if at == a.At {
			d[at] = append(d[at], a.Data)
		}
	}
}

// left is what the computer leaves of the swap when it fails; choose tells which of so many states of a sector.
func (d *disk) left(choose func(n int) int) [api.Sectors]string {
	var left [api.Sectors]string
	for at := range d {
		left[at] = d[at][choose(len(d[at]))]
	}
	return left
}

func (d *disk) now() [api.Sectors]string {
	return d.left(func(n int) int { return n - 1 })
}

// find finds the text in a swap, whatever it is.
func find(left [api.Sectors]string) (string, Mark, bool) {
	found, ok := Find(left[:], func(string) bool { return true })
	return found.Text, found.File, ok
}

// unsummed reads the text of a half without a look at its sum: no crash may leave a head ahead of bytes that are not its own, so the sum isn't needed for what a crash leaves.
func unsummed(left [api.Sectors]string, half int) (head, string, bool) {
	h, ok := readHead(left[headAt(half)])
	text := strings.Join(left[bodyAt(half):bodyAt(half)+bodySize], "")
	if !ok || h.text.Length > len(text) {
		return head{}, "", false
	}
	return h, text[:h.text.Length], true
}

// findUnsummed finds the later one of the texts that are left, without a look at their sums.
func findUnsummed(left [api.Sectors]string) (string, bool) {
	h0, text0, ok0 := unsummed(left, 0)
	h1, text1, ok1 := unsummed(left, 1)
	if ok1 && (!ok0 || int64(h1.number-h0.number) > 0) {
		return text1, true
	}
	return text0, ok0
}

// lines makes a text of so many long lines, that no other tag has.
func lines(count, tag int) string {
	line := strconv.Itoa(tag) + "-"
	line += strings.Repeat("x", api.MaxLine-len(line)) + "\n"
	return strings.Repeat(line, count)
}

func TestWholeSync(t *testing.T) {
	d := newDisk(noughts)
	var w Writer
	if _, _, ok := find(d.now()); ok || !w.Fresh() {
		t.Fatal("a text in a swap of noughts")
	}
	for tag, count := range []int{0, 60, 1, 3, 0, 0, 60, 60, 25} {
		text, file := lines(count, tag), MarkOf(lines(60, tag))
		acts := w.Acts(text, file)
		if len(acts) > api.MaxActs || acts[len(acts)-1] != (api.Act{Kind: api.Sync}) {
			t.Fatalf("%d acts, the last one %+v", len(acts), acts[len(acts)-1])
		}
		for _, a := range acts {
			if a.Kind == api.Write && (len(a.Data) != api.SectorSize || a.At < 0 || a.At >= api.Sectors) || a.Kind != api.Write && a.Kind != api.Sync {
				t.Fatalf("an act: %+v", a)
			}
			d.do(a)
		}
		w.Written()
		if got, mark, ok := find(d.now()); !ok || got != text || mark != file || w.Fresh() {
			t.Fatalf("sync %d: %q, %+v, %v", tag, got, mark, ok)
		}
	}
}

// leftBehind is a swap in which another Writer has written texts.
func leftBehind(syncs int) *disk {
	d := newDisk(func(at int) string { return strings.Repeat(string(rune('a'+at%26)), api.SectorSize) })
	var w Writer
	for tag := range syncs {
		for _, a := range w.Acts(lines(60-tag%7, 1000+tag), Mark{}) {
			d.do(a)
		}
		w.Written()
	}
	return d
}

// TestOldSwap: the first sync makes an end of what another document left, whatever its numbers are, even if it fails at first.
func TestOldSwap(t *testing.T) {
	for syncs := range 6 {
		for failing := range 5 {
			d := leftBehind(syncs)
			var w Writer
			for _, a := range w.Acts("lost\n", Mark{})[:failing] {
				d.do(a)
			}
			for _, a := range w.Acts("new\n", MarkOf("file")) {
				d.do(a)
			}
			w.Written()
			if text, file, ok := find(d.now()); !ok || text != "new\n" || file != MarkOf("file") {
				t.Fatalf("behind %d syncs of another: %q, %v", syncs, text, ok)
			}
		}
	}
}

// TestCrashes: whichever acts fail, and whenever the computer does, the text is that of the last sync that was done, or of one that was begun later.
func TestCrashes(t *testing.T) {
	r := rand.New(rand.NewSource(3))
	for round := range 60 {
		d := leftBehind(round % 4)
		var w Writer
		allowed := map[string]bool{}
		for tag := range 12 {
			text := lines(r.Intn(61), tag)
			if r.Intn(4) == 0 {
				text = lines(r.Intn(3), tag)
			}
			allowed[text] = true
			if syncOrFail(t, r, d, &w, text, allowed) {
				w.Written()
				allowed = map[string]bool{text: true}
			}
		}
	}
}

// syncOrFail does the acts of a sync, of which one may fail, and looks behind each act at what a crash may leave; it tells whether the sync was done.
func syncOrFail(t *testing.T, r *rand.Rand, d *disk, w *Writer, text string, allowed map[string]bool) bool {
	t.Helper()
	acts := w.Acts(text, Mark{})
	failing := r.Intn(2 * len(acts))
	switch r.Intn(3) {
	case 0:
		failing = r.Intn(5)
	case 1:
		failing = len(acts) - 1 - r.Intn(3)
	}
	for k, a := range acts {
		if k != failing || r.Intn(2) == 0 {
			d.do(a)
		}
		for kind := range 6 {
			left := d.left(func(n int) int {
				switch kind {
				case 0:
					return 0
				case 1:
					return n - 1
				}
				return r.Intn(n)
			})
			if got, ok := findUnsummed(left); !w.Fresh() && (!ok || !allowed[got]) {
				t.Fatalf("behind act %d of %d: %q, %v", k, len(acts), got, ok)
			}
		}
		if k == failing {
			return false
		}
	}
	return true
}

// TestOneSectorLost: a head alone, or a body alone, of the acts between two Syncs is left; each sector of them in turn.
func TestOneSectorLost(t *testing.T) {
	var w Writer
	d := newDisk(noughts)
	for _, a := range w.Acts(lines(60, 1), Mark{}) {
		d.do(a)
	}
	w.Written()
	for _, a := range w.Acts(lines(60, 2), Mark{}) {
		d.do(a)
		for at := range d {
			if len(d[at]) == 1 {
				continue
			}
			for _, alone := range []bool{true, false} {
				left := d.left(func(n int) int {
					if alone {
						return 0
					}
					return n - 1
				})
				if alone {
					left[at] = d[at][len(d[at])-1]
				} else {
					left[at] = d[at][0]
				}
				if got, ok := findUnsummed(left); !ok || got != lines(60, 1) && got != lines(60, 2) {
					t.Fatalf("sector %d: %q, %v", at, got, ok)
				}
			}
		}
	}
}

// TestWrapRound: behind the highest number comes 0, and it is the later one all the same.
func TestWrapRound(t *testing.T) {
	w := Writer{known: true, half: 1, number: 1<<64 - 3}
	d := newDisk(noughts)
	for tag := range 6 {
		for _, a := range w.Acts(lines(2, tag), Mark{}) {
			d.do(a)
		}
		w.Written()
		if got, _, ok := find(d.now()); !ok || got != lines(2, tag) || w.Fresh() {
			t.Fatalf("number %d: %q, %v", w.number, got, ok)
		}
	}
	if w.number != 3 {
		t.Errorf("six numbers on: %d", w.number)
	}
}

package quill

import (
	"hash/crc32"
	"slices"
	"strings"
	"testing"
	"unsafe"

	"quill/api"
)

func TestP9Every(t *testing.T) {
	_, k := syncedOn(t, "a\n", 5)
	for _, every := range []int{-1 << 63, -1, 0, 21, 22, 1<<63 - 1} {
		wantRefused(t, "P9: every", k.now(), every, api.ErrArg)
		wantRefused(t, "P9: every, and noughts", newDisk().now(), every, api.ErrArg)
		wantRefused(t, "P9: every, and no swap", nil, every, api.ErrArg)
	}
	for _, every := range []int{1, 2, 19, 20} {
		d, _ := mustRecover(t, k.now(), "a\n", every)
		for edit := 1; edit <= every; edit++ {
			wantLook(t, "P5: behind Recover", d, api.View{Lines: 1, Edits: edit - 1})
			wantErrno(t, "P4: Replace", d.Replace(0, "b"), api.OK)
		}
		wantLook(t, "P5: behind Recover", d, api.View{Lines: 1, Edits: every, Job: api.Syncing})
	}
}

func TestP9NoSwap(t *testing.T) {
	_, k := syncedOn(t, "a\n", 5)
	whole := k.now()
	for what, swap := range map[string][]string{
		"nil":          nil,
		"empty":        {},
		"one":          whole[:1],
		"80":           whole[:80],
		"399":          whole[:399],
		"the last 399": whole[1:],
		"401":          append(slices.Clone(whole), nought),
		"800":          append(slices.Clone(whole), whole...),
		"empty texts":  make([]string, api.Sectors),
	} {
		wantRefused(t, "P9: sectors: "+what, swap, 5, api.ErrArg)
	}
	for _, at := range []int{0, 1, 39, 40, 41, 79, 80, 398, 399} {
		for _, sector := range []string{"", "x", whole[at][:63], whole[at] + "\x00", whole[at] + whole[at], strings.Repeat("x", 1<<20)} {
			swap := slices.Clone(whole)
			swap[at] = sector
			wantRefused(t, "P9: the size of a sector", swap, 5, api.ErrArg)
		}
	}
	wantText(t, "P9: 400 sectors", whole, "a\n")
}

func TestP9Corrupt(t *testing.T) {
	for _, fill := range []byte{0, 10, 'q', 255} {
		swap := slices.Repeat([]string{strings.Repeat(string([]byte{fill}), api.SectorSize)}, api.Sectors)
		wantRefused(t, "P9: no text", swap, 5, api.ErrCorrupt)
	}
}

// TestP9Document: what is read back, of long texts and of none, has no job, and no edit was.
func TestP9Document(t *testing.T) {
	for _, text := range []string{"", "\n", "a\nb\n", "\x00\xff\r\n", "\x00\n\x00\n", sixty, strings.Repeat(forty+"\n", 60), strings.Repeat("\n", 60)} {
		from, k := syncedOn(t, "old\n", 20)
		from.Delete(0)
		for at, line := range strings.Split(text, "\n")[:strings.Count(text, "\n")] {
			from.Insert(at, line)
			finishOn(t, from, k)
		}
		from.Sync()
		finishOn(t, from, k)
		d, same := mustRecover(t, k.now(), "old\n", 5)
		lines := strings.Count(text, "\n")
		if d.Text() != text || !same {
			t.Fatalf("P9: %q, %v, want %q", d.Text(), same, text)
		}
		for at := range lines {
			line, e := d.Line(at)
			want, _ := from.Line(at)
			if line != want || e != api.OK {
				t.Errorf("P9: Line(%d): %q, %d, want %q", at, line, e, want)
			}
		}
		if _, e := d.Line(lines); e != api.ErrArg {
			t.Errorf("P9: Line(%d): %d", lines, e)
		}
		if a, is := d.Act(); is || a != (api.Act{}) {
			t.Errorf("P9: Act: %+v, %v", a, is)
		}
		wantErrno(t, "P9: Done", d.Done(true), api.ErrIdle)
		wantErrno(t, "P6: Sync behind Recover", d.Sync(), api.ErrIdle)
		wantErrno(t, "P4: Delete nowhere", d.Delete(lines), api.ErrArg)
		wantErrno(t, "P6: Sync behind Recover", d.Sync(), api.ErrIdle)
		wantLook(t, "P8: behind Recover", d, api.View{Lines: lines})
	}
}

// TestP6SyncBehindRecover: an edit makes a sync needful, and one that failed stays so.
func TestP6SyncBehindRecover(t *testing.T) {
	_, k := syncedOn(t, "a\n", 5)
	d, _ := mustRecover(t, k.now(), "a\n", 5)
	save(t, d)
	wantErrno(t, "P6: Sync behind Recover and a Save", d.Sync(), api.ErrIdle)
	d.Replace(0, "a")
	for range 3 {
		wantErrno(t, "P6: Sync behind an edit", d.Sync(), api.OK)
		wantLook(t, "P8", d, api.View{Lines: 1, Edits: 1, Job: api.Syncing})
		d.Done(false)
		wantLook(t, "P8", d, api.View{Lines: 1, Edits: 1})
	}
	d.Sync()
	acts := finish(t, d)
	if len(acts) > api.MaxActs || acts[len(acts)-1] != (api.Act{Kind: api.Sync}) {
		t.Errorf("P6: %d acts, the last one %+v", len(acts), acts[len(acts)-1])
	}
	wantErrno(t, "P6: Sync behind a sync", d.Sync(), api.ErrIdle)
	wantLook(t, "P8", d, api.View{Lines: 1})
}

// wantFile fails if the second answer is not yes for the file, and no for others.
func wantFile(t *testing.T, what string, swap []string, file string) {
	t.Helper()
	if _, same := mustRecover(t, swap, file, 5); !same {
		t.Errorf("P9: %s: the file %q is not the known one", what, file)
	}
	others := []string{file + "\n", file + "\x00", "\n" + file, "x", "a\nb", strings.Repeat("z", 9999)}
	for at := range len(file) {
		changed := []byte(file)
		changed[at] ^= 1
		others = append(others, string(changed), file[:at])
	}
	for _, other := range others {
		if _, same := mustRecover(t, swap, other, 5); same {
			t.Errorf("P9: %s: %q is taken for the file %q", what, other, file)
		}
	}
}

func TestP9TheFile(t *testing.T) {
	d, k := syncedOn(t, "a\nb\n", 5)
	wantFile(t, "as it was opened", k.now(), "a\nb\n")
	d.Insert(0, "c")
	d.Sync()
	finishOn(t, d, k)
	wantFile(t, "behind an edit", k.now(), "a\nb\n")
	save(t, d)
	wantFile(t, "behind a Save", k.now(), "a\nb\n")
	d.Insert(0, "d")
	d.Sync()
	finishOn(t, d, k)
	wantFile(t, "behind a Save and a sync", k.now(), "c\na\nb\n")
	d.Insert(0, "e")
	d.Save()
	for range 4 {
		d.Done(true)
	}
	d.Done(false)
	d.Sync()
	finishOn(t, d, k)
	wantFile(t, "behind a Save that failed and a sync", k.now(), "c\na\nb\n")
	_, k = syncedOn(t, "", 5)
	wantFile(t, "empty", k.now(), "")
}

// summedAlike makes bytes that begin in this way and have the same sum as others: each of four more bytes takes the sum one byte nearer.
func summedAlike(begin, others string) string {
	table := crc32.MakeTable(2197175160)
	var steps [4]int
	for sum, k := ^crc32.Checksum([]byte(others), table), 3; k >= 0; k-- {
		steps[k] = slices.IndexFunc(table[:], func(x uint32) bool { return x>>24 == sum>>24 })
		sum = (sum ^ table[steps[k]]) << 8
	}
	for _, step := range steps {
		sum := ^crc32.Checksum([]byte(begin), table)
		begin += string([]byte{byte(sum) ^ byte(step)})
	}
	return begin
}

// TestP9LengthAndSum: a file of the same length has to have the same sum, and the other way round.
func TestP9LengthAndSum(t *testing.T) {
	file := "abcd\n"
	_, k := syncedOn(t, file, 5)
	wantFile(t, "as it was opened", k.now(), file)
	table := crc32.MakeTable(2197175160)
	for _, begin := range []string{"", "x", "xy", "abcd\n"} {
		other := summedAlike(begin, file)
		if crc32.Checksum([]byte(other), table) != crc32.Checksum([]byte(file), table) {
			t.Fatalf("%q and %q have not one sum", other, file)
		}
		if _, same := mustRecover(t, k.now(), other, 5); same != (len(other) == len(file)) {
			t.Errorf("P9: the file %q of the same sum as %q: %v", other, file, same)
		}
	}
}

// TestP9TheFileOfTheText: a text that was there ahead of a Save is told with the file of then, though a sync behind the Save was begun.
func TestP9TheFileOfTheText(t *testing.T) {
	d, k := syncedOn(t, "a\n", 5)
	d.Insert(0, "b")
	save(t, d)
	d.Insert(0, "c")
	d.Sync()
	for d.Look().Job == api.Syncing {
		for left := range k.failures() {
			x, same := mustRecover(t, left, "a\n", 5)
			y, other := mustRecover(t, left, "b\na\n", 5)
			if x.Text() != y.Text() || same != (x.Text() == "a\n") || other != (x.Text() == "c\nb\na\n") {
				t.Fatalf("P9: %q with the file a: %v, with the file b, a: %v", x.Text(), same, other)
			}
		}
		a, _ := d.Act()
		k.do(a)
		d.Done(true)
	}
	wantText(t, "P10", k.now(), "c\nb\na\n")
}

// TestP9FileOfRecover: the file's bytes are those that Recover was given, whatever they are, and a Save's behind it.
func TestP9FileOfRecover(t *testing.T) {
	for _, file := range []string{"", "a\n", "other\n", "no text", strings.Repeat("z", 9999), "\x00"} {
		_, k := syncedOn(t, "a\n", 5)
		d, _ := mustRecover(t, k.now(), file, 5)
		wantFile(t, "behind Recover, without a sync", k.now(), "a\n")
		d.Insert(0, "b")
		d.Sync()
		finishOn(t, d, k)
		if _, same := mustRecover(t, k.now(), file, 5); !same {
			t.Errorf("P9: the file %.50q is not the known one behind a sync", file)
		}
		if _, same := mustRecover(t, k.now(), file+"a", 5); same {
			t.Errorf("P9: another file is taken for %.50q", file)
		}
		save(t, d)
		d.Insert(0, "c")
		d.Sync()
		finishOn(t, d, k)
		wantFile(t, "behind Recover, a Save and a sync", k.now(), "b\na\n")
	}
}

// TestP2TheList: the list is not written into, nor what stands behind it, and it is not kept.
func TestP2TheList(t *testing.T) {
	_, k := syncedOn(t, sixty, 5)
	long := append(k.now(), "spare", "room", "")
	before := slices.Clone(long)
	swap := long[:api.Sectors]
	d, _ := mustRecover(t, swap, sixty, 5)
	wantRefused(t, "P9: every", swap, 0, api.ErrArg)
	if !slices.Equal(long, before) {
		t.Error("P2: the list was written into")
	}
	for at := range swap {
		swap[at] = strings.Repeat("!", api.SectorSize)
	}
	after := slices.Clone(long)
	if d.Text() != sixty || d.Look() != (api.View{Lines: 60}) {
		t.Errorf("P2: the list was written over by its owner: %q", d.Text())
	}
	d.Delete(0)
	d.Sync()
	finishOn(t, d, k)
	if !slices.Equal(long, after) {
		t.Error("P2: the list was written into by a sync")
	}
	wantText(t, "P10", k.now(), sixty[2:])
}

// TestP2TheBytes: not even the bytes of the sectors, and of the file, are kept.
func TestP2TheBytes(t *testing.T) {
	_, k := syncedOn(t, "a\nlonger line\n", 5)
	bytes := []byte(strings.Join(k.now(), ""))
	file := []byte("a\nlonger line\n")
	var swap []string
	for at := 0; at < len(bytes); at += api.SectorSize {
		swap = append(swap, unsafe.String(&bytes[at], api.SectorSize))
	}
	d, same := mustRecover(t, swap, unsafe.String(&file[0], len(file)), 5)
	clear(bytes)
	clear(file)
	if d.Text() != "a\nlonger line\n" || !same {
		t.Errorf("P2: behind the clearing of the bytes: %q", d.Text())
	}
	d.Insert(0, "b")
	d.Sync()
	finishOn(t, d, k)
	wantFile(t, "behind the clearing of its bytes", k.now(), "a\nlonger line\n")
}

// TestP2Again: Recover answers the same each time, whatever the documents that it gave do.
func TestP2Again(t *testing.T) {
	_, k := syncedOn(t, "a\nb\n", 5)
	swap := k.now()
	for range 5 {
		d, same := mustRecover(t, swap, "a\nb\n", 1)
		if d.Text() != "a\nb\n" || !same || d.Look() != (api.View{Lines: 2}) {
			t.Fatalf("P2: %q, %v", d.Text(), same)
		}
		d.Delete(0)
		finish(t, d)
		save(t, d)
	}
}

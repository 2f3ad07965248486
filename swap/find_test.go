package swap

import (
	"math/rand"
	"strings"
	"testing"

	"quill/api"
)

// plant writes a text into a half, as a Writer would, with any number; the other half stays as it is.
func plant(d *disk, half int, number uint64, text string, file Mark) {
	w := Writer{known: true, half: 1 - half, number: number - 1}
	for _, a := range w.Acts(text, file) {
		d.do(a)
	}
}

func all(string) bool { return true }

func TestHead(t *testing.T) {
	for _, h := range []head{
		{},
		{number: 1, text: MarkOf("a\n"), file: MarkOf("")},
		{number: 1<<64 - 1, text: Mark{Length: -1, Sum: 1<<32 - 1}, file: Mark{Length: -1 << 63, Sum: 1 << 31}},
		{number: 0x0102030405060708, text: Mark{Length: 0x1112131415161718, Sum: 0x21222324}, file: Mark{Length: 0x3132333435363738, Sum: 0x41424344}},
	} {
		s := h.sector()
		if got, ok := readHead(s); len(s) != api.SectorSize || !ok || got != h {
			t.Errorf("%+v: %+v, %v", h, got, ok)
		}
		for at := range s {
			for bit := range 8 {
				b := []byte(s)
				b[at] ^= 1 << bit
				if got, ok := readHead(string(b)); ok || got != (head{}) {
					t.Fatalf("%+v with bit %d of byte %d turned: %+v", h, bit, at, got)
				}
			}
		}
	}
	if _, ok := readHead(noughts(0)); ok {
		t.Error("noughts are a head")
	}
}

// TestHeadSummedAnew: where the sum is right and something else is not, the sector is no head either.
func TestHeadSummedAnew(t *testing.T) {
	s := head{number: 1, text: MarkOf("a\n")}.sector()
	for _, at := range []int{0, 7, 40, headSumFrom - 1} {
		b := []byte(s[:headSumFrom])
		b[at] ^= 1
		b = add(b, uint64(Sum(string(b))), 4)
		if h, ok := readHead(string(b)); ok {
			t.Errorf("with byte %d changed: %+v", at, h)
		}
	}
}

// TestLaterHalf: the later one is tried first, whichever half has it, with numbers that wrap round.
func TestLaterHalf(t *testing.T) {
	const half = 1 << 63
	for _, c := range []struct {
		n0, n1 uint64
		want   string
	}{
		{1, 2, "one\n"}, {2, 1, "nought\n"}, {3, 2, "nought\n"}, {255, 256, "one\n"}, {1 << 40, 1, "nought\n"},
		{1<<64 - 1, 0, "one\n"}, {0, 1<<64 - 1, "nought\n"}, {1<<64 - 2, 5, "one\n"},
		{0, half - 1, "one\n"}, {0, half + 1, "nought\n"}, {7, 7, "nought\n"}, {0, half, "nought\n"}, {half, 0, "nought\n"},
	} {
		d := newDisk(noughts)
		plant(d, 0, c.n0, "nought\n", MarkOf("0"))
		plant(d, 1, c.n1, "one\n", MarkOf("1"))
		if text, _, ok := find(d.now()); !ok || text != c.want {
			t.Errorf("the numbers %d and %d: %q, %v", c.n0, c.n1, text, ok)
		}
	}
}

// TestTheNext: where the later text comes to nothing, the other one is found, with its own mark; where both do, none.
func TestTheNext(t *testing.T) {
	spoil := map[string]func(d *disk, half int){
		"head":           func(d *disk, half int) { d.do(write(headAt(half), headMark)) },
		"first of body":  func(d *disk, half int) { d.do(write(bodyAt(half), "")) },
		"last of body":   func(d *disk, half int) { d.do(write(bodyAt(half)+bodySize-1, "x")) },
		"another's head": func(d *disk, half int) { d.do(write(headAt(half), head{number: 99, text: MarkOf("x\n")}.sector())) },
		"length too great": func(d *disk, half int) {
			d.do(write(headAt(half), head{number: 99, text: Mark{Length: bodySize*api.SectorSize + 1}}.sector()))
		},
		"length no length": func(d *disk, half int) { d.do(write(headAt(half), head{number: 99, text: Mark{Length: -1}}.sector())) },
		"greatest length": func(d *disk, half int) {
			d.do(write(headAt(half), head{number: 99, text: Mark{Length: 1<<63 - 1}}.sector()))
		},
		"it does not fit": func(d *disk, half int) { plant(d, half, 99, "unfit", Mark{}) },
	}
	fits := func(text string) bool { return text != "unfit" }
	for what, do := range spoil {
		for half := range 2 {
			d := newDisk(noughts)
			plant(d, half, 99, lines(60, 9), MarkOf("later"))
			plant(d, 1-half, 98, lines(60, 8), MarkOf("earlier"))
			do(d, half)
			left := d.now()
			found, ok := Find(left[:], fits)
			if want := (Writer{known: true, unsettled: true, half: 1 - half, number: 98}); !ok || found != (Found{lines(60, 8), MarkOf("earlier"), want}) {
				t.Errorf("%s of half %d: %+v, %v", what, half, found, ok)
			}
			do(d, 1-half)
			left = d.now()
			if found, ok := Find(left[:], fits); ok || found != (Found{}) {
				t.Errorf("%s of both halves: %+v", what, found)
			}
		}
	}
}

func TestNothingThere(t *testing.T) {
	fills := []string{"", headMark, strings.Repeat("\xff", api.SectorSize), strings.Repeat("\n", api.SectorSize)}
	for _, fill := range fills {
		d := newDisk(func(at int) string { return write(at, fill).Data })
		if text, _, ok := find(d.now()); ok {
			t.Errorf("sectors of %q: %q", fill, text)
		}
	}
}

// TestSettlesFirst: the Writer of a text that was read begins with a Sync, till one of its own was done.
func TestSettlesFirst(t *testing.T) {
	d := newDisk(noughts)
	plant(d, 0, 5, "a\n", MarkOf("a"))
	left := d.now()
	found, _ := Find(left[:], all)
	w := found.Next
	for range 3 {
		if acts := w.Acts("b\n", Mark{}); w.Fresh() || acts[0] != settle() || acts[1] != blot(1) {
			t.Fatalf("behind Find: %+v, %+v", acts[0], acts[1])
		}
	}
	w.Written()
	if acts := w.Acts("b\n", Mark{}); acts[0] != blot(0) || w.number != 6 {
		t.Errorf("behind a sync: %+v, %d", acts[0], w.number)
	}
}

// TestReadWhileUnsafe: the text is read from the swap as it is, while a crash may still leave what was; then, too, what goes on keeps to it.
func TestReadWhileUnsafe(t *testing.T) {
	for seed := range 40 {
		r := rand.New(rand.NewSource(int64(seed)))
		d := leftBehind(seed % 3)
		var w Writer
		allowed := map[string]bool{}
		for tag := range 10 {
			text := lines(1+r.Intn(60), tag)
			allowed[text] = true
			if syncOrFail(t, r, d, &w, text, allowed) {
				w.Written()
				allowed = map[string]bool{text: true}
			}
			if w.Fresh() || r.Intn(2) == 0 {
				continue
			}
			left := d.now()
			found, ok := Find(left[:], all)
			if !ok || !allowed[found.Text] {
				t.Fatalf("round %d: %q, %v", tag, found.Text, ok)
			}
			w = found.Next
		}
	}
}

// TestGoesOnBehindAnyNumbers: whatever the numbers of two texts are, the one that is found is found again till a sync behind it is done.
func TestGoesOnBehindAnyNumbers(t *testing.T) {
	r := rand.New(rand.NewSource(8))
	numbers := []uint64{0, 1, 2, 255, 256, 1<<63 - 1, 1 << 63, 1<<63 + 1, 1<<64 - 2, 1<<64 - 1}
	for _, n0 := range numbers {
		for _, n1 := range numbers {
			d := newDisk(noughts)
			plant(d, 0, n0, lines(60, 1000), Mark{})
			plant(d, 1, n1, lines(50, 1001), Mark{})
			left := d.now()
			found, ok := Find(left[:], all)
			if !ok {
				t.Fatalf("the numbers %d and %d: nothing", n0, n1)
			}
			w, allowed := found.Next, map[string]bool{found.Text: true}
			for tag := range 4 {
				text := lines(r.Intn(20), tag)
				allowed[text] = true
				if syncOrFail(t, r, d, &w, text, allowed) {
					w.Written()
					allowed = map[string]bool{text: true}
				}
			}
		}
	}
}

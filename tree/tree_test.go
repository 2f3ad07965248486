package tree

import (
	"math/rand"
	"slices"
	"testing"
)

// check fails if the tree is not the list, or if a node is not as a node has to be.
func check(t *testing.T, tr *Tree[int], list []int) {
	t.Helper()
	if got := slices.Collect(tr.All()); !slices.Equal(got, list) {
		t.Fatalf("All: %v, want %v", got, list)
	}
	if tr.Len() != len(list) {
		t.Fatalf("Len: %d, want %d", tr.Len(), len(list))
	}
	for i, want := range list {
		if got, ok := tr.At(i); !ok || got != want {
			t.Fatalf("At(%d): %d, %v, want %d", i, got, ok, want)
		}
	}
	checkNode(t, &tr.root, true)
}

// checkNode checks how full a node is, how many items it counts, and tells how deep it is.
func checkNode(t *testing.T, n *node[int], root bool) int {
	t.Helper()
	if n.fill() > full || !root && n.fill() < low || root && len(n.kids) == 1 {
		t.Fatalf("a node with %d items and %d kids (root: %v)", len(n.items), len(n.kids), root)
	}
	if len(n.items) > 0 && len(n.kids) > 0 {
		t.Fatal("a node that is both a leaf and a branch")
	}
	count, depth := len(n.items), 0
	for i, k := range n.kids {
		d := checkNode(t, k, false)
		if i > 0 && d != depth {
			t.Fatalf("kids of the depths %d and %d", depth, d)
		}
		count, depth = count+k.count, d
	}
	if n.count != count {
		t.Fatalf("a node that counts %d items and has %d", n.count, count)
	}
	return depth + 1
}

func TestAsAList(t *testing.T) {
	r := rand.New(rand.NewSource(7))
	for _, most := range []int{1, 8, 9, 60, 700} {
		var tr Tree[int]
		var list []int
		for step := range 3000 {
			// The tree grows and shrinks by turns.
			growing := step/(2*most+10)%2 == 0
			at := r.Intn(len(list) + 1)
			switch {
			case growing && len(list) < most && r.Intn(4) > 0:
				tr.Insert(at, step)
				list = slices.Insert(list, at, step)
			case r.Intn(3) == 0 && at < len(list):
				tr.Set(at, step)
				list[at] = step
			case at < len(list):
				tr.Delete(at)
				list = slices.Delete(list, at, at+1)
			}
			check(t, &tr, list)
		}
	}
}

func TestInOrder(t *testing.T) {
	var front, back Tree[int]
	var list []int
	for i := range 200 {
		back.Insert(i, i)
		front.Insert(0, 199-i)
		list = append(list, i)
	}
	check(t, &back, list)
	check(t, &front, list)
	for range 200 {
		list = list[1:]
		back.Delete(0)
		check(t, &back, list)
	}
	for i := range 200 {
		front.Delete(199 - i)
		checkNode(t, &front.root, true)
	}
	check(t, &front, nil)
}

func TestNoSuchPlace(t *testing.T) {
	for _, size := range []int{0, 1, 8, 9, 60} {
		var tr Tree[int]
		var list []int
		for i := range size {
			tr.Insert(i, i+1)
			list = append(list, i+1)
		}
		for _, at := range []int{-1 << 63, -1, size, size + 1, 1<<63 - 1} {
			if item, ok := tr.At(at); ok || item != 0 {
				t.Errorf("At(%d) of %d: %d, %v", at, size, item, ok)
			}
			if tr.Set(at, 5) || tr.Delete(at) || at != size && tr.Insert(at, 5) {
				t.Errorf("place %d of %d was taken for one", at, size)
			}
		}
		check(t, &tr, list)
	}
}

func TestAllStops(t *testing.T) {
	var tr Tree[int]
	for i := range 60 {
		tr.Insert(i, i)
	}
	for stop := range 60 {
		seen := 0
		for item := range tr.All() {
			if item != seen {
				t.Fatalf("item %d: %d", seen, item)
			}
			seen++
			if item == stop {
				break
			}
		}
		if seen != stop+1 {
			t.Fatalf("%d items, want %d", seen, stop+1)
		}
	}
}

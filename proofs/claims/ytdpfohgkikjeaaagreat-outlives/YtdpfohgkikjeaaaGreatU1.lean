/- Part 1 of the proof: see its parts. -/
import Derived.Test.YtdpfohgkikjeaaaGreatRows
import Derived.WalkKit
import Derived.ProofKit
import Derived.BigQuiet
import Derived.Outline
import Derived.WalkSmall
import Derived.Maps.AppendAt
import Derived.OwnWalk
import Derived.Shelf.Strings.OnBuilder
import Derived.Shelf.Strings.BuilderK
import Derived.Shelf.LaysM
import Derived.Shelf.Strconv.Clone
import Derived.Shelf.Strings.Search3
import Derived.Shelf.Slices.Clone
import Derived.Shelf.Slices.Delete
import Derived.Shelf.SlicesE.Delete
import Derived.Shelf.SlicesE.Clone
import Derived.Laws.BytesString
import Derived.Laws.CopyRow
import Derived.Deep.WholeRow
/- What the other texts of this claim stand on: a frame for memory (Kept), what a block holds, rows that are owned; no function of the program. -/
namespace Go.Proofs.YtdpfohgkikjeaaaGreat
open Go.RowKit

/-- A set of block numbers. -/
abbrev Blocks := Nat → Prop

/-- But for the blocks of S, all that was there is as it was; nothing has gone. -/
structure Kept (S : Blocks) (w w' : World) : Prop where
  os : w'.os = w.os
  tape : w'.tape = w.tape
  output : w'.output = w.output
  size : w.heap.size ≤ w'.heap.size
  block : ∀ k, k < w.heap.size → ¬ S k → w'.heap[k]? = w.heap[k]?

theorem Kept.refl (S : Blocks) (w : World) : Kept S w w := ⟨rfl, rfl, rfl, Nat.le_refl _, fun _ _ _ => rfl⟩

theorem Kept.trans {S T U : Blocks} {a b c : World} (h : Kept S a b) (k : Kept T b c) (hS : ∀ i, S i → i < a.heap.size → U i) (hT : ∀ i, T i → i < a.heap.size → U i) : Kept U a c :=
  ⟨k.os.trans h.os, k.tape.trans h.tape, k.output.trans h.output, Nat.le_trans h.size k.size, fun i hi hn =>
    (k.block i (Nat.lt_of_lt_of_le hi h.size) (fun hh => hn (hT i hh hi))).trans (h.block i hi (fun hh => hn (hS i hh hi)))⟩

/-- Two steps within one set. -/
theorem Kept.step {S : Blocks} {a b c : World} (h : Kept S a b) (k : Kept S b c) : Kept S a c := h.trans k (fun _ h _ => h) (fun _ h _ => h)

/-- A step whose set, as far as it was there at the beginning, lies within S. -/
theorem Kept.step' {S T : Blocks} {a b c : World} (h : Kept S a b) (k : Kept T b c) (hT : ∀ i, T i → i < a.heap.size → S i) : Kept S a c := h.trans k (fun _ h _ => h) hT

theorem Kept.mono {S T : Blocks} {a b : World} (h : Kept S a b) (hS : ∀ i, S i → i < a.heap.size → T i) : Kept T a b :=
  ⟨h.os, h.tape, h.output, h.size, fun i hi hn => h.block i hi (fun hh => hn (hS i hh hi))⟩

theorem Kept.drewN {S : Blocks} {a b : World} (h : Kept S a b) (n : Nat) : Kept S a (b.drewN n) := ⟨h.os, h.tape, h.output, h.size, h.block⟩
theorem Kept.drew {S : Blocks} {a b : World} (h : Kept S a b) : Kept S a b.drew := ⟨h.os, h.tape, h.output, h.size, h.block⟩
theorem Kept.of_drewN {S : Blocks} {a b : World} {n : Nat} (h : Kept S (a.drewN n) b) : Kept S a b := ⟨h.os, h.tape, h.output, h.size, h.block⟩
theorem Kept.of_drew {S : Blocks} {a b : World} (h : Kept S a.drew b) : Kept S a b := ⟨h.os, h.tape, h.output, h.size, h.block⟩

theorem Kept.alloc {S : Blocks} {a b : World} (h : Kept S a b) (o : Obj) : Kept S a (b.alloc o) :=
  h.step ⟨rfl, rfl, rfl, by simp, fun k hk _ => Below.heap_alloc _ _ _ hk⟩

theorem Kept.setCell {S : Blocks} {a b : World} (h : Kept S a b) {p : Addr} (hp : p.block < a.heap.size → S p.block) (u : Value) : Kept S a (b.setCell p u) :=
  h.step' (T := fun k => k = p.block) ⟨rfl, rfl, rfl, by simp, fun k _ hk => Below.heap_setCell _ _ _ _ hk⟩ (fun i e hi => by cases e; exact hp hi)

/-- A store into a block that was not there at the beginning. -/
theorem Kept.setNew {S : Blocks} {a b : World} (h : Kept S a b) {p : Addr} (hp : a.heap.size ≤ p.block) (u : Value) : Kept S a (b.setCell p u) := h.setCell (fun hh => absurd hh (Nat.not_lt.2 hp)) u

theorem Kept.of_below {w w' : World} (h : Below w.heap.size w w') (S : Blocks) : Kept S w w' := ⟨h.os, h.tape, h.output, h.size, fun k hk _ => h.block k hk⟩

theorem Kept.to_below {S : Blocks} {w w' : World} (h : Kept S w w') (hS : ∀ i, S i → w.heap.size ≤ i) : Below w.heap.size w w' :=
  ⟨h.os, h.tape, h.output, h.size, fun k hk => h.block k hk (fun hh => by have := hS k hh; omega)⟩

theorem Kept.of_grown {w w' : World} {row : Option Nat} (h : w.grownBy w' row) {S : Blocks} (hr : ∀ k, row = some k → k < w.heap.size → S k) : Kept S w w' :=
  ⟨h.os, h.tape, h.output, h.size, fun k hk hn => h.block k hk (fun e => hn (hr k e.symm hk))⟩

theorem lt_of_heap {w : World} {b : Nat} {o : Obj} (h : w.heap[b]? = some o) : b < w.heap.size := (Array.getElem?_eq_some_iff.1 h).1

/-- What is not in the set still lies there. -/
theorem Kept.get {S : Blocks} {w w' : World} {b : Nat} {o : Obj} (h : Kept S w w') (hb : w.heap[b]? = some o) (hn : ¬ S b) : w'.heap[b]? = some o :=
  (h.block b (lt_of_heap hb) hn).trans hb

/-! ### What a block holds -/

theorem cells_of {w : World} {b : Nat} {cs : Array Value} {T : TypeId} (h : w.heap[b]? = some (.cells cs T (0, 0))) :
    (∀ k, w.cell? ⟨b, k, none⟩ = cs[k]?) ∧ (∀ k, w.frozen? ⟨b, k, none⟩ = false) := by
  constructor
  · intro k; simp [World.cell?, h]
  · intro k; simp [World.frozen?, h]

/-- The same, whatever of the block is frozen. -/
theorem cells_of' {w : World} {b : Nat} {cs : Array Value} {T : TypeId} {f : Nat × Nat} (h : w.heap[b]? = some (.cells cs T f)) :
    ∀ k, w.cell? ⟨b, k, none⟩ = cs[k]? := by
  intro k; simp [World.cell?, h]

def setIn (o : Nat) (v : Value) : Obj → Obj
  | .cells c e f => .cells (c.setIfInBounds o v) e f
  | x => x

theorem heap_setCell {w : World} {b o k : Nat} {v : Value} : (w.setCell ⟨b, o, none⟩ v).heap[k]? = if b = k then (w.heap[k]?).map (setIn o v) else w.heap[k]? := by
  simp only [World.setCell, Array.getElem?_modify]
  split
  · rename_i h; subst h
    cases w.heap[b]? with
    | none => rfl
    | some x => cases x <;> rfl
  · rfl

theorem heap_set_same {w : World} {b o : Nat} {v : Value} {c : Array Value} {e : TypeId} {f : Nat × Nat} (h : w.heap[b]? = some (.cells c e f)) :
    (w.setCell ⟨b, o, none⟩ v).heap[b]? = some (.cells (c.setIfInBounds o v) e f) := by
  rw [heap_setCell, if_pos rfl, h]; rfl

theorem heap_set_other {w : World} {b o k : Nat} {v : Value} (h : b ≠ k) : (w.setCell ⟨b, o, none⟩ v).heap[k]? = w.heap[k]? := by
  rw [heap_setCell, if_neg h]

theorem heap_alloc_at {w : World} {o : Obj} {k : Nat} : (w.alloc o).heap[k]? = if k = w.heap.size then some o else w.heap[k]? := by
  show (w.heap.push o)[k]? = _
  rw [Array.getElem?_push]

theorem heap_alloc_same {w : World} {o : Obj} : (w.alloc o).heap[w.heap.size]? = some o := by
  rw [heap_alloc_at, if_pos rfl]

theorem heap_alloc_lt {w : World} {o : Obj} {k : Nat} (h : k < w.heap.size) : (w.alloc o).heap[k]? = w.heap[k]? := by
  rw [heap_alloc_at, if_neg (by omega)]

/-- Nothing of what was there is turned. -/
abbrev no : Blocks := fun _ => False

theorem new1 (w : World) (o : Obj) : (w.alloc o).heap[w.heap.size]? = some o ∧ (w.alloc o).heap.size = w.heap.size + 1 ∧ Kept no w (w.alloc o) :=
  ⟨heap_alloc_same, by simp, (Kept.refl _ _).alloc _⟩

theorem new2 (w : World) (o p : Obj) : ((w.alloc o).alloc p).heap[w.heap.size]? = some o ∧ ((w.alloc o).alloc p).heap[w.heap.size + 1]? = some p ∧ ((w.alloc o).alloc p).heap.size = w.heap.size + 2 ∧ Kept no w ((w.alloc o).alloc p) := by
  refine ⟨(heap_alloc_lt (by simp)).trans heap_alloc_same, ?_, by simp, ((Kept.refl _ _).alloc _).alloc _⟩
  have h := heap_alloc_same (w := w.alloc o) (o := p)
  simpa using h

/-! ### Rows that are owned -/

/-- The slice v owns a row: n elements, their cells xs. (The library's own word, from the first block on.) -/
abbrev Row (w : World) (e : TypeId) (size : Nat) (v : Value) (n : Nat) (xs : List Value) : Prop := w.ownsRow 0 e size v n xs

/-- The block of a slice. -/
def fpv (v : Value) : List Nat := v.ownBlock.toList

theorem mem_fpv {v : Value} {k : Nat} : k ∈ fpv v ↔ v.ownBlock = some k := by
  unfold fpv
  cases v.ownBlock <;> simp [eq_comm]

theorem fpv_nil : fpv (.slice none 0 0) = [] := rfl
theorem fpv_some {g o n c : Nat} : fpv (.slice (some ⟨g, o, none⟩) n c) = [g] := rfl

theorem Row.lt {w : World} {e : TypeId} {size n : Nat} {v : Value} {xs : List Value} (h : Row w e size v n xs) : ∀ k, k ∈ fpv v → k < w.heap.size := fun k hk =>
  (World.ownsRow.lt h k (mem_fpv.1 hk)).2

/-- A row lies where it lay if its block was not turned. -/
theorem Row.kept {S : Blocks} {w w' : World} {e : TypeId} {size n : Nat} {v : Value} {xs : List Value} (h : Row w e size v n xs) (k : Kept S w w') (hn : ∀ b, b ∈ fpv v → ¬ S b) : Row w' e size v n xs := by
  refine ⟨h.1, ?_⟩
  rcases h.2 with h0 | ⟨g, cap, cur, rfl, hg, hh, r⟩
  · exact .inl h0
  · exact .inr ⟨g, cap, cur, rfl, hg, k.get hh (hn g (by simp [fpv_some])), r⟩

/-- A row of one-cell elements, its cells. -/
theorem Row.cell {w : World} {e : TypeId} {size n : Nat} {xs : List Value} {g o c : Nat} (h : Row w e size (.slice (some ⟨g, o, none⟩) n c) n xs) : o = 0 ∧ n ≤ c ∧ c ≤ maxLen ∧ ∀ j u, xs[j]? = some u → w.cell? ⟨g, j, none⟩ = some u := by
  rcases h.2 with ⟨h0, _⟩ | ⟨g', cap, cur, hv, _, hh, h1, h2, h3, h4⟩
  · cases h0
  · simp only [Value.slice.injEq, Option.some.injEq, Addr.mk.injEq, and_true, true_and] at hv
    obtain ⟨⟨rfl, rfl⟩, rfl⟩ := hv
    refine ⟨rfl, h1, h2, fun j u hu => ?_⟩
    rw [cells_of' hh]
    rw [← h4, List.getElem?_take] at hu
    split at hu
    · simpa using hu
    · cases hu

/-- The two shapes of a row. -/
theorem Row.shape {w : World} {e : TypeId} {size n : Nat} {v : Value} {xs : List Value} (h : Row w e size v n xs) :
    (v = .slice none 0 0 ∧ n = 0 ∧ xs = []) ∨ ∃ g c, v = .slice (some ⟨g, 0, none⟩) n c ∧ n ≤ c ∧ c ≤ maxLen := by
  rcases h.2 with ⟨rfl, rfl⟩ | ⟨g, cap, cur, rfl, _, _, h1, h2, _⟩
  · exact .inl ⟨rfl, rfl, List.eq_nil_of_length_eq_zero (by simpa using h.1)⟩
  · exact .inr ⟨g, cap, rfl, h1, h2⟩

theorem Row.len {w : World} {e : TypeId} {n : Nat} {v : Value} {xs : List Value} (h : Row w e 1 v n xs) : xs.length = n := by simpa using h.1

end Go.Proofs.YtdpfohgkikjeaaaGreat
/- The library's contracts, laid over this program: tables of numbers, and applications. -/
namespace Go.Proofs
open Go.Shelf
def Tryz.lays156_ren : Go.Shelf.Ren := ⟨fun | 156 => 133 | 165 => 144 | 166 => 50 | 169 => 51 | 240 => 82 | 241 => 153 | 276 => 106 | 277 => 158 | n => n, fun | 31 => 34 | 9 => 9 | 3 => 3 | 4 => 4 | 0 => 0 | 20 => 20 | 72 => 106 | 76 => 112 | 70 => 104 | 37 => 56 | 75 => 111 | 127 => 140 | 164 => 170 | 5 => 5 | 80 => 53 | n => n, fun | n => n⟩
theorem Tryz.lays156 : Go.Proofs.Lays.n156 Tryz.prog Tryz.lays156_ren := {
  mixed := by kernel_rfl
  f156 := Tryz.func133.trans (congrArg some (by kernel_rfl))
  f165 := Tryz.func144.trans (congrArg some (by kernel_rfl))
  f166 := Tryz.func50.trans (congrArg some (by kernel_rfl))
  f169 := Tryz.func51.trans (congrArg some (by kernel_rfl))
  f240 := Tryz.func82.trans (congrArg some (by kernel_rfl))
  f241 := Tryz.func153.trans (congrArg some (by kernel_rfl))
  f276 := Tryz.func106.trans (congrArg some (by kernel_rfl))
  f277 := Tryz.func158.trans (congrArg some (by kernel_rfl))
  t0 := Tryz.underlying0
  a0 := Tryz.isAgg0
  z0 := Tryz.sizeOf0
  v0 := Tryz.zeroValue0
  t3 := Tryz.underlying3
  a3 := Tryz.isAgg3
  z3 := Tryz.sizeOf3
  v3 := Tryz.zeroValue3
  t4 := Tryz.underlying4
  a4 := Tryz.isAgg4
  z4 := Tryz.sizeOf4
  v4 := Tryz.zeroValue4
  t9 := Tryz.underlying9
  a9 := Tryz.isAgg9
  z9 := Tryz.sizeOf9
  v9 := Tryz.zeroValue9
  t20 := Tryz.underlying20
  a20 := Tryz.isAgg20
  z20 := Tryz.sizeOf20
  v20 := Tryz.zeroValue20
  t31 := Tryz.underlying34
  a31 := Tryz.isAgg34
  z31 := Tryz.sizeOf34
  v31 := Tryz.zeroValue34
  t37 := Tryz.underlying56
  a37 := Tryz.isAgg56
  z37 := Tryz.sizeOf56
  v37 := Tryz.zeroValue56
  t70 := Tryz.underlying104
  a70 := Tryz.isAgg104
  z70 := Tryz.sizeOf104
  v70 := Tryz.zeroValue104
  t72 := Tryz.underlying106
  a72 := Tryz.isAgg106
  z72 := Tryz.sizeOf106
  v72 := Tryz.zeroValue106
  t75 := Tryz.underlying111
  a75 := Tryz.isAgg111
  z75 := Tryz.sizeOf111
  v75 := Tryz.zeroValue111
  t76 := Tryz.underlying112
  a76 := Tryz.isAgg112
  z76 := Tryz.sizeOf112
  v76 := Tryz.zeroValue112
  t127 := Tryz.underlying140
  a127 := Tryz.isAgg140
  z127 := Tryz.sizeOf140
  v127 := Tryz.zeroValue140
  t164 := Tryz.underlying170
  a164 := Tryz.isAgg170
  z164 := Tryz.sizeOf170
  v164 := Tryz.zeroValue170 }
theorem Tryz.Builder_Extra_156 : Builder.Extra Tryz.prog Tryz.lays156_ren := {
  sizeBuilder := by kernel_rfl
  liesBuilder := by kernel_rfl
  t5 := Tryz.underlying5
  a5 := Tryz.isAgg5
  z5 := Tryz.sizeOf5
  v5 := Tryz.zeroValue5
  infoByte := by kernel_rfl
  cellsByte := by kernel_rfl
  sizeByte := by kernel_rfl
  neB5 := by decide }
def Tryz.laysM316_ren : Go.Shelf.Ren := ⟨fun | 316 => 100 | n => n, fun | 9 => 9 | 3 => 3 | 4 => 4 | 37 => 56 | 0 => 0 | 127 => 140 | 5 => 5 | n => n, fun | n => n⟩
theorem Tryz.laysM316 : Go.Proofs.LaysM.n316 Tryz.prog Tryz.laysM316_ren := {
  mixed := by kernel_rfl
  f316 := Tryz.func100.trans (congrArg some (by kernel_rfl))
  t0 := Tryz.underlying0
  a0 := Tryz.isAgg0
  z0 := Tryz.sizeOf0
  v0 := Tryz.zeroValue0
  t3 := Tryz.underlying3
  a3 := Tryz.isAgg3
  z3 := Tryz.sizeOf3
  v3 := Tryz.zeroValue3
  t4 := Tryz.underlying4
  a4 := Tryz.isAgg4
  z4 := Tryz.sizeOf4
  v4 := Tryz.zeroValue4
  t9 := Tryz.underlying9
  a9 := Tryz.isAgg9
  z9 := Tryz.sizeOf9
  v9 := Tryz.zeroValue9
  t37 := Tryz.underlying56
  a37 := Tryz.isAgg56
  z37 := Tryz.sizeOf56
  v37 := Tryz.zeroValue56
  t127 := Tryz.underlying140
  a127 := Tryz.isAgg140
  z127 := Tryz.sizeOf140
  v127 := Tryz.zeroValue140
  t5 := Tryz.underlying5
  a5 := Tryz.isAgg5
  z5 := Tryz.sizeOf5
  v5 := Tryz.zeroValue5
  i0 := by kernel_rfl
  i3 := by kernel_rfl
  i4 := by kernel_rfl
  i5 := by kernel_rfl
  i9 := by kernel_rfl
  i37 := by kernel_rfl
  i127 := by kernel_rfl }
def Tryz.lays144_ren : Go.Shelf.Ren := ⟨fun | 144 => 84 | 143 => 111 | 219 => 137 | 217 => 147 | 225 => 148 | 224 => 149 | 267 => 150 | 266 => 155 | 314 => 156 | n => n, fun | 9 => 9 | 4 => 4 | 3 => 3 | 5 => 5 | 46 => 205 | 146 => 211 | 51 => 91 | n => n, fun | 1 => 0 | n => n⟩
theorem Tryz.lays144 : Go.Proofs.Lays.n144 Tryz.prog Tryz.lays144_ren := {
  mixed := by kernel_rfl
  f143 := Tryz.func111.trans (congrArg some (by kernel_rfl))
  f144 := Tryz.func84.trans (congrArg some (by kernel_rfl))
  f217 := Tryz.func147.trans (congrArg some (by kernel_rfl))
  f219 := Tryz.func137.trans (congrArg some (by kernel_rfl))
  f224 := Tryz.func149.trans (congrArg some (by kernel_rfl))
  f225 := Tryz.func148.trans (congrArg some (by kernel_rfl))
  f266 := Tryz.func155.trans (congrArg some (by kernel_rfl))
  f267 := Tryz.func150.trans (congrArg some (by kernel_rfl))
  f314 := Tryz.func156.trans (congrArg some (by kernel_rfl))
  t3 := Tryz.underlying3
  a3 := Tryz.isAgg3
  z3 := Tryz.sizeOf3
  v3 := Tryz.zeroValue3
  t4 := Tryz.underlying4
  a4 := Tryz.isAgg4
  z4 := Tryz.sizeOf4
  v4 := Tryz.zeroValue4
  t5 := Tryz.underlying5
  a5 := Tryz.isAgg5
  z5 := Tryz.sizeOf5
  v5 := Tryz.zeroValue5
  t9 := Tryz.underlying9
  a9 := Tryz.isAgg9
  z9 := Tryz.sizeOf9
  v9 := Tryz.zeroValue9
  t46 := Tryz.underlying205
  a46 := Tryz.isAgg205
  z46 := Tryz.sizeOf205
  v46 := Tryz.zeroValue205
  t51 := Tryz.underlying91
  a51 := Tryz.isAgg91
  z51 := Tryz.sizeOf91
  v51 := Tryz.zeroValue91
  t146 := Tryz.underlying211
  a146 := Tryz.isAgg211
  z146 := Tryz.sizeOf211
  v146 := Tryz.zeroValue211
  g1 := by kernel_rfl }
def Tryz.laysNm216_ren : Go.Shelf.Ren := ⟨fun | 16 => 139 | n => n, fun | 24 => 34 | 9 => 9 | 4 => 4 | n => n, fun | n => n⟩
theorem Tryz.laysNm216 : Go.Proofs.Lays2.n16 Tryz.prog Tryz.laysNm216_ren := {
  mixed := by kernel_rfl
  f16 := Tryz.func139.trans (congrArg some (by kernel_rfl))
  t4 := Tryz.underlying4
  a4 := Tryz.isAgg4
  z4 := Tryz.sizeOf4
  v4 := Tryz.zeroValue4
  t9 := Tryz.underlying9
  a9 := Tryz.isAgg9
  z9 := Tryz.sizeOf9
  v9 := Tryz.zeroValue9
  t24 := Tryz.underlying34
  a24 := Tryz.isAgg34
  z24 := Tryz.sizeOf34
  v24 := Tryz.zeroValue34
  i9 := by kernel_rfl }
def Tryz.laysNm224_ren : Go.Shelf.Ren := ⟨fun | 24 => 108 | n => n, fun | 24 => 34 | 9 => 9 | 3 => 3 | 4 => 4 | 0 => 0 | n => n, fun | n => n⟩
theorem Tryz.laysNm224 : Go.Proofs.Lays2.n24 Tryz.prog Tryz.laysNm224_ren := {
  mixed := by kernel_rfl
  f24 := Tryz.func108.trans (congrArg some (by kernel_rfl))
  t0 := Tryz.underlying0
  a0 := Tryz.isAgg0
  z0 := Tryz.sizeOf0
  v0 := Tryz.zeroValue0
  t3 := Tryz.underlying3
  a3 := Tryz.isAgg3
  z3 := Tryz.sizeOf3
  v3 := Tryz.zeroValue3
  t4 := Tryz.underlying4
  a4 := Tryz.isAgg4
  z4 := Tryz.sizeOf4
  v4 := Tryz.zeroValue4
  t9 := Tryz.underlying9
  a9 := Tryz.isAgg9
  z9 := Tryz.sizeOf9
  v9 := Tryz.zeroValue9
  t24 := Tryz.underlying34
  a24 := Tryz.isAgg34
  z24 := Tryz.sizeOf34
  v24 := Tryz.zeroValue34
  i9 := by kernel_rfl }
end Go.Proofs
/- Plain mathematics of the document: bytes, sums, marks, heads; nothing of the program. -/
namespace Go.Proofs.YtdpfohgkikjeaaaGreat

/-- Bytes. -/
abbrev Str := List UInt8

/-- Noughts. -/
def zs (n : Nat) : Str := List.replicate n 0
theorem zs_length (n : Nat) : (zs n).length = n := by simp [zs]
theorem zs_add (a b : Nat) : zs (a + b) = zs a ++ zs b := by simp [zs, List.replicate_append_replicate]
theorem zs_drop (n k : Nat) : (zs n).drop k = zs (n - k) := by simp [zs]
theorem zs_take (n k : Nat) : (zs n).take k = zs (min k n) := by simp [zs]

/-- A sector of these bytes, noughts behind them. -/
def pad (l : Str) : Str := l ++ zs (64 - l.length)

theorem pad_length {l : Str} (h : l.length ≤ 64) : (pad l).length = 64 := by simp [pad, zs_length]; omega

/-! ### The sum -/
def crcBit (s : Nat) : Nat := if s % 2 = 1 then (s / 2) ^^^ 2197175160 else s / 2
def crcBits : Nat → Nat → Nat
  | 0, s => s
  | n + 1, s => crcBit (crcBits n s)
def crcByte (s : Nat) (b : UInt8) : Nat := crcBits 8 (s ^^^ b.toNat)
def crcFrom (s : Nat) (l : Str) : Nat := l.foldl crcByte s
def crc (l : Str) : Nat := 4294967295 - crcFrom 4294967295 l

theorem xor_lt32 {a b : Nat} (ha : a < 4294967296) (hb : b < 4294967296) : a ^^^ b < 4294967296 := Nat.xor_lt_two_pow (n := 32) ha hb

theorem crcBit_lt {s : Nat} (h : s < 4294967296) : crcBit s < 4294967296 := by
  unfold crcBit
  split
  · exact xor_lt32 (by omega) (by omega)
  · omega

theorem crcBits_lt (n : Nat) {s : Nat} (h : s < 4294967296) : crcBits n s < 4294967296 := by
  induction n with
  | zero => exact h
  | succ n ih => exact crcBit_lt ih

theorem crcByte_lt {s : Nat} (b : UInt8) (h : s < 4294967296) : crcByte s b < 4294967296 :=
  crcBits_lt 8 (xor_lt32 h (by have := b.toNat_lt; omega))

theorem crcFrom_lt (l : Str) {s : Nat} (h : s < 4294967296) : crcFrom s l < 4294967296 := by
  induction l generalizing s with
  | nil => exact h
  | cons b l ih => exact ih (crcByte_lt b h)

theorem crc_lt (l : Str) : crc l < 4294967296 := by unfold crc; omega

theorem crcFrom_snoc (s : Nat) (l : Str) (b : UInt8) : crcFrom s (l ++ [b]) = crcByte (crcFrom s l) b := by simp [crcFrom]

/-! ### Numbers as bytes, the lowest first -/
def le : Nat → Nat → Str
  | 0, _ => []
  | k + 1, n => le k n ++ [UInt8.ofNat (n / 256 ^ k)]

theorem le_length (k n : Nat) : (le k n).length = k := by
  induction k with
  | zero => rfl
  | succ k ih => simp [le, ih]

def unle : Str → Nat
  | [] => 0
  | b :: l => b.toNat + 256 * unle l

theorem unle_lt (l : Str) : unle l < 256 ^ l.length := by
  induction l with
  | nil => simp [unle]
  | cons b l ih =>
    have hb := b.toNat_lt
    simp only [unle, List.length_cons, Nat.pow_succ]
    omega

theorem unle_append (a b : Str) : unle (a ++ b) = unle a + 256 ^ a.length * unle b := by
  induction a with
  | nil => simp [unle]
  | cons x a ih =>
    simp only [List.cons_append, unle, ih, List.length_cons, Nat.pow_succ, Nat.mul_add]
    rw [Nat.mul_comm (256 ^ a.length) 256, Nat.mul_assoc, Nat.add_assoc]

theorem unle_le (k n : Nat) : unle (le k n) = n % 256 ^ k := by
  induction k with
  | zero => simp [le, unle, Nat.mod_one]
  | succ k ih =>
    rw [le, unle_append, ih, le_length, Nat.mod_pow_succ]
    simp [unle]

/-! ### Marks and heads -/
/-- What is remembered of a file. -/
structure Mark where
  len : Int
  sum : Nat

/-- What a half tells of its text. -/
structure Head where
  number : Nat
  text : Mark
  file : Mark

/-- A number, and one of 32 bits: what a mark is as bytes. (A length below nought comes round.) -/
def leMark (m : Mark) : Str := le 8 (m.len % 18446744073709551616).toNat ++ le 4 m.sum

def magic : Str := [113, 117, 105, 108, 108, 116, 120, 116]
def headTold (h : Head) : Str := magic ++ le 8 h.number ++ leMark h.text ++ leMark h.file
def headBody (h : Head) : Str := headTold h ++ zs 20
def headBytes (h : Head) : Str := headBody h ++ le 4 (crc (headBody h))

/-- A number of 64 bits as a length. -/
def i64 (n : Nat) : Int := if n < 9223372036854775808 then (n : Int) else (n : Int) - 18446744073709551616

/-- Is the first number ahead by less than half of the way round? -/
def isLater (a b : Nat) : Bool := decide (0 < i64 ((a + 18446744073709551616 - b) % 18446744073709551616))

def parseMark (s : Str) : Mark := ⟨i64 (unle (s.take 8)), unle ((s.drop 8).take 4)⟩
def parseHead (s : Str) : Head := ⟨unle ((s.drop 8).take 8), parseMark (s.drop 16), parseMark (s.drop 28)⟩
/-- A head, if the sector is one. -/
def readHead (s : Str) : Option Head := if headBytes (parseHead s) = s then some (parseHead s) else none

/-- Which half to try first: if both have heads, that of the later text. -/
def laterHalf (s0 s1 : Str) : Nat :=
  match readHead s0, readHead s1 with
  | _, none => 0
  | none, some _ => 1
  | some h0, some h1 => if isLater h1.number h0.number then 1 else 0

theorem leMark_length (m : Mark) : (leMark m).length = 12 := by simp [leMark, le_length]
theorem headTold_length (h : Head) : (headTold h).length = 40 := by simp [headTold, le_length, leMark_length, magic]
theorem headBody_length (h : Head) : (headBody h).length = 60 := by simp [headBody, headTold_length, zs_length]
theorem headBytes_length (h : Head) : (headBytes h).length = 64 := by simp [headBytes, headBody_length, le_length]

end Go.Proofs.YtdpfohgkikjeaaaGreat
/- Rows of bytes: copied into, made of a string, made a string of. -/
namespace Go.Proofs.YtdpfohgkikjeaaaGreat
open Go.RowKit
set_option linter.unusedVariables false
set_option linter.unusedSimpArgs false

theorem bytes_eq {a b : ByteArray} (h : a.data.toList = b.data.toList) : a = b := ByteArray.ext (Array.toList_inj.1 h)
theorem bytes_eta (s : ByteArray) : (⟨s.data.toList.toArray⟩ : ByteArray) = s := rfl
theorem extract_list (s : ByteArray) (i j : Nat) : s.extract i j = ⟨((s.data.toList.take j).drop i).toArray⟩ := by
  apply bytes_eq
  rw [ByteArray.data_extract]
  simp [List.drop_take, List.extract_eq_take_drop]

/-- The cells of bytes. -/
def bcells (l : Str) : List Value := l.map fun b => Value.int .u8 (b.toNat : Int)

theorem bcells_length (l : Str) : (bcells l).length = l.length := by simp [bcells]
theorem bcells_one (l : Str) : ∀ v ∈ bcells l, v.oneCell' = true := by
  intro v hv
  simp only [bcells, List.mem_map] at hv
  obtain ⟨b, _, rfl⟩ := hv
  rfl
theorem bcells_append (a b : Str) : bcells (a ++ b) = bcells a ++ bcells b := by simp [bcells]
theorem bcells_drop (l : Str) (k : Nat) : bcells (l.drop k) = (bcells l).drop k := by simp [bcells]
theorem bcells_take (l : Str) (k : Nat) : bcells (l.take k) = (bcells l).take k := by simp [bcells]
theorem bcells_get {l : Str} {j : Nat} {v : Value} (h : (bcells l)[j]? = some v) : ∃ b, l[j]? = some b ∧ v = .int .u8 (b.toNat : Int) := by
  simp only [bcells, List.getElem?_map, Option.map_eq_some_iff] at h
  obtain ⟨b, hb, rfl⟩ := h
  exact ⟨b, hb, rfl⟩

theorem add_at (g o j : Nat) : (⟨g, o, none⟩ : Addr).add j = ⟨g, o + j, none⟩ := by unfold Addr.add; split <;> simp_all

/-- A block whose cells, from o on, are some bytes. -/
def BytesAt (w : World) (g o : Nat) (l : Str) : Prop := ∀ j v, (bcells l)[j]? = some v → w.cell? ⟨g, o + j, none⟩ = some v

section
variable {P : Program}

/-- 'copy' of a string into a row. -/
theorem run_copy_str (w : World) (dT sT ty elem : TypeId) (g o dLen dCap : Nat) (s : ByteArray) (cur : Array Value) (t : TypeId)
    (hu : P.underlying dT = some (.slice elem)) (hs : (P.info? elem).map (·.size) = some 1)
    (hg : w.heap[g]? = some (.cells cur t (0, 0))) (hn : s.size ≤ dLen) (hfit : o + s.size ≤ cur.size) :
    (Builtin.copy_ #[dT, sT] ty #[.slice (some ⟨g, o, none⟩) dLen dCap, .string s]).run P w =
      .ok (goInt s.size) (w.setRow g (cur.toList.take o ++ bcells s.data.toList ++ cur.toList.drop (o + s.size)).toArray) := by
  have hl : (bcells s.data.toList).length = s.size := by rw [bcells_length, Array.length_toList]; rfl
  have hst := run_storeCells_at P g o t (bcells s.data.toList) 0 cur w hg (by rw [hl]; simpa using hfit) (bcells_one _)
  rw [hl] at hst
  simp only [Nat.add_zero] at hst
  cases hq : P.info? elem with
  | none => simp [hq] at hs
  | some i =>
    have hi : i.size = 1 := by simpa [hq] using hs
    have hm : Nat.min s.size dLen = s.size := Nat.min_eq_left hn
    have hx : List.take s.size (List.map (fun (b : UInt8) => Value.int IntKind.u8 (b.toNat : Int)) s.data.toList) = bcells s.data.toList :=
      List.take_of_length_le (by rw [List.length_map, Array.length_toList]; exact Nat.le_refl _)
    simp [Builtin.copy_, run_underlying hu, Builtin.lenOf, Builtin.firstCells, sizeOf, typeInfo, hq, hm, hx, hst]

theorem foldl_bytes (l : Str) (s : ByteArray) : ((l.map fun b => (b.toNat : Int)).foldl (fun r n => r.push (UInt8.ofNat n.toNat)) s) = ⟨s.data ++ l.toArray⟩ := by
  induction l generalizing s with
  | nil => simp
  | cons b l ih =>
    simp only [List.map_cons, List.foldl_cons]
    rw [ih]
    congr 1
    simp [ByteArray.push]

/-- A slice of bytes made a string. -/
theorem run_bytes_str (w : World) (src dst e : TypeId) (g o cap : Nat) (l : Str) (hs : P.underlying src = some (.slice e)) (he : P.underlying e = some (.int .u8)) (hd : P.underlying dst = some .string)
    (h : BytesAt w g o l) : (convert src dst (.slice (some ⟨g, o, none⟩) l.length cap)).run P w = .ok (.string ⟨l.toArray⟩) w := by
  rw [run_convert_bytes_string w src dst e _ _ _ hs he hd]
  have hl := run_loadCells_list (P := P) w ⟨g, o, none⟩ (bcells l) (fun j v hv => by rw [add_at]; exact h j v hv)
  rw [bcells_length] at hl
  have e1 : (bcells l).toArray = ((l.map fun b => (b.toNat : Int)).map (Value.int .u8)).toArray := by simp [bcells, Function.comp_def]
  rw [e1] at hl
  rw [run_bytesToString w _ _ cap _ hl, foldl_bytes]
  simp
end

theorem BytesAt.of_row {w : World} {g o : Nat} {t : TypeId} {f : Nat × Nat} {cs : List Value} {l : Str} (h : w.heap[g]? = some (.cells cs.toArray t f)) (hc : ∀ j v, (bcells l)[j]? = some v → cs[o + j]? = some v) : BytesAt w g o l := by
  intro j v hv
  rw [cells_of' h]
  simpa using hc j v hv

theorem heap_setRow_same {w : World} {g : Nat} {old cs : Array Value} {t : TypeId} {f : Nat × Nat} (h : w.heap[g]? = some (.cells old t f)) : (w.setRow g cs).heap[g]? = some (.cells cs t f) := setRow_heap w g old cs t f h

theorem Kept.setRow {S : Blocks} {a b : World} (h : Kept S a b) {g : Nat} (hg : g < a.heap.size → S g) (cs : Array Value) : Kept S a (b.setRow g cs) :=
  h.step' (T := fun k => k = g) ⟨rfl, rfl, rfl, by simp, fun k _ hk => setRow_other b g k cs hk⟩ (fun i e hi => by cases e; exact hg hi)

/-- '[]byte("..")' of a constant: the row gets a mark behind its end. -/
theorem run_mark {P : Program} (V : World) (t e : TypeId) (g n c : Nat) (C : Array Value) (ht : P.underlying t = some (.slice e)) (he : P.underlying e = some (.int .u8)) (h : V.heap[g]? = some (.cells C e (0, 0))) :
    (convert t t (.slice (some ⟨g, 0, none⟩) n c)).run P V = .ok (.slice (some ⟨g, 0, none⟩) n c) (V.freeze ⟨g, C.size, none⟩ 1) := by
  have hsh : V.shape? g = some (e, C.size) := by simp [World.shape?, h]
  simp [convert, run_underlying ht, run_underlying he, markStringish, hsh]

theorem heap_freeze {w : World} {g o n k : Nat} : (w.freeze ⟨g, o, none⟩ n).heap[k]? = if n = 0 ∨ g ≠ k then w.heap[k]? else
    (w.heap[k]?).map fun | .cells c elem (lo, hi) => .cells c elem (if lo == hi then (o, o + n) else (min lo o, max hi (o + n))) | x => x := by
  unfold World.freeze
  by_cases hn : n = 0
  · simp [hn]
  · rw [if_neg hn]
    simp only [Array.getElem?_modify]
    by_cases hg : g = k
    · subst hg; simp [hn]; cases w.heap[g]? with
      | none => rfl
      | some x => cases x <;> rfl
    · simp [hg]

theorem heap_freeze_other {w : World} {g o n k : Nat} (h : g ≠ k) : (w.freeze ⟨g, o, none⟩ n).heap[k]? = w.heap[k]? := by
  rw [heap_freeze, if_pos (.inr h)]

theorem heap_mark {V : World} {g : Nat} {C : Array Value} {e : TypeId} (h : V.heap[g]? = some (.cells C e (0, 0))) : (V.freeze ⟨g, C.size, none⟩ 1).heap[g]? = some (.cells C e (C.size, C.size + 1)) := by
  rw [heap_freeze, if_neg (by simp), h]; rfl

theorem size_freeze (w : World) (a : Addr) (n : Nat) : (w.freeze a n).heap.size = w.heap.size := by
  unfold World.freeze
  split <;> simp

theorem Kept.freeze {S : Blocks} {a b : World} (h : Kept S a b) {p : Addr} (hp : a.heap.size ≤ p.block) (hs : p.spot = none) (n : Nat) : Kept S a (b.freeze p n) := by
  obtain ⟨g, o, s⟩ := p
  subst hs
  refine h.step' (T := fun k => k = g) ⟨?_, ?_, ?_, by rw [size_freeze]; exact Nat.le_refl _, fun k _ hk => ?_⟩ (fun i e hi => ?_)
  · unfold World.freeze; split <;> rfl
  · unfold World.freeze; split <;> rfl
  · unfold World.freeze; split <;> rfl
  · rw [heap_freeze, if_pos (.inr (fun e => hk e.symm))]
  · dsimp only at *; omega

end Go.Proofs.YtdpfohgkikjeaaaGreat

/- Part W 1 of the proof: see its parts. -/
import Derived.WalkKit
import Derived.ProofKit
import Derived.BigQuiet
import Derived.Outline
import Derived.WalkSmall
import Derived.Maps.AppendAt
import Derived.OwnWalk
import Derived.Shelf.Strings.OnBuilder
import Derived.Shelf.Strings.BuilderK
import Derived.Shelf.LaysM
import Derived.Shelf.Strconv.Clone
import Derived.Shelf.Strings.Search3
import Derived.Shelf.Slices.Clone
import Derived.Shelf.Slices.Delete
import Derived.Shelf.SlicesE.Delete
import Derived.Shelf.SlicesE.Clone
import Derived.Laws.BytesString
import Derived.Laws.CopyRow
import Derived.Deep.WholeRow
import Derived.Laws.BitsAllLaws
import Derived.Still
import Derived.KernelRfl
import Derived.Lib.SlBytesConst
import Derived.Test.YtdpfohgkikjeaaaGreatRows
/- What the other texts of this claim stand on: a frame for memory (Kept), what a block holds, rows that are owned; no function of the program. -/
namespace Go.Proofs.YtdpfohgkikjeaaaGreat
open Go.RowKit

/-- A set of block numbers. -/
abbrev Blocks := Nat → Prop

/-- But for the blocks of S, all that was there is as it was; nothing has gone. -/
structure Kept (S : Blocks) (w w' : World) : Prop where
  os : w'.os = w.os
  tape : w'.tape = w.tape
  output : w'.output = w.output
  size : w.heap.size ≤ w'.heap.size
  block : ∀ k, k < w.heap.size → ¬ S k → w'.heap[k]? = w.heap[k]?

theorem Kept.refl (S : Blocks) (w : World) : Kept S w w := ⟨rfl, rfl, rfl, Nat.le_refl _, fun _ _ _ => rfl⟩

theorem Kept.trans {S T U : Blocks} {a b c : World} (h : Kept S a b) (k : Kept T b c) (hS : ∀ i, S i → i < a.heap.size → U i) (hT : ∀ i, T i → i < a.heap.size → U i) : Kept U a c :=
  ⟨k.os.trans h.os, k.tape.trans h.tape, k.output.trans h.output, Nat.le_trans h.size k.size, fun i hi hn =>
    (k.block i (Nat.lt_of_lt_of_le hi h.size) (fun hh => hn (hT i hh hi))).trans (h.block i hi (fun hh => hn (hS i hh hi)))⟩

/-- Two steps within one set. -/
theorem Kept.step {S : Blocks} {a b c : World} (h : Kept S a b) (k : Kept S b c) : Kept S a c := h.trans k (fun _ h _ => h) (fun _ h _ => h)

/-- A step whose set, as far as it was there at the beginning, lies within S. -/
theorem Kept.step' {S T : Blocks} {a b c : World} (h : Kept S a b) (k : Kept T b c) (hT : ∀ i, T i → i < a.heap.size → S i) : Kept S a c := h.trans k (fun _ h _ => h) hT

theorem Kept.mono {S T : Blocks} {a b : World} (h : Kept S a b) (hS : ∀ i, S i → i < a.heap.size → T i) : Kept T a b :=
  ⟨h.os, h.tape, h.output, h.size, fun i hi hn => h.block i hi (fun hh => hn (hS i hh hi))⟩

theorem Kept.drewN {S : Blocks} {a b : World} (h : Kept S a b) (n : Nat) : Kept S a (b.drewN n) := ⟨h.os, h.tape, h.output, h.size, h.block⟩
theorem Kept.drew {S : Blocks} {a b : World} (h : Kept S a b) : Kept S a b.drew := ⟨h.os, h.tape, h.output, h.size, h.block⟩
theorem Kept.of_drewN {S : Blocks} {a b : World} {n : Nat} (h : Kept S (a.drewN n) b) : Kept S a b := ⟨h.os, h.tape, h.output, h.size, h.block⟩
theorem Kept.of_drew {S : Blocks} {a b : World} (h : Kept S a.drew b) : Kept S a b := ⟨h.os, h.tape, h.output, h.size, h.block⟩

theorem Kept.alloc {S : Blocks} {a b : World} (h : Kept S a b) (o : Obj) : Kept S a (b.alloc o) :=
  h.step ⟨rfl, rfl, rfl, by simp, fun k hk _ => Below.heap_alloc _ _ _ hk⟩

theorem Kept.setCell {S : Blocks} {a b : World} (h : Kept S a b) {p : Addr} (hp : p.block < a.heap.size → S p.block) (u : Value) : Kept S a (b.setCell p u) :=
  h.step' (T := fun k => k = p.block) ⟨rfl, rfl, rfl, by simp, fun k _ hk => Below.heap_setCell _ _ _ _ hk⟩ (fun i e hi => by cases e; exact hp hi)

/-- A store into a block that was not there at the beginning. -/
theorem Kept.setNew {S : Blocks} {a b : World} (h : Kept S a b) {p : Addr} (hp : a.heap.size ≤ p.block) (u : Value) : Kept S a (b.setCell p u) := h.setCell (fun hh => absurd hh (Nat.not_lt.2 hp)) u

theorem Kept.of_below {w w' : World} (h : Below w.heap.size w w') (S : Blocks) : Kept S w w' := ⟨h.os, h.tape, h.output, h.size, fun k hk _ => h.block k hk⟩

theorem Kept.to_below {S : Blocks} {w w' : World} (h : Kept S w w') (hS : ∀ i, S i → w.heap.size ≤ i) : Below w.heap.size w w' :=
  ⟨h.os, h.tape, h.output, h.size, fun k hk => h.block k hk (fun hh => by have := hS k hh; omega)⟩

theorem Kept.of_grown {w w' : World} {row : Option Nat} (h : w.grownBy w' row) {S : Blocks} (hr : ∀ k, row = some k → k < w.heap.size → S k) : Kept S w w' :=
  ⟨h.os, h.tape, h.output, h.size, fun k hk hn => h.block k hk (fun e => hn (hr k e.symm hk))⟩

theorem lt_of_heap {w : World} {b : Nat} {o : Obj} (h : w.heap[b]? = some o) : b < w.heap.size := (Array.getElem?_eq_some_iff.1 h).1

/-- What is not in the set still lies there. -/
theorem Kept.get {S : Blocks} {w w' : World} {b : Nat} {o : Obj} (h : Kept S w w') (hb : w.heap[b]? = some o) (hn : ¬ S b) : w'.heap[b]? = some o :=
  (h.block b (lt_of_heap hb) hn).trans hb

/-! ### What a block holds -/

theorem cells_of {w : World} {b : Nat} {cs : Array Value} {T : TypeId} (h : w.heap[b]? = some (.cells cs T (0, 0))) :
    (∀ k, w.cell? ⟨b, k, none⟩ = cs[k]?) ∧ (∀ k, w.frozen? ⟨b, k, none⟩ = false) := by
  constructor
  · intro k; simp [World.cell?, h]
  · intro k; simp [World.frozen?, h]

/-- The same, whatever of the block is frozen. -/
theorem cells_of' {w : World} {b : Nat} {cs : Array Value} {T : TypeId} {f : Nat × Nat} (h : w.heap[b]? = some (.cells cs T f)) :
    ∀ k, w.cell? ⟨b, k, none⟩ = cs[k]? := by
  intro k; simp [World.cell?, h]

def setIn (o : Nat) (v : Value) : Obj → Obj
  | .cells c e f => .cells (c.setIfInBounds o v) e f
  | x => x

theorem heap_setCell {w : World} {b o k : Nat} {v : Value} : (w.setCell ⟨b, o, none⟩ v).heap[k]? = if b = k then (w.heap[k]?).map (setIn o v) else w.heap[k]? := by
  simp only [World.setCell, Array.getElem?_modify]
  split
  · rename_i h; subst h
    cases w.heap[b]? with
    | none => rfl
    | some x => cases x <;> rfl
  · rfl

theorem heap_set_same {w : World} {b o : Nat} {v : Value} {c : Array Value} {e : TypeId} {f : Nat × Nat} (h : w.heap[b]? = some (.cells c e f)) :
    (w.setCell ⟨b, o, none⟩ v).heap[b]? = some (.cells (c.setIfInBounds o v) e f) := by
  rw [heap_setCell, if_pos rfl, h]; rfl

theorem heap_set_other {w : World} {b o k : Nat} {v : Value} (h : b ≠ k) : (w.setCell ⟨b, o, none⟩ v).heap[k]? = w.heap[k]? := by
  rw [heap_setCell, if_neg h]

theorem heap_alloc_at {w : World} {o : Obj} {k : Nat} : (w.alloc o).heap[k]? = if k = w.heap.size then some o else w.heap[k]? := by
  show (w.heap.push o)[k]? = _
  rw [Array.getElem?_push]

theorem heap_alloc_same {w : World} {o : Obj} : (w.alloc o).heap[w.heap.size]? = some o := by
  rw [heap_alloc_at, if_pos rfl]

theorem heap_alloc_lt {w : World} {o : Obj} {k : Nat} (h : k < w.heap.size) : (w.alloc o).heap[k]? = w.heap[k]? := by
  rw [heap_alloc_at, if_neg (by omega)]

/-- Nothing of what was there is turned. -/
abbrev no : Blocks := fun _ => False

theorem new1 (w : World) (o : Obj) : (w.alloc o).heap[w.heap.size]? = some o ∧ (w.alloc o).heap.size = w.heap.size + 1 ∧ Kept no w (w.alloc o) :=
  ⟨heap_alloc_same, by simp, (Kept.refl _ _).alloc _⟩

theorem new2 (w : World) (o p : Obj) : ((w.alloc o).alloc p).heap[w.heap.size]? = some o ∧ ((w.alloc o).alloc p).heap[w.heap.size + 1]? = some p ∧ ((w.alloc o).alloc p).heap.size = w.heap.size + 2 ∧ Kept no w ((w.alloc o).alloc p) := by
  refine ⟨(heap_alloc_lt (by simp)).trans heap_alloc_same, ?_, by simp, ((Kept.refl _ _).alloc _).alloc _⟩
  have h := heap_alloc_same (w := w.alloc o) (o := p)
  simpa using h

/-! ### Rows that are owned -/

/-- The slice v owns a row: n elements, their cells xs. (The library's own word, from the first block on.) -/
abbrev Row (w : World) (e : TypeId) (size : Nat) (v : Value) (n : Nat) (xs : List Value) : Prop := w.ownsRow 0 e size v n xs

/-- The block of a slice. -/
def fpv (v : Value) : List Nat := v.ownBlock.toList

theorem mem_fpv {v : Value} {k : Nat} : k ∈ fpv v ↔ v.ownBlock = some k := by
  unfold fpv
  cases v.ownBlock <;> simp [eq_comm]

theorem fpv_nil : fpv (.slice none 0 0) = [] := rfl
theorem fpv_some {g o n c : Nat} : fpv (.slice (some ⟨g, o, none⟩) n c) = [g] := rfl

theorem Row.lt {w : World} {e : TypeId} {size n : Nat} {v : Value} {xs : List Value} (h : Row w e size v n xs) : ∀ k, k ∈ fpv v → k < w.heap.size := fun k hk =>
  (World.ownsRow.lt h k (mem_fpv.1 hk)).2

/-- A row lies where it lay if its block was not turned. -/
theorem Row.kept {S : Blocks} {w w' : World} {e : TypeId} {size n : Nat} {v : Value} {xs : List Value} (h : Row w e size v n xs) (k : Kept S w w') (hn : ∀ b, b ∈ fpv v → ¬ S b) : Row w' e size v n xs := by
  refine ⟨h.1, ?_⟩
  rcases h.2 with h0 | ⟨g, cap, cur, rfl, hg, hh, r⟩
  · exact .inl h0
  · exact .inr ⟨g, cap, cur, rfl, hg, k.get hh (hn g (by simp [fpv_some])), r⟩

/-- A row of one-cell elements, its cells. -/
theorem Row.cell {w : World} {e : TypeId} {size n : Nat} {xs : List Value} {g o c : Nat} (h : Row w e size (.slice (some ⟨g, o, none⟩) n c) n xs) : o = 0 ∧ n ≤ c ∧ c ≤ maxLen ∧ ∀ j u, xs[j]? = some u → w.cell? ⟨g, j, none⟩ = some u := by
  rcases h.2 with ⟨h0, _⟩ | ⟨g', cap, cur, hv, _, hh, h1, h2, h3, h4⟩
  · cases h0
  · simp only [Value.slice.injEq, Option.some.injEq, Addr.mk.injEq, and_true, true_and] at hv
    obtain ⟨⟨rfl, rfl⟩, rfl⟩ := hv
    refine ⟨rfl, h1, h2, fun j u hu => ?_⟩
    rw [cells_of' hh]
    rw [← h4, List.getElem?_take] at hu
    split at hu
    · simpa using hu
    · cases hu

/-- The two shapes of a row. -/
theorem Row.shape {w : World} {e : TypeId} {size n : Nat} {v : Value} {xs : List Value} (h : Row w e size v n xs) :
    (v = .slice none 0 0 ∧ n = 0 ∧ xs = []) ∨ ∃ g c, v = .slice (some ⟨g, 0, none⟩) n c ∧ n ≤ c ∧ c ≤ maxLen := by
  rcases h.2 with ⟨rfl, rfl⟩ | ⟨g, cap, cur, rfl, _, _, h1, h2, _⟩
  · exact .inl ⟨rfl, rfl, List.eq_nil_of_length_eq_zero (by simpa using h.1)⟩
  · exact .inr ⟨g, cap, rfl, h1, h2⟩

theorem Row.len {w : World} {e : TypeId} {n : Nat} {v : Value} {xs : List Value} (h : Row w e 1 v n xs) : xs.length = n := by simpa using h.1

end Go.Proofs.YtdpfohgkikjeaaaGreat
/- The library's contracts, laid over this program: tables of numbers, and applications. -/
namespace Go.Proofs
open Go.Shelf
def Tryz.lays156_ren : Go.Shelf.Ren := ⟨fun | 156 => 133 | 165 => 144 | 166 => 50 | 169 => 51 | 240 => 82 | 241 => 153 | 276 => 106 | 277 => 158 | n => n, fun | 31 => 34 | 9 => 9 | 3 => 3 | 4 => 4 | 0 => 0 | 20 => 20 | 72 => 106 | 76 => 112 | 70 => 104 | 37 => 56 | 75 => 111 | 127 => 140 | 164 => 170 | 5 => 5 | 80 => 53 | n => n, fun | n => n⟩
theorem Tryz.lays156 : Go.Proofs.Lays.n156 Tryz.prog Tryz.lays156_ren := {
  mixed := by kernel_rfl
  f156 := Tryz.func133.trans (congrArg some (by kernel_rfl))
  f165 := Tryz.func144.trans (congrArg some (by kernel_rfl))
  f166 := Tryz.func50.trans (congrArg some (by kernel_rfl))
  f169 := Tryz.func51.trans (congrArg some (by kernel_rfl))
  f240 := Tryz.func82.trans (congrArg some (by kernel_rfl))
  f241 := Tryz.func153.trans (congrArg some (by kernel_rfl))
  f276 := Tryz.func106.trans (congrArg some (by kernel_rfl))
  f277 := Tryz.func158.trans (congrArg some (by kernel_rfl))
  t0 := Tryz.underlying0
  a0 := Tryz.isAgg0
  z0 := Tryz.sizeOf0
  v0 := Tryz.zeroValue0
  t3 := Tryz.underlying3
  a3 := Tryz.isAgg3
  z3 := Tryz.sizeOf3
  v3 := Tryz.zeroValue3
  t4 := Tryz.underlying4
  a4 := Tryz.isAgg4
  z4 := Tryz.sizeOf4
  v4 := Tryz.zeroValue4
  t9 := Tryz.underlying9
  a9 := Tryz.isAgg9
  z9 := Tryz.sizeOf9
  v9 := Tryz.zeroValue9
  t20 := Tryz.underlying20
  a20 := Tryz.isAgg20
  z20 := Tryz.sizeOf20
  v20 := Tryz.zeroValue20
  t31 := Tryz.underlying34
  a31 := Tryz.isAgg34
  z31 := Tryz.sizeOf34
  v31 := Tryz.zeroValue34
  t37 := Tryz.underlying56
  a37 := Tryz.isAgg56
  z37 := Tryz.sizeOf56
  v37 := Tryz.zeroValue56
  t70 := Tryz.underlying104
  a70 := Tryz.isAgg104
  z70 := Tryz.sizeOf104
  v70 := Tryz.zeroValue104
  t72 := Tryz.underlying106
  a72 := Tryz.isAgg106
  z72 := Tryz.sizeOf106
  v72 := Tryz.zeroValue106
  t75 := Tryz.underlying111
  a75 := Tryz.isAgg111
  z75 := Tryz.sizeOf111
  v75 := Tryz.zeroValue111
  t76 := Tryz.underlying112
  a76 := Tryz.isAgg112
  z76 := Tryz.sizeOf112
  v76 := Tryz.zeroValue112
  t127 := Tryz.underlying140
  a127 := Tryz.isAgg140
  z127 := Tryz.sizeOf140
  v127 := Tryz.zeroValue140
  t164 := Tryz.underlying170
  a164 := Tryz.isAgg170
  z164 := Tryz.sizeOf170
  v164 := Tryz.zeroValue170 }
theorem Tryz.Builder_Extra_156 : Builder.Extra Tryz.prog Tryz.lays156_ren := {
  sizeBuilder := by kernel_rfl
  liesBuilder := by kernel_rfl
  t5 := Tryz.underlying5
  a5 := Tryz.isAgg5
  z5 := Tryz.sizeOf5
  v5 := Tryz.zeroValue5
  infoByte := by kernel_rfl
  cellsByte := by kernel_rfl
  sizeByte := by kernel_rfl
  neB5 := by decide }
def Tryz.laysM316_ren : Go.Shelf.Ren := ⟨fun | 316 => 100 | n => n, fun | 9 => 9 | 3 => 3 | 4 => 4 | 37 => 56 | 0 => 0 | 127 => 140 | 5 => 5 | n => n, fun | n => n⟩
theorem Tryz.laysM316 : Go.Proofs.LaysM.n316 Tryz.prog Tryz.laysM316_ren := {
  mixed := by kernel_rfl
  f316 := Tryz.func100.trans (congrArg some (by kernel_rfl))
  t0 := Tryz.underlying0
  a0 := Tryz.isAgg0
  z0 := Tryz.sizeOf0
  v0 := Tryz.zeroValue0
  t3 := Tryz.underlying3
  a3 := Tryz.isAgg3
  z3 := Tryz.sizeOf3
  v3 := Tryz.zeroValue3
  t4 := Tryz.underlying4
  a4 := Tryz.isAgg4
  z4 := Tryz.sizeOf4
  v4 := Tryz.zeroValue4
  t9 := Tryz.underlying9
  a9 := Tryz.isAgg9
  z9 := Tryz.sizeOf9
  v9 := Tryz.zeroValue9
  t37 := Tryz.underlying56
  a37 := Tryz.isAgg56
  z37 := Tryz.sizeOf56
  v37 := Tryz.zeroValue56
  t127 := Tryz.underlying140
  a127 := Tryz.isAgg140
  z127 := Tryz.sizeOf140
  v127 := Tryz.zeroValue140
  t5 := Tryz.underlying5
  a5 := Tryz.isAgg5
  z5 := Tryz.sizeOf5
  v5 := Tryz.zeroValue5
  i0 := by kernel_rfl
  i3 := by kernel_rfl
  i4 := by kernel_rfl
  i5 := by kernel_rfl
  i9 := by kernel_rfl
  i37 := by kernel_rfl
  i127 := by kernel_rfl }
def Tryz.lays144_ren : Go.Shelf.Ren := ⟨fun | 144 => 84 | 143 => 111 | 219 => 137 | 217 => 147 | 225 => 148 | 224 => 149 | 267 => 150 | 266 => 155 | 314 => 156 | n => n, fun | 9 => 9 | 4 => 4 | 3 => 3 | 5 => 5 | 46 => 205 | 146 => 211 | 51 => 91 | n => n, fun | 1 => 0 | n => n⟩
theorem Tryz.lays144 : Go.Proofs.Lays.n144 Tryz.prog Tryz.lays144_ren := {
  mixed := by kernel_rfl
  f143 := Tryz.func111.trans (congrArg some (by kernel_rfl))
  f144 := Tryz.func84.trans (congrArg some (by kernel_rfl))
  f217 := Tryz.func147.trans (congrArg some (by kernel_rfl))
  f219 := Tryz.func137.trans (congrArg some (by kernel_rfl))
  f224 := Tryz.func149.trans (congrArg some (by kernel_rfl))
  f225 := Tryz.func148.trans (congrArg some (by kernel_rfl))
  f266 := Tryz.func155.trans (congrArg some (by kernel_rfl))
  f267 := Tryz.func150.trans (congrArg some (by kernel_rfl))
  f314 := Tryz.func156.trans (congrArg some (by kernel_rfl))
  t3 := Tryz.underlying3
  a3 := Tryz.isAgg3
  z3 := Tryz.sizeOf3
  v3 := Tryz.zeroValue3
  t4 := Tryz.underlying4
  a4 := Tryz.isAgg4
  z4 := Tryz.sizeOf4
  v4 := Tryz.zeroValue4
  t5 := Tryz.underlying5
  a5 := Tryz.isAgg5
  z5 := Tryz.sizeOf5
  v5 := Tryz.zeroValue5
  t9 := Tryz.underlying9
  a9 := Tryz.isAgg9
  z9 := Tryz.sizeOf9
  v9 := Tryz.zeroValue9
  t46 := Tryz.underlying205
  a46 := Tryz.isAgg205
  z46 := Tryz.sizeOf205
  v46 := Tryz.zeroValue205
  t51 := Tryz.underlying91
  a51 := Tryz.isAgg91
  z51 := Tryz.sizeOf91
  v51 := Tryz.zeroValue91
  t146 := Tryz.underlying211
  a146 := Tryz.isAgg211
  z146 := Tryz.sizeOf211
  v146 := Tryz.zeroValue211
  g1 := by kernel_rfl }
def Tryz.laysNm216_ren : Go.Shelf.Ren := ⟨fun | 16 => 139 | n => n, fun | 24 => 34 | 9 => 9 | 4 => 4 | n => n, fun | n => n⟩
theorem Tryz.laysNm216 : Go.Proofs.Lays2.n16 Tryz.prog Tryz.laysNm216_ren := {
  mixed := by kernel_rfl
  f16 := Tryz.func139.trans (congrArg some (by kernel_rfl))
  t4 := Tryz.underlying4
  a4 := Tryz.isAgg4
  z4 := Tryz.sizeOf4
  v4 := Tryz.zeroValue4
  t9 := Tryz.underlying9
  a9 := Tryz.isAgg9
  z9 := Tryz.sizeOf9
  v9 := Tryz.zeroValue9
  t24 := Tryz.underlying34
  a24 := Tryz.isAgg34
  z24 := Tryz.sizeOf34
  v24 := Tryz.zeroValue34
  i9 := by kernel_rfl }
def Tryz.laysNm224_ren : Go.Shelf.Ren := ⟨fun | 24 => 108 | n => n, fun | 24 => 34 | 9 => 9 | 3 => 3 | 4 => 4 | 0 => 0 | n => n, fun | n => n⟩
theorem Tryz.laysNm224 : Go.Proofs.Lays2.n24 Tryz.prog Tryz.laysNm224_ren := {
  mixed := by kernel_rfl
  f24 := Tryz.func108.trans (congrArg some (by kernel_rfl))
  t0 := Tryz.underlying0
  a0 := Tryz.isAgg0
  z0 := Tryz.sizeOf0
  v0 := Tryz.zeroValue0
  t3 := Tryz.underlying3
  a3 := Tryz.isAgg3
  z3 := Tryz.sizeOf3
  v3 := Tryz.zeroValue3
  t4 := Tryz.underlying4
  a4 := Tryz.isAgg4
  z4 := Tryz.sizeOf4
  v4 := Tryz.zeroValue4
  t9 := Tryz.underlying9
  a9 := Tryz.isAgg9
  z9 := Tryz.sizeOf9
  v9 := Tryz.zeroValue9
  t24 := Tryz.underlying34
  a24 := Tryz.isAgg34
  z24 := Tryz.sizeOf34
  v24 := Tryz.zeroValue34
  i9 := by kernel_rfl }
end Go.Proofs
/- Plain mathematics of the document: bytes, sums, marks, heads; nothing of the program. -/
namespace Go.Proofs.YtdpfohgkikjeaaaGreat

/-- Bytes. -/
abbrev Str := List UInt8

/-- Noughts. -/
def zs (n : Nat) : Str := List.replicate n 0
theorem zs_length (n : Nat) : (zs n).length = n := by simp [zs]
theorem zs_add (a b : Nat) : zs (a + b) = zs a ++ zs b := by simp [zs, List.replicate_append_replicate]
theorem zs_drop (n k : Nat) : (zs n).drop k = zs (n - k) := by simp [zs]
theorem zs_take (n k : Nat) : (zs n).take k = zs (min k n) := by simp [zs]

/-- A sector of these bytes, noughts behind them. -/
def pad (l : Str) : Str := l ++ zs (64 - l.length)

theorem pad_length {l : Str} (h : l.length ≤ 64) : (pad l).length = 64 := by simp [pad, zs_length]; omega

/-! ### The sum -/
def crcBit (s : Nat) : Nat := if s % 2 = 1 then (s / 2) ^^^ 2197175160 else s / 2
def crcBits : Nat → Nat → Nat
  | 0, s => s
  | n + 1, s => crcBit (crcBits n s)
def crcByte (s : Nat) (b : UInt8) : Nat := crcBits 8 (s ^^^ b.toNat)
def crcFrom (s : Nat) (l : Str) : Nat := l.foldl crcByte s
def crc (l : Str) : Nat := 4294967295 - crcFrom 4294967295 l

theorem xor_lt32 {a b : Nat} (ha : a < 4294967296) (hb : b < 4294967296) : a ^^^ b < 4294967296 := Nat.xor_lt_two_pow (n := 32) ha hb

theorem crcBit_lt {s : Nat} (h : s < 4294967296) : crcBit s < 4294967296 := by
  unfold crcBit
  split
  · exact xor_lt32 (by omega) (by omega)
  · omega

theorem crcBits_lt (n : Nat) {s : Nat} (h : s < 4294967296) : crcBits n s < 4294967296 := by
  induction n with
  | zero => exact h
  | succ n ih => exact crcBit_lt ih

theorem crcByte_lt {s : Nat} (b : UInt8) (h : s < 4294967296) : crcByte s b < 4294967296 :=
  crcBits_lt 8 (xor_lt32 h (by have := b.toNat_lt; omega))

theorem crcFrom_lt (l : Str) {s : Nat} (h : s < 4294967296) : crcFrom s l < 4294967296 := by
  induction l generalizing s with
  | nil => exact h
  | cons b l ih => exact ih (crcByte_lt b h)

theorem crc_lt (l : Str) : crc l < 4294967296 := by unfold crc; omega

theorem crcFrom_snoc (s : Nat) (l : Str) (b : UInt8) : crcFrom s (l ++ [b]) = crcByte (crcFrom s l) b := by simp [crcFrom]

/-! ### Numbers as bytes, the lowest first -/
def le : Nat → Nat → Str
  | 0, _ => []
  | k + 1, n => le k n ++ [UInt8.ofNat (n / 256 ^ k)]

theorem le_length (k n : Nat) : (le k n).length = k := by
  induction k with
  | zero => rfl
  | succ k ih => simp [le, ih]

def unle : Str → Nat
  | [] => 0
  | b :: l => b.toNat + 256 * unle l

theorem unle_lt (l : Str) : unle l < 256 ^ l.length := by
  induction l with
  | nil => simp [unle]
  | cons b l ih =>
    have hb := b.toNat_lt
    simp only [unle, List.length_cons, Nat.pow_succ]
    omega

theorem unle_append (a b : Str) : unle (a ++ b) = unle a + 256 ^ a.length * unle b := by
  induction a with
  | nil => simp [unle]
  | cons x a ih =>
    simp only [List.cons_append, unle, ih, List.length_cons, Nat.pow_succ, Nat.mul_add]
    rw [Nat.mul_comm (256 ^ a.length) 256, Nat.mul_assoc, Nat.add_assoc]

theorem unle_le (k n : Nat) : unle (le k n) = n % 256 ^ k := by
  induction k with
  | zero => simp [le, unle, Nat.mod_one]
  | succ k ih =>
    rw [le, unle_append, ih, le_length, Nat.mod_pow_succ]
    simp [unle]

/-! ### Marks and heads -/
/-- What is remembered of a file. -/
structure Mark where
  len : Int
  sum : Nat

/-- What a half tells of its text. -/
structure Head where
  number : Nat
  text : Mark
  file : Mark

/-- A number, and one of 32 bits: what a mark is as bytes. (A length below nought comes round.) -/
def leMark (m : Mark) : Str := le 8 (m.len % 18446744073709551616).toNat ++ le 4 m.sum

def magic : Str := [113, 117, 105, 108, 108, 116, 120, 116]
def headTold (h : Head) : Str := magic ++ le 8 h.number ++ leMark h.text ++ leMark h.file
def headBody (h : Head) : Str := headTold h ++ zs 20
def headBytes (h : Head) : Str := headBody h ++ le 4 (crc (headBody h))

/-- A number of 64 bits as a length. -/
def i64 (n : Nat) : Int := if n < 9223372036854775808 then (n : Int) else (n : Int) - 18446744073709551616

/-- Is the first number ahead by less than half of the way round? -/
def isLater (a b : Nat) : Bool := decide (0 < i64 ((a + 18446744073709551616 - b) % 18446744073709551616))

def parseMark (s : Str) : Mark := ⟨i64 (unle (s.take 8)), unle ((s.drop 8).take 4)⟩
def parseHead (s : Str) : Head := ⟨unle ((s.drop 8).take 8), parseMark (s.drop 16), parseMark (s.drop 28)⟩
/-- A head, if the sector is one. -/
def readHead (s : Str) : Option Head := if headBytes (parseHead s) = s then some (parseHead s) else none

/-- Which half to try first: if both have heads, that of the later text. -/
def laterHalf (s0 s1 : Str) : Nat :=
  match readHead s0, readHead s1 with
  | _, none => 0
  | none, some _ => 1
  | some h0, some h1 => if isLater h1.number h0.number then 1 else 0

theorem leMark_length (m : Mark) : (leMark m).length = 12 := by simp [leMark, le_length]
theorem headTold_length (h : Head) : (headTold h).length = 40 := by simp [headTold, le_length, leMark_length, magic]
theorem headBody_length (h : Head) : (headBody h).length = 60 := by simp [headBody, headTold_length, zs_length]
theorem headBytes_length (h : Head) : (headBytes h).length = 64 := by simp [headBytes, headBody_length, le_length]

end Go.Proofs.YtdpfohgkikjeaaaGreat
/- Rows of bytes: copied into, made of a string, made a string of. -/
namespace Go.Proofs.YtdpfohgkikjeaaaGreat
open Go.RowKit
set_option linter.unusedVariables false
set_option linter.unusedSimpArgs false

theorem bytes_eq {a b : ByteArray} (h : a.data.toList = b.data.toList) : a = b := ByteArray.ext (Array.toList_inj.1 h)
theorem bytes_eta (s : ByteArray) : (⟨s.data.toList.toArray⟩ : ByteArray) = s := rfl
theorem extract_list (s : ByteArray) (i j : Nat) : s.extract i j = ⟨((s.data.toList.take j).drop i).toArray⟩ := by
  apply bytes_eq
  rw [ByteArray.data_extract]
  simp [List.drop_take, List.extract_eq_take_drop]

/-- The cells of bytes. -/
def bcells (l : Str) : List Value := l.map fun b => Value.int .u8 (b.toNat : Int)

theorem bcells_length (l : Str) : (bcells l).length = l.length := by simp [bcells]
theorem bcells_one (l : Str) : ∀ v ∈ bcells l, v.oneCell' = true := by
  intro v hv
  simp only [bcells, List.mem_map] at hv
  obtain ⟨b, _, rfl⟩ := hv
  rfl
theorem bcells_append (a b : Str) : bcells (a ++ b) = bcells a ++ bcells b := by simp [bcells]
theorem bcells_drop (l : Str) (k : Nat) : bcells (l.drop k) = (bcells l).drop k := by simp [bcells]
theorem bcells_take (l : Str) (k : Nat) : bcells (l.take k) = (bcells l).take k := by simp [bcells]
theorem bcells_get {l : Str} {j : Nat} {v : Value} (h : (bcells l)[j]? = some v) : ∃ b, l[j]? = some b ∧ v = .int .u8 (b.toNat : Int) := by
  simp only [bcells, List.getElem?_map, Option.map_eq_some_iff] at h
  obtain ⟨b, hb, rfl⟩ := h
  exact ⟨b, hb, rfl⟩

theorem add_at (g o j : Nat) : (⟨g, o, none⟩ : Addr).add j = ⟨g, o + j, none⟩ := by unfold Addr.add; split <;> simp_all

/-- A block whose cells, from o on, are some bytes. -/
def BytesAt (w : World) (g o : Nat) (l : Str) : Prop := ∀ j v, (bcells l)[j]? = some v → w.cell? ⟨g, o + j, none⟩ = some v

section
variable {P : Program}

/-- 'copy' of a string into a row. -/
theorem run_copy_str (w : World) (dT sT ty elem : TypeId) (g o dLen dCap : Nat) (s : ByteArray) (cur : Array Value) (t : TypeId)
    (hu : P.underlying dT = some (.slice elem)) (hs : (P.info? elem).map (·.size) = some 1)
    (hg : w.heap[g]? = some (.cells cur t (0, 0))) (hn : s.size ≤ dLen) (hfit : o + s.size ≤ cur.size) :
    (Builtin.copy_ #[dT, sT] ty #[.slice (some ⟨g, o, none⟩) dLen dCap, .string s]).run P w =
      .ok (goInt s.size) (w.setRow g (cur.toList.take o ++ bcells s.data.toList ++ cur.toList.drop (o + s.size)).toArray) := by
  have hl : (bcells s.data.toList).length = s.size := by rw [bcells_length, Array.length_toList]; rfl
  have hst := run_storeCells_at P g o t (bcells s.data.toList) 0 cur w hg (by rw [hl]; simpa using hfit) (bcells_one _)
  rw [hl] at hst
  simp only [Nat.add_zero] at hst
  cases hq : P.info? elem with
  | none => simp [hq] at hs
  | some i =>
    have hi : i.size = 1 := by simpa [hq] using hs
    have hm : Nat.min s.size dLen = s.size := Nat.min_eq_left hn
    have hx : List.take s.size (List.map (fun (b : UInt8) => Value.int IntKind.u8 (b.toNat : Int)) s.data.toList) = bcells s.data.toList :=
      List.take_of_length_le (by rw [List.length_map, Array.length_toList]; exact Nat.le_refl _)
    simp [Builtin.copy_, run_underlying hu, Builtin.lenOf, Builtin.firstCells, sizeOf, typeInfo, hq, hm, hx, hst]

theorem foldl_bytes (l : Str) (s : ByteArray) : ((l.map fun b => (b.toNat : Int)).foldl (fun r n => r.push (UInt8.ofNat n.toNat)) s) = ⟨s.data ++ l.toArray⟩ := by
  induction l generalizing s with
  | nil => simp
  | cons b l ih =>
    simp only [List.map_cons, List.foldl_cons]
    rw [ih]
    congr 1
    simp [ByteArray.push]

/-- A slice of bytes made a string. -/
theorem run_bytes_str (w : World) (src dst e : TypeId) (g o cap : Nat) (l : Str) (hs : P.underlying src = some (.slice e)) (he : P.underlying e = some (.int .u8)) (hd : P.underlying dst = some .string)
    (h : BytesAt w g o l) : (convert src dst (.slice (some ⟨g, o, none⟩) l.length cap)).run P w = .ok (.string ⟨l.toArray⟩) w := by
  rw [run_convert_bytes_string w src dst e _ _ _ hs he hd]
  have hl := run_loadCells_list (P := P) w ⟨g, o, none⟩ (bcells l) (fun j v hv => by rw [add_at]; exact h j v hv)
  rw [bcells_length] at hl
  have e1 : (bcells l).toArray = ((l.map fun b => (b.toNat : Int)).map (Value.int .u8)).toArray := by simp [bcells, Function.comp_def]
  rw [e1] at hl
  rw [run_bytesToString w _ _ cap _ hl, foldl_bytes]
  simp
end

theorem BytesAt.of_row {w : World} {g o : Nat} {t : TypeId} {f : Nat × Nat} {cs : List Value} {l : Str} (h : w.heap[g]? = some (.cells cs.toArray t f)) (hc : ∀ j v, (bcells l)[j]? = some v → cs[o + j]? = some v) : BytesAt w g o l := by
  intro j v hv
  rw [cells_of' h]
  simpa using hc j v hv

theorem heap_setRow_same {w : World} {g : Nat} {old cs : Array Value} {t : TypeId} {f : Nat × Nat} (h : w.heap[g]? = some (.cells old t f)) : (w.setRow g cs).heap[g]? = some (.cells cs t f) := setRow_heap w g old cs t f h

theorem Kept.setRow {S : Blocks} {a b : World} (h : Kept S a b) {g : Nat} (hg : g < a.heap.size → S g) (cs : Array Value) : Kept S a (b.setRow g cs) :=
  h.step' (T := fun k => k = g) ⟨rfl, rfl, rfl, by simp, fun k _ hk => setRow_other b g k cs hk⟩ (fun i e hi => by cases e; exact hg hi)

/-- '[]byte("..")' of a constant: the row gets a mark behind its end. -/
theorem run_mark {P : Program} (V : World) (t e : TypeId) (g n c : Nat) (C : Array Value) (ht : P.underlying t = some (.slice e)) (he : P.underlying e = some (.int .u8)) (h : V.heap[g]? = some (.cells C e (0, 0))) :
    (convert t t (.slice (some ⟨g, 0, none⟩) n c)).run P V = .ok (.slice (some ⟨g, 0, none⟩) n c) (V.freeze ⟨g, C.size, none⟩ 1) := by
  have hsh : V.shape? g = some (e, C.size) := by simp [World.shape?, h]
  simp [convert, run_underlying ht, run_underlying he, markStringish, hsh]

theorem heap_freeze {w : World} {g o n k : Nat} : (w.freeze ⟨g, o, none⟩ n).heap[k]? = if n = 0 ∨ g ≠ k then w.heap[k]? else
    (w.heap[k]?).map fun | .cells c elem (lo, hi) => .cells c elem (if lo == hi then (o, o + n) else (min lo o, max hi (o + n))) | x => x := by
  unfold World.freeze
  by_cases hn : n = 0
  · simp [hn]
  · rw [if_neg hn]
    simp only [Array.getElem?_modify]
    by_cases hg : g = k
    · subst hg; simp [hn]; cases w.heap[g]? with
      | none => rfl
      | some x => cases x <;> rfl
    · simp [hg]

theorem heap_freeze_other {w : World} {g o n k : Nat} (h : g ≠ k) : (w.freeze ⟨g, o, none⟩ n).heap[k]? = w.heap[k]? := by
  rw [heap_freeze, if_pos (.inr h)]

theorem heap_mark {V : World} {g : Nat} {C : Array Value} {e : TypeId} (h : V.heap[g]? = some (.cells C e (0, 0))) : (V.freeze ⟨g, C.size, none⟩ 1).heap[g]? = some (.cells C e (C.size, C.size + 1)) := by
  rw [heap_freeze, if_neg (by simp), h]; rfl

theorem size_freeze (w : World) (a : Addr) (n : Nat) : (w.freeze a n).heap.size = w.heap.size := by
  unfold World.freeze
  split <;> simp

theorem Kept.freeze {S : Blocks} {a b : World} (h : Kept S a b) {p : Addr} (hp : a.heap.size ≤ p.block) (hs : p.spot = none) (n : Nat) : Kept S a (b.freeze p n) := by
  obtain ⟨g, o, s⟩ := p
  subst hs
  refine h.step' (T := fun k => k = g) ⟨?_, ?_, ?_, by rw [size_freeze]; exact Nat.le_refl _, fun k _ hk => ?_⟩ (fun i e hi => ?_)
  · unfold World.freeze; split <;> rfl
  · unfold World.freeze; split <;> rfl
  · unfold World.freeze; split <;> rfl
  · rw [heap_freeze, if_pos (.inr (fun e => hk e.symm))]
  · dsimp only at *; omega

end Go.Proofs.YtdpfohgkikjeaaaGreat
/- append onto rows that are owned, with what becomes of memory in the word of Kept. -/
namespace Go.Proofs.YtdpfohgkikjeaaaGreat
open Go.RowKit
set_option linter.unusedVariables false
set_option linter.unusedSimpArgs false

/-- What a slice's type is, as far as append asks. -/
structure SliceTy (P : Program) (t e : TypeId) (size bytes : Nat) : Prop where
  under : P.underlying t = some (.slice e)
  info : ∃ i z, P.info? e = some i ∧ i.zero = some z ∧ i.size = size ∧ i.bytes = bytes ∧ z.cells.size = size
  pos : 0 < size

theorem SliceTy.mk' {P : Program} {t e : TypeId} {size bytes : Nat} {z : Value} (h : P.underlying t = some (.slice e)) (hi : (P.info? e).map (fun i => (i.zero, i.size, i.bytes)) = some (some z, size, bytes)) (hz : z.cells.size = size) (hp : 0 < size) : SliceTy P t e size bytes := by
  obtain ⟨i, h1, h2, h3, h4⟩ := info_parts hi
  exact ⟨h, ⟨i, z, h1, h2, h3, h4, hz⟩, hp⟩

/-- The slice v has become v': of what was there its own block alone may have turned; v' lies in it or is new. -/
def Grew (w w' : World) (v v' : Value) : Prop := Kept (fun k => k ∈ fpv v) w w' ∧ ∀ k, k ∈ fpv v' → k ∈ fpv v ∨ w.heap.size ≤ k

theorem run_app {P : Program} {t e : TypeId} {size bytes : Nat} (T : SliceTy P t e size bytes) (ty : TypeId) (w : World) (v : Value) (n : Nat) (xs : List Value) (hown : Row w e size v n xs)
    (g o m c : Nat) (news : List Value) (hl : news.length = m * size) (hnews : ∀ j u, news[j]? = some u → w.cell? ⟨g, o + j, none⟩ = some u) (h1 : ∀ u ∈ news, u.oneCell' = true)
    (hbytes : (n + m) * bytes ≤ 140737488355328) (hn : n + m ≤ 140737488355328) :
    ∃ v' w', (Builtin.append_ #[t, t] ty #[v, .slice (some ⟨g, o, none⟩) m c]).run P w = .ok v' w' ∧ Row w' e size v' (n + m) (xs ++ news) ∧ Grew w w' v v' ∧ (v' = .slice none 0 0 ↔ v = .slice none 0 0 ∧ m = 0) := by
  obtain ⟨i, z, hi, hz, hs, hb, hzs⟩ := T.info
  obtain ⟨v', w', hr, h2, h3, h4, h5⟩ := run_append_own_at (P := P) w 0 t ty e i z size bytes T.under hi hz hs hb hzs T.pos v n xs hown ⟨g, o, none⟩ m c news hl (fun j u h => by rw [add_at]; exact hnews j u h) h1 (by simp only [maxLen]; omega) hbytes (Nat.zero_le _)
  refine ⟨v', w', hr, h2, ⟨Kept.of_grown h3 (fun k hk _ => mem_fpv.2 hk), fun k hk => ?_⟩, h4⟩
  rw [mem_fpv] at hk
  rcases h5 with h5 | h5
  · exact .inl (mem_fpv.2 (h5 ▸ hk))
  · rw [h5] at hk; cases hk; exact .inr (Nat.le_refl _)

section
variable {P : Program} {w : World} {ops : Array Oper} {rest : List Oper} {o : Oper} {a : Act} {Q : Exit → Act → World → Prop}

/-- At the operation: append(v, x..). -/
theorem wpList_app (hgd : o.guard = none) (s x : Operand) (t : TypeId) (ho : o.op = .call { callee := .builtin .append, args := #[s, x], argTypes := #[t, t] })
    {e : TypeId} {size bytes : Nat} (T : SliceTy P t e size bytes) (v : Value) (n : Nat) (xs : List Value) (hs : a.eval s = v) (hown : Row w e size v n xs)
    (g off m c : Nat) (news : List Value) (hx : a.eval x = .slice (some ⟨g, off, none⟩) m c) (hl : news.length = m * size) (hnews : ∀ j u, news[j]? = some u → w.cell? ⟨g, off + j, none⟩ = some u) (h1 : ∀ u ∈ news, u.oneCell' = true)
    (hbytes : (n + m) * bytes ≤ 140737488355328) (hn : n + m ≤ 140737488355328)
    (h : ∀ v' w', Row w' e size v' (n + m) (xs ++ news) → Grew w w' v v' → wpList P ops Q rest (a.put o.dst v') w') : wpList P ops Q (o :: rest) a w := by
  refine wpList_plain hgd fun K hK => ?_
  obtain ⟨v', w', hr, h2, h3, _⟩ := run_app T o.type w v n xs hown g off m c news hl hnews h1 hbytes hn
  unfold Oper.wp execOp
  simp only [ho, resolve, invoke, builtin, Sem.run_bind, Sem.run_pure, Result.andThen_ok, List.map_toArray, List.map_cons, List.map_nil, hs, hx, hr]
  exact hK _ _ (h v' w' h2 h3)

/-- At the operation: append(v, x), x of one cell, laid in a new block just now. -/
theorem wpList_push (hgd : o.guard = none) (s x : Operand) (t : TypeId) (ho : o.op = .call { callee := .builtin .append, args := #[s, x], argTypes := #[t, t] })
    {e : TypeId} {bytes : Nat} (T : SliceTy P t e 1 bytes) (v : Value) (n : Nat) (xs : List Value) (hs : a.eval s = v) (hown : Row w e 1 v n xs)
    (g c : Nat) (u : Value) (hx : a.eval x = .slice (some ⟨g, 0, none⟩) 1 c) (hu : w.cell? ⟨g, 0, none⟩ = some u) (h1 : u.oneCell' = true) (hb : bytes ≤ 64) (hn : n ≤ 1099511627776)
    (h : ∀ v' w', Row w' e 1 v' (n + 1) (xs ++ [u]) → Grew w w' v v' → wpList P ops Q rest (a.put o.dst v') w') : wpList P ops Q (o :: rest) a w := by
  refine wpList_app hgd s x t ho T v n xs hs hown g 0 1 c [u] hx rfl (fun j u' hj => ?_) (fun u' hu' => ?_) ?_ (by omega) h
  · match j, hj with
    | 0, hj => simp at hj; subst hj; simpa using hu
  · simp at hu'; subst hu'; exact h1
  · have : (n + 1) * bytes ≤ 1099511627777 * 64 := Nat.mul_le_mul (by omega) hb
    omega
end

/-- A row to append to: one that is owned, or one that is full and is only read (a constant's bytes). -/
def RowIn (w : World) (e : TypeId) (v : Value) (n : Nat) (xs : List Value) : Prop :=
  Row w e 1 v n xs ∨ (xs.length = n ∧ ∃ g, v = .slice (some ⟨g, 0, none⟩) n n ∧ ∀ j u, xs[j]? = some u → w.cell? ⟨g, j, none⟩ = some u)

theorem run_app_in {P : Program} {t e : TypeId} {bytes : Nat} (T : SliceTy P t e 1 bytes) (ty : TypeId) (w : World) (v : Value) (n : Nat) (xs : List Value) (hown : RowIn w e v n xs)
    (g c : Nat) (u : Value) (hu : w.cell? ⟨g, 0, none⟩ = some u) (h1 : u.oneCell' = true) (hb : bytes ≤ 64) (hn : n ≤ 1099511627776) :
    ∃ v' w', (Builtin.append_ #[t, t] ty #[v, .slice (some ⟨g, 0, none⟩) 1 c]).run P w = .ok v' w' ∧ Row w' e 1 v' (n + 1) (xs ++ [u]) ∧ Grew w w' v v' := by
  have hcell : ∀ j u', [u][j]? = some u' → w.cell? ⟨g, 0 + j, none⟩ = some u' := fun j u' hj => by
    match j, hj with
    | 0, hj => simp at hj; subst hj; simpa using hu
  have hone : ∀ u' ∈ [u], u'.oneCell' = true := fun u' hu' => by simp at hu'; subst hu'; exact h1
  have hbb : (n + 1) * bytes ≤ 140737488355328 := by
    have : (n + 1) * bytes ≤ 1099511627777 * 64 := Nat.mul_le_mul (by omega) hb
    omega
  rcases hown with hown | ⟨hl, gv, rfl, hc⟩
  · obtain ⟨v', w', h1, h2, h3, _⟩ := run_app T ty w v n xs hown g 0 1 c [u] rfl hcell hone hbb (by omega)
    exact ⟨v', w', h1, h2, h3⟩
  · obtain ⟨i, z, hi, hz, hs, hby, hzs⟩ := T.info
    have hr := run_append_grow (P := P) w t ty e i z T.under hi hz ⟨gv, 0, none⟩ n n xs (by rw [hs]; omega) (fun j u' h => by rw [add_at, Nat.zero_add]; exact hc j u' h) ⟨g, 0, none⟩ 1 c [u] (by rw [hs]; rfl) (fun j u' h => by rw [add_at]; exact hcell j u' h) (by omega) (by omega) (growslice_fits (by omega) (by rw [hby]; exact hbb))
    refine ⟨_, _, hr, ?_, (((Kept.refl _ _).drew).alloc _), fun k hk => ?_⟩
    · have hge := grownCap_ge w (n + 1) n e
      refine ⟨by simp [hl], .inr ⟨w.heap.size, _, _, rfl, Nat.zero_le _, heap_alloc_same (w := w.drew), hge, grownCap_le_maxLen w (n + 1) n e (by simp only [maxLen]; omega), ?_, ?_⟩⟩
      · simp only [Array.size_append, List.size_toArray, size_zeroCells, hzs, hl, List.length_cons, List.length_nil]
        omega
      · simp only [Array.toList_append, List.append_assoc]
        have e1 : (n + 1) * 1 = (xs ++ [u]).length := by simp [hl]
        rw [← List.append_assoc, e1]
        exact List.take_left
    · simp [fpv_some] at hk
      exact .inr (by omega)

theorem wpList_push_in {P : Program} {w : World} {ops : Array Oper} {rest : List Oper} {o : Oper} {a : Act} {Q : Exit → Act → World → Prop} (hgd : o.guard = none) (s x : Operand) (t : TypeId) (ho : o.op = .call { callee := .builtin .append, args := #[s, x], argTypes := #[t, t] })
    {e : TypeId} {bytes : Nat} (T : SliceTy P t e 1 bytes) (v : Value) (n : Nat) (xs : List Value) (hs : a.eval s = v) (hown : RowIn w e v n xs)
    (g c : Nat) (u : Value) (hx : a.eval x = .slice (some ⟨g, 0, none⟩) 1 c) (hu : w.cell? ⟨g, 0, none⟩ = some u) (h1 : u.oneCell' = true) (hb : bytes ≤ 64) (hn : n ≤ 1099511627776)
    (h : ∀ v' w', Row w' e 1 v' (n + 1) (xs ++ [u]) → Grew w w' v v' → wpList P ops Q rest (a.put o.dst v') w') : wpList P ops Q (o :: rest) a w := by
  refine wpList_plain hgd fun K hK => ?_
  obtain ⟨v', w', hr, h2, h3⟩ := run_app_in T o.type w v n xs hown g c u hu h1 hb hn
  unfold Oper.wp execOp
  simp only [ho, resolve, invoke, builtin, Sem.run_bind, Sem.run_pure, Result.andThen_ok, List.map_toArray, List.map_cons, List.map_nil, hs, hx, hr]
  exact hK _ _ (h v' w' h2 h3)

theorem Row.alloc {w : World} {e : TypeId} {size n : Nat} {v : Value} {xs : List Value} (h : Row w e size v n xs) (o : Obj) : Row (w.alloc o) e size v n xs := World.ownsRow.alloc h o

theorem RowIn.alloc {w : World} {e : TypeId} {n : Nat} {v : Value} {xs : List Value} (h : RowIn w e v n xs) (o : Obj) : RowIn (w.alloc o) e v n xs := by
  rcases h with h | ⟨hl, g, rfl, hc⟩
  · exact .inl (h.alloc o)
  · refine .inr ⟨hl, g, rfl, fun j u hu => ?_⟩
    have := hc j u hu
    rw [World.cell?_alloc_lt _ _ _ (World.block_lt_of_cell? _ _ this)]
    exact this

theorem RowIn.drew {w : World} {e : TypeId} {n : Nat} {v : Value} {xs : List Value} (h : RowIn w e v n xs) : RowIn w.drew e v n xs := h
theorem Row.drew {w : World} {e : TypeId} {size n : Nat} {v : Value} {xs : List Value} (h : Row w e size v n xs) : Row w.drew e size v n xs := h
theorem Row.drewN {w : World} {e : TypeId} {size n k : Nat} {v : Value} {xs : List Value} (h : Row w e size v n xs) : Row (w.drewN k) e size v n xs := h

theorem Grew.kept {w w' : World} {v v' : Value} (h : Grew w w' v v') : Kept (fun k => k ∈ fpv v) w w' := h.1
theorem Grew.fresh {w w' : World} {v v' : Value} (h : Grew w w' v v') : ∀ k, k ∈ fpv v' → k ∈ fpv v ∨ w.heap.size ≤ k := h.2
theorem Grew.refl (w : World) (v : Value) : Grew w w v v := ⟨Kept.refl _ _, fun _ h => .inl h⟩
theorem Grew.trans {a b c : World} {u v x : Value} (h : Grew a b u v) (k : Grew b c v x) (hlt : ∀ k, k ∈ fpv u → k < a.heap.size) : Grew a c u x := by
  refine ⟨h.1.step' k.1 (fun i hi hlt' => ?_), fun i hi => ?_⟩
  · rcases h.2 i hi with h1 | h1
    · exact h1
    · omega
  · rcases k.2 i hi with h1 | h1
    · exact h.2 i h1
    · exact .inr (Nat.le_trans h.1.size h1)

/-- A slice that lies from B on has grown: what lies below B is as it was. -/
theorem Grew.above {W W' : World} {v v' : Value} {B : Nat} (h : Grew W W' v v') (hv : ∀ k, k ∈ fpv v → B ≤ k) (hB : B ≤ W.heap.size) :
    (∀ k, k ∈ fpv v' → B ≤ k) ∧ (∀ b o, b < B → W.heap[b]? = some o → W'.heap[b]? = some o) ∧ (∀ w : World, Kept no w W → w.heap.size ≤ B → Kept no w W') := by
  refine ⟨fun k hk => ?_, fun b o hb ho => h.1.get ho (fun hh => by have := hv b hh; omega), fun w hk hw => hk.step' h.1 (fun i hi hlt => by have := hv i hi; omega)⟩
  rcases h.2 k hk with h1 | h1
  · exact hv k h1
  · omega

end Go.Proofs.YtdpfohgkikjeaaaGreat
/- The sums' contracts: swap.Sum, swap.MarkOf, and small functions of package swap. -/
namespace Go.Proofs.YtdpfohgkikjeaaaGreat
open Go.RowKit
set_option linter.unusedVariables false
set_option linter.unusedSimpArgs false

theorem take_snoc (s : ByteArray) (k : Nat) (h : k < s.size) : s.data.toList.take (k + 1) = s.data.toList.take k ++ [s[k]] := by
  rw [List.take_succ_eq_append_getElem (by simpa using h)]; rfl

theorem int_of {k : IntKind} {a b : Int} (h : a = b) : Value.int k a = Value.int k b := by rw [h]
theorem ret_int {k : IntKind} {a b : Int} (h : a = b) : Ending.returned (.int k a) = .returned (.int k b) := by rw [h]

theorem xor_byte {v : Nat} (b : UInt8) (hv : v < 4294967296) : bits BinOp.xor IntKind.u32 (v : Int) ((b.toNat : Int) % 4294967296) = ((v ^^^ b.toNat : Nat) : Int) := by
  have hb := b.toNat_lt
  rw [show ((b.toNat : Int) % 4294967296) = (b.toNat : Int) from by omega]
  exact u32_xor_nat _ _ hv (by omega)

theorem low_bit {v : Nat} (hv : v < 4294967296) : bits BinOp.and IntKind.u32 (v : Int) 1 = ((v % 2 : Nat) : Int) := by
  have h := u32_and_nat v 1 hv (by omega)
  rw [Nat.and_one_is_mod] at h
  exact h

theorem bit_odd {v : Nat} (hv : v < 4294967296) (h : (bits BinOp.and IntKind.u32 (v : Int) 1 == 1) = true) : bits BinOp.xor IntKind.u32 ((v : Int) / 2) 2197175160 = ((crcBit v : Nat) : Int) := by
  rw [low_bit hv] at h
  have h1 : v % 2 = 1 := by have := eq_of_beq h; omega
  have hx := u32_xor_nat (v / 2) 2197175160 (by omega) (by omega)
  rw [show ((v : Int) / 2) = ((v / 2 : Nat) : Int) from by omega]
  unfold crcBit
  rw [if_pos h1]
  exact hx

theorem bit_even {v : Nat} (hv : v < 4294967296) (h : (bits BinOp.and IntKind.u32 (v : Int) 1 == 1) = false) : ((v : Int) / 2) = ((crcBit v : Nat) : Int) := by
  rw [low_bit hv] at h
  have h1 : ¬ v % 2 = 1 := by intro e; rw [e] at h; simp at h
  unfold crcBit
  rw [if_neg h1]
  omega

theorem flip_all {v : Nat} (hv : v < 4294967296) : bits BinOp.xor IntKind.u32 IntKind.u32.max (v : Int) = ((4294967295 - v : Nat) : Int) := by
  have h := u32_xor_nat 4294967295 v (by omega) hv
  rw [show IntKind.u32.max = ((4294967295 : Nat) : Int) from by decide]
  rw [h]
  have e : (4294967295 ^^^ v) = 4294967295 - v := by
    have h2 : (BitVec.allOnes 32 ^^^ BitVec.ofNat 32 v).toNat = (~~~ BitVec.ofNat 32 v).toNat := by rw [BitVec.allOnes_xor]
    rw [BitVec.toNat_xor, BitVec.toNat_not, BitVec.toNat_allOnes, BitVec.toNat_ofNat, Nat.mod_eq_of_lt (by omega)] at h2
    exact h2
  rw [e]

set_option maxHeartbeats 400000 in
theorem sum_any (s : ByteArray) (w : World) (hs : s.size ≤ 140737488355328) :
    Calls Tryz.prog 129 #[.string s] w fun e w' => e = .returned (.int .u32 (crc s.data.toList)) ∧ w' = w := by
  go_enter Tryz.func129, Tryz.ntmps129
  go_wp2
  go_loop [3, 4, 7] (fun a b i => ∃ k : Nat, k ≤ s.size ∧ a = .int .u32 (crcFrom 4294967295 (s.data.toList.take k) : Nat) ∧ i = .int .i64 k) (fun _ _ i => s.size - (intOf i).toNat)
  case atStart => exact ⟨0, Nat.zero_le _, rfl, rfl⟩
  case round =>
    obtain ⟨k, hk, rfl, rfl⟩ := hrel
    have hv := crcFrom_lt (s := 4294967295) (s.data.toList.take k) (by omega)
    generalize hV : crcFrom 4294967295 (s.data.toList.take k) = v at hv
    have HV : Hid (crcFrom 4294967295 (s.data.toList.take k) = v) := hV
    clear hV
    by_cases hlt : k < s.size
    · go_wp2
      go_loop [3, 16] (fun a i => ∃ j : Nat, j ≤ 8 ∧ a = .int .u32 (crcBits j (v ^^^ s[k].toNat) : Nat) ∧ i = .int .i64 j) (fun _ i => 8 - (intOf i).toNat)
      case atStart => exact ⟨0, by omega, int_of (xor_byte _ hv), rfl⟩
      case round =>
        obtain ⟨j, hj, rfl, rfl⟩ := hrel
        have hu := crcBits_lt j (xor_lt32 hv (show s[k].toNat < 4294967296 from by have := s[k].toNat_lt; omega))
        generalize hU : crcBits j (v ^^^ s[k].toNat) = u at hu
        have HU : Hid (crcBits j (v ^^^ s[k].toNat) = u) := hU
        clear hU
        by_cases hl8 : j < 8
        · go_wp2
          · rename_i hb
            exact ⟨⟨j + 1, by omega, by rw [show crcBits (j + 1) (v ^^^ s[k].toNat) = crcBit u from by rw [crcBits, HU.out]]; exact int_of (bit_odd hu hb), by go_num⟩, by simp [intOf]; omega⟩
          · rename_i hb
            exact ⟨⟨j + 1, by omega, by rw [show crcBits (j + 1) (v ^^^ s[k].toNat) = crcBit u from by rw [crcBits, HU.out]]; exact int_of (bit_even hu hb), by go_num⟩, by simp [intOf]; omega⟩
        · obtain rfl : j = 8 := by omega
          go_wp2
          refine ⟨⟨k + 1, by omega, ?_, by go_num⟩, by simp [intOf]; omega⟩
          rw [take_snoc s k hlt, crcFrom_snoc, HV.out, crcByte, HU.out]
    · go_wp2
      go_ret
      refine ⟨ret_int ?_, rfl⟩
      rw [flip_all hv, crc]
      have e : s.data.toList.take k = s.data.toList := List.take_of_length_le (by simp; omega)
      rw [e] at HV
      rw [HV.out]
end Go.Proofs.YtdpfohgkikjeaaaGreat
/- package swap: acts of one sector, numbers as bytes. -/
namespace Go.Proofs.YtdpfohgkikjeaaaGreat
open Go.RowKit
set_option linter.unusedVariables false
set_option linter.unusedSimpArgs false

def zeros64 : Array Value := Array.replicate 64 (.int .u8 0)

theorem lit64 : (#[Value.int IntKind.u8 0, Value.int IntKind.u8 0, Value.int IntKind.u8 0, Value.int IntKind.u8 0, Value.int IntKind.u8 0, Value.int IntKind.u8 0, Value.int IntKind.u8 0, Value.int IntKind.u8 0,
  Value.int IntKind.u8 0, Value.int IntKind.u8 0, Value.int IntKind.u8 0, Value.int IntKind.u8 0, Value.int IntKind.u8 0, Value.int IntKind.u8 0, Value.int IntKind.u8 0, Value.int IntKind.u8 0,
  Value.int IntKind.u8 0, Value.int IntKind.u8 0, Value.int IntKind.u8 0, Value.int IntKind.u8 0, Value.int IntKind.u8 0, Value.int IntKind.u8 0, Value.int IntKind.u8 0, Value.int IntKind.u8 0,
  Value.int IntKind.u8 0, Value.int IntKind.u8 0, Value.int IntKind.u8 0, Value.int IntKind.u8 0, Value.int IntKind.u8 0, Value.int IntKind.u8 0, Value.int IntKind.u8 0, Value.int IntKind.u8 0,
  Value.int IntKind.u8 0, Value.int IntKind.u8 0, Value.int IntKind.u8 0, Value.int IntKind.u8 0, Value.int IntKind.u8 0, Value.int IntKind.u8 0, Value.int IntKind.u8 0, Value.int IntKind.u8 0,
  Value.int IntKind.u8 0, Value.int IntKind.u8 0, Value.int IntKind.u8 0, Value.int IntKind.u8 0, Value.int IntKind.u8 0, Value.int IntKind.u8 0, Value.int IntKind.u8 0, Value.int IntKind.u8 0,
  Value.int IntKind.u8 0, Value.int IntKind.u8 0, Value.int IntKind.u8 0, Value.int IntKind.u8 0, Value.int IntKind.u8 0, Value.int IntKind.u8 0, Value.int IntKind.u8 0, Value.int IntKind.u8 0,
  Value.int IntKind.u8 0, Value.int IntKind.u8 0, Value.int IntKind.u8 0, Value.int IntKind.u8 0, Value.int IntKind.u8 0, Value.int IntKind.u8 0, Value.int IntKind.u8 0, Value.int IntKind.u8 0] : Array Value) = zeros64 := by rfl

theorem zeros64_list : zeros64.toList = bcells (zs 64) := by simp [zeros64, bcells, zs]

theorem elem8 : (Tryz.prog.info? 5).map (·.size) = some 1 := by kernel_rfl

theorem pad_cells {l : Str} (h : l.length ≤ 64) : bcells l ++ (bcells (zs 64)).drop l.length = bcells (pad l) := by
  rw [pad, bcells_append, ← bcells_drop, zs_drop]

set_option maxRecDepth 100000 in
set_option maxHeartbeats 400000 in
theorem write_any (at_ : Int) (s : ByteArray) (w : World) (hs : s.size ≤ 64) :
    Calls Tryz.prog 119 #[.int .i64 at_, .string s] w fun e w' => e = .returned (.agg #[.int .i64 1, .int .i64 at_, .string ⟨(pad s.data.toList).toArray⟩]) ∧ Kept no w w' := by
  have hl : s.data.toList.length = s.size := by rw [Array.length_toList]; rfl
  have hpl : (pad s.data.toList).length = 64 := pad_length (by omega)
  go_enter Tryz.func119, Tryz.ntmps119
  go_wp2_with fail
  rw [lit64]
  generalize hW : ((w.alloc (Obj.cells #[Value.int IntKind.i64 0, Value.int IntKind.i64 0, Value.string { data := #[] }] 80)).alloc (Obj.cells zeros64 202)) = W
  have hrow : W.heap[w.heap.size + 1]? = some (.cells zeros64 202 (0, 0)) := by rw [← hW]; have := heap_alloc_same (w := w.alloc (Obj.cells #[Value.int IntKind.i64 0, Value.int IntKind.i64 0, Value.string { data := #[] }] 80)) (o := Obj.cells zeros64 202); simpa using this
  have hres : W.heap[w.heap.size]? = some (.cells #[Value.int IntKind.i64 0, Value.int IntKind.i64 0, Value.string { data := #[] }] 80 (0, 0)) := by rw [← hW, heap_alloc_lt (by simp), heap_alloc_same]
  have hk : Kept no w W := by rw [← hW]; exact ((Kept.refl _ _).alloc _).alloc _
  clear hW
  rw [run_copy_str W 56 9 3 5 _ _ _ _ _ _ _ Tryz.underlying56 elem8 hrow (by omega) (by simp [zeros64]; omega)]
  have hrow2 := heap_setRow_same (cs := (zeros64.toList.take 0 ++ bcells s.data.toList ++ zeros64.toList.drop (0 + s.size)).toArray) hrow
  have hres2 : (W.setRow (w.heap.size + 1) (zeros64.toList.take 0 ++ bcells s.data.toList ++ zeros64.toList.drop (0 + s.size)).toArray).heap[w.heap.size]? = _ := (setRow_other W _ _ _ (by omega)).trans hres
  have hk2 := hk.setRow (g := w.heap.size + 1) (by omega) (zeros64.toList.take 0 ++ bcells s.data.toList ++ zeros64.toList.drop (0 + s.size)).toArray
  generalize W.setRow (w.heap.size + 1) (zeros64.toList.take 0 ++ bcells s.data.toList ++ zeros64.toList.drop (0 + s.size)).toArray = V at *
  rw [zeros64_list] at hrow2
  simp only [List.take_zero, List.nil_append, Nat.zero_add] at hrow2
  rw [← hl, pad_cells (by omega)] at hrow2
  have hb : BytesAt V (w.heap.size + 1) 0 (pad s.data.toList) := BytesAt.of_row hrow2 (fun j v h => by simpa using h)
  have hcv := run_bytes_str (P := Tryz.prog) V 56 9 5 _ _ 64 _ Tryz.underlying56 Tryz.underlying5 Tryz.underlying9 hb
  rw [hpl] at hcv
  have hc := cells_of hres2
  obtain ⟨hc1, hc2⟩ := hc
  clear hrow hrow2 hres hb hk
  have HR := hres2; clear hres2
  go_wp2
  refine bodyPost_ret (v := .agg #[.int .i64 1, .int .i64 at_, .string ⟨(pad s.data.toList).toArray⟩]) (by simp [results, Tryz.results119, go_sem, hc1]) rfl ⟨rfl, ?_⟩
  exact ((hk2.setNew (Nat.le_refl _) _).setNew (Nat.le_refl _) _).setNew (Nat.le_refl _) _

set_option maxHeartbeats 400000 in
theorem markOf_any (s : ByteArray) (w : World) (hs : s.size ≤ 140737488355328) :
    Calls Tryz.prog 98 #[.string s] w fun e w' => e = .returned (.agg #[.int .i64 s.size, .int .u32 (crc s.data.toList)]) ∧ Kept no w w' := by
  go_enter Tryz.func98, Tryz.ntmps98
  go_wp2_with (go_at_call 129; refine (sum_any _ _ hs).mono ?_; rintro e w' ⟨rfl, rfl⟩)
  refine bodyPost_ret (v := .agg #[.int .i64 s.size, .int .u32 (crc s.data.toList)]) (by simp [results, Tryz.results98, go_sem]) rfl ⟨rfl, ?_⟩
  exact (Kept.refl _ _).alloc _

set_option maxHeartbeats 400000 in
theorem settle_any (w : World) :
    Calls Tryz.prog 117 #[] w fun e w' => e = .returned (.agg #[.int .i64 2, .int .i64 0, .string ⟨#[]⟩]) ∧ Kept no w w' := by
  go_enter Tryz.func117, Tryz.ntmps117
  go_wp2
  refine bodyPost_ret (v := .agg #[.int .i64 2, .int .i64 0, .string ⟨#[]⟩]) (by simp [results, Tryz.results117, go_sem]) rfl ⟨rfl, ?_⟩
  exact (Kept.refl _ _).alloc _

set_option maxHeartbeats 400000 in
theorem headAt_any (h : Int) (w : World) (h0 : 0 ≤ h) (h1 : h ≤ 1) :
    Calls Tryz.prog 104 #[.int .i64 h] w fun e w' => e = .returned (.int .i64 (h * 40)) ∧ w' = w := by
  go_enter Tryz.func104, Tryz.ntmps104
  go_wp2
  go_ret
  exact ⟨rfl, rfl⟩

set_option maxHeartbeats 400000 in
theorem bodyAt_any (h : Int) (w : World) (h0 : 0 ≤ h) (h1 : h ≤ 1) :
    Calls Tryz.prog 120 #[.int .i64 h] w fun e w' => e = .returned (.int .i64 (h * 40 + 1)) ∧ w' = w := by
  go_enter Tryz.func120, Tryz.ntmps120
  go_wp2_with (go_at_call 104; refine (headAt_any _ _ h0 h1).mono ?_; rintro e w' ⟨rfl, rfl⟩)
  go_ret
  exact ⟨rfl, rfl⟩

set_option maxHeartbeats 400000 in
theorem blot_any (h : Int) (w : World) (h0 : 0 ≤ h) (h1 : h ≤ 1) :
    Calls Tryz.prog 118 #[.int .i64 h] w fun e w' => e = .returned (.agg #[.int .i64 1, .int .i64 (h * 40), .string ⟨(pad []).toArray⟩]) ∧ Kept no w w' := by
  go_enter Tryz.func118, Tryz.ntmps118
  go_wp2_with fail
  refine (headAt_any _ _ h0 h1).mono ?_
  rintro e w' ⟨rfl, rfl⟩
  go_wp2_with fail
  refine (write_any _ _ _ (by decide)).mono ?_
  rintro e w1 ⟨rfl, hk⟩
  have hr : w1.heap[w.heap.size]? = _ := (hk.block w.heap.size (by simp) (fun h => h)).trans heap_alloc_same
  obtain ⟨hc, hf⟩ := cells_of hr
  go_wp2
  refine bodyPost_ret (v := .agg #[.int .i64 1, .int .i64 (h * 40), .string ⟨(pad []).toArray⟩]) (by simp [results, Tryz.results118, go_sem, hc]) rfl ⟨rfl, ?_⟩
  exact (((((Kept.refl no w).alloc _).step hk).setNew (Nat.le_refl _) _).setNew (Nat.le_refl _) _).setNew (Nat.le_refl _) _

end Go.Proofs.YtdpfohgkikjeaaaGreat
/- A region that draws its order: what only reads (in whatever world of a class) comes first, whatever the order; the rest has one order. -/
namespace Go.Proofs.YtdpfohgkikjeaaaGreat
open Go.RowKit
set_option linter.unusedVariables false
set_option linter.unusedSimpArgs false

section
variable {P : Program} {ops : Array Oper} {Q : Exit → Act → World → Prop} {md : Region.Mode} {C : World → Prop}

/-- In every world of the class the operation yields v, and leaves the world. -/
def Reads (P : Program) (ops : Array Oper) (C : World → Prop) (o : Oper) (v : Value) (a : Act) : Prop :=
  (Region.wanted o (yielded ops a.tmps) = true ∧ ∀ w, C w → (execOp a.eval o).run P w = .ok (.value v) w) ∨
  (Region.wanted o (yielded ops a.tmps) = false ∧ v = undef)

theorem Reads.wpOp {i : Nat} {o : Oper} {v : Value} {a : Act} (hi : ops[i]? = some o) (hy : Reads P ops C o v a)
    {K : Act → World → Prop} {w : World} (hw : C w) (h : K (a.put o.dst v) w) : wpOp P ops Q i K a w := by
  unfold Go.wpOp
  simp only [hi]
  rcases hy with ⟨hwn, hv⟩ | ⟨hwn, rfl⟩
  · simp only [hwn, if_true, Oper.wp, hv w hw, Oper.upon]; exact .inl h
  · simp only [hwn, Bool.false_eq_true, if_false]; exact h

/-- What an operation leaves of the frame: its own slot, and what is put off. -/
theorem wpOp_shape {j : Nat} {oj : Oper} (hj : ops[j]? = some oj) {K : Act → World → Prop} {a : Act} {w : World} (h : wpOp P ops Q j K a w) :
    wpOp P ops Q j (fun a' w' => (∃ ds u, a' = Act.put { a with defers := ds } oj.dst u) ∧ K a' w') a w := by
  unfold wpOp at h ⊢
  simp only [hj] at h ⊢
  by_cases hw : Region.wanted oj (yielded ops a.tmps) = true
  · rw [if_pos hw] at h ⊢
    refine h.imp (fun h => ?_) id
    unfold Oper.wp at h ⊢
    cases hr : (execOp a.eval oj).run P w with
    | halt x w' => rw [hr] at h; cases x <;> exact h
    | ok n w' =>
      rw [hr] at h
      cases n with
      | value u => exact ⟨⟨_, u, rfl⟩, h⟩
      | skip => exact ⟨⟨_, undef, rfl⟩, h⟩
      | defer d => exact ⟨⟨_, undef, rfl⟩, h⟩
      | enter f args => exact Calls.mono h fun e w'' he => by cases e with | returned u => exact ⟨⟨_, u, rfl⟩, he⟩ | panicked c => exact he | outgrown => exact he
      | row r args => exact Rows.mono h fun u w'' he => ⟨⟨_, u, rfl⟩, he⟩
      | _ => exact h
  · rw [if_neg hw] at h ⊢
    exact ⟨⟨_, undef, rfl⟩, h⟩

/-- An operation that is apart from oi reads the same, whether oi's slot is filled or not; and oi does too behind it. -/
theorem reads_put {j : Nat} {oi oj : Oper} {v : Value} (hj : ops[j]? = some oj) (hap : oi.apart ops oj = true)
    (hsi : ∀ cs b, oi.op ≠ .select cs b) (hsj : ∀ cs b, oj.op ≠ .select cs b)
    (hQ : ∀ c a w, Q (.panic c) (a.put oi.dst v) w → Q (.panic c) a w) {K : Act → World → Prop} {a : Act} {w : World}
    (hy : Reads P ops C oi v a) (h : wpOp P ops Q j K (a.put oi.dst v) w) :
    wpOp P ops Q j (fun a' w' => Reads P ops C oi v a' ∧ K (a'.put oi.dst v) w') a w := by
  obtain ⟨h1, h2, h3⟩ := Oper.apart_spec hap
  -- a move of the value itself stands for oi: it reads nothing
  let om : Oper := { dst := oi.dst, op := .move (.const v), type := oi.type, pos := oi.pos, after := oi.after, guard := none }
  have hm : om.apart ops oj = true := by
    unfold Oper.apart at hap ⊢
    simp only [Bool.and_eq_true] at hap ⊢
    exact ⟨hap.1, by cases hd : oj.dst <;> simp [om, Oper.looksAt, Op.operands]⟩
  have hy' : Yields P ops om v a := .inl ⟨by simp [Region.wanted, om], fun w => by simp [om, execOp, Act.eval, Sem.run_pure]⟩
  refine wpOp_mono (fun a' w' hh => ?_) (wpOp_shape hj (wpOp_put hj hm (fun _ _ e => by cases e) hsj hQ hy' h))
  obtain ⟨⟨ds, u, rfl⟩, _, hk⟩ := hh
  refine ⟨?_, hk⟩
  unfold Reads at hy ⊢
  rw [execOp_put oi hsi { a with defers := ds } oj.dst u h3, wanted_put oi { a with defers := ds } oj.dst u h3]
  exact hy

/-- Whatever order is picked; every operation leaves a world of the class. -/
def wpGo (P : Program) (md : Region.Mode) (ops : Array Oper) (C : World → Prop) (Q : Exit → Act → World → Prop) : Nat → Array Bool → Act → World → Prop
  | 0, listed, a, w => Region.ready md ops listed = [] ∧ Q .normal a w
  | fuel + 1, listed, a, w =>
    (Region.ready md ops listed = [] → Q .normal a w) ∧
    ∀ i ∈ Region.ready md ops listed, wpOp P ops Q i (fun a' w' => C w' ∧ wpGo P md ops C Q fuel (listed.setIfInBounds i true) a' w') a w

theorem wpAny_of_go : ∀ (fuel : Nat) (listed : Array Bool) (a : Act) (w : World), wpGo P md ops C Q fuel listed a w → wpAny P md ops Q fuel listed a w
  | 0, _, _, _, h => h
  | fuel + 1, _, _, _, h => ⟨h.1, fun i hi => wpOp_mono (fun a' w' h' => wpAny_of_go fuel _ a' w' h'.2) (h.2 i hi)⟩

/-- Whoever is still to come waits for i, or is apart from it. -/
def Free (md : Region.Mode) (ops : Array Oper) (i : Nat) (oi : Oper) (listed : Array Bool) : Prop :=
  ∀ j oj, ops[j]? = some oj → j ≠ i → listed.getD j true = false → (∀ e ∈ oj.after, Region.binds md e = true → e.on ≠ i) → oi.apart ops oj = true

theorem Free.step {i j : Nat} {oi : Oper} {listed : Array Bool} (h : Free md ops i oi listed) (hj : listed.getD j true = false) : Free md ops i oi (listed.setIfInBounds j true) := by
  intro k ok hk hki hun
  by_cases hjk : j = k
  · subst hjk; exact h j ok hk hki hj
  · rw [getD_set_ne true hjk] at hun; exact h k ok hk hki hun

/-- Whoever may come up beside i is apart from it. -/
theorem Free.beside {i j : Nat} {oi oj : Oper} {listed : Array Bool} (h : Free md ops i oi listed) (hi : i ∈ Region.ready md ops listed) (hj : j ∈ Region.ready md ops listed) (hoj : ops[j]? = some oj) (hne : j ≠ i) : oi.apart ops oj = true := by
  obtain ⟨hun, o, ho, hall⟩ := mem_ready.1 hj
  obtain rfl : o = oj := Option.some.inj (ho.symm.trans hoj)
  have hiun := (mem_ready.1 hi).1
  refine h j o hoj hne hun fun e he hb hei => ?_
  have := hall e he hb
  rw [hei] at this
  by_cases hs : i < listed.size
  · rw [Array.getD_eq_getD_getElem?, Array.getElem?_eq_getElem hs] at this hiun
    simp only [Option.getD_some] at this hiun
    rw [this] at hiun; cases hiun
  · rw [Array.getD_eq_getD_getElem?, Array.getElem?_eq_none (by omega)] at this
    cases this

theorem wpGo_first {i : Nat} {oi : Oper} {v : Value} (hi : ops[i]? = some oi) (hsel : ∀ (j : Nat) (o : Oper) cs b, ops[j]? = some o → o.op ≠ .select cs b)
    (hQ : ∀ c a w, Q (.panic c) (a.put oi.dst v) w → Q (.panic c) a w) :
    ∀ (fuel : Nat) (listed : Array Bool) (a : Act) (w : World), C w → Free md ops i oi listed → i ∈ Region.ready md ops listed → Reads P ops C oi v a →
      wpGo P md ops C Q fuel (listed.setIfInBounds i true) (a.put oi.dst v) w → wpGo P md ops C Q (fuel + 1) listed a w
  | 0, listed, a, w, hC, _, hr, hy, H => by
    refine ⟨fun h0 => (by rw [h0] at hr; cases hr), fun j hj => ?_⟩
    rcases Nat.decEq j i with hne | rfl
    · exact absurd (ready_mono hj hne) (by rw [H.1]; exact List.not_mem_nil)
    · exact hy.wpOp hi hC ⟨hC, H⟩
  | n + 1, listed, a, w, hC, hf, hr, hy, H => by
    refine ⟨fun h0 => (by rw [h0] at hr; cases hr), fun j hj => ?_⟩
    rcases Nat.decEq j i with hne | rfl
    · obtain ⟨hjun, oj, hoj, _⟩ := mem_ready.1 hj
      have hput := reads_put hoj (hf.beside hr hj hoj hne) (fun cs b => hsel i oi cs b hi) (fun cs b => hsel j oj cs b hoj) hQ hy (H.2 j (ready_mono hj hne))
      refine wpOp_mono (fun a' w' hh => ⟨hh.2.1, ?_⟩) hput
      refine wpGo_first hi hsel hQ n _ a' w' hh.2.1 (hf.step hjun) (ready_mono hr (Ne.symm hne)) hh.1 ?_
      rw [Array.setIfInBounds_comm _ _ hne]
      exact hh.2.2
    · exact hy.wpOp hi hC ⟨hC, H⟩

/-- What only reads, one by one. -/
def wpPre (P : Program) (ops : Array Oper) (C : World → Prop) (R : Act → Prop) : List Nat → Act → Prop
  | [], a => R a
  | i :: l, a => ∃ o v, ops[i]? = some o ∧ Reads P ops C o v a ∧ wpPre P ops C R l (a.put o.dst v)

/-- The rest, in its one order; each leaves a world of the class. -/
def wpTail (P : Program) (ops : Array Oper) (C : World → Prop) (Q : Exit → Act → World → Prop) : List Nat → Act → World → Prop
  | [], a, w => Q .normal a w
  | i :: l, a, w => wpOp P ops Q i (fun a' w' => C w' ∧ wpTail P ops C Q l a' w') a w

def tailB (md : Region.Mode) (ops : Array Oper) : List Nat → Array Bool → Bool
  | [], listed => (Region.ready md ops listed).isEmpty
  | i :: l, listed => (Region.ready md ops listed == [i]) && tailB md ops l (listed.setIfInBounds i true)

def preB (md : Region.Mode) (ops : Array Oper) (t : List Nat) : List Nat → Array Bool → Bool
  | [], listed => tailB md ops t listed
  | i :: l, listed => (Region.ready md ops listed).contains i && Region.free md ops listed i && preB md ops t l (listed.setIfInBounds i true)

def drawB (ops : Array Oper) (p t : List Nat) : Bool := Region.noSelect ops && (p.length + t.length == ops.size) && preB .any ops t p (Array.replicate ops.size false)

theorem wpGo_tail : ∀ (t : List Nat) (listed : Array Bool) (a : Act) (w : World), tailB md ops t listed = true → wpTail P ops C Q t a w → wpGo P md ops C Q t.length listed a w
  | [], _, _, _, hB, h => ⟨by simpa [tailB] using hB, h⟩
  | i :: t, listed, a, w, hB, h => by
    simp only [tailB, Bool.and_eq_true, beq_iff_eq] at hB
    refine ⟨fun h0 => (by rw [hB.1] at h0; cases h0), fun j hj => ?_⟩
    rw [hB.1] at hj
    simp only [List.mem_cons, List.not_mem_nil, or_false] at hj
    subst hj
    exact wpOp_mono (fun a' w' h' => ⟨h'.1, wpGo_tail t _ a' w' hB.2 h'.2⟩) h

theorem wpGo_pre (hs : Region.noSelect ops = true) (hQ : ∀ c a d v w, Q (.panic c) (Act.put a d v) w → Q (.panic c) a w) (t : List Nat) : ∀ (p : List Nat) (listed : Array Bool) (a : Act) (w : World), C w →
    preB md ops t p listed = true → wpPre P ops C (fun a' => wpTail P ops C Q t a' w) p a → wpGo P md ops C Q (p.length + t.length) listed a w
  | [], listed, a, w, hC, hB, h => by
    simp only [List.length_nil, Nat.zero_add]
    exact wpGo_tail t listed a w hB h
  | i :: p, listed, a, w, hC, hB, h => by
    simp only [preB, Bool.and_eq_true] at hB
    obtain ⟨⟨hr, hf⟩, hB'⟩ := hB
    obtain ⟨o, v, ho, hy, hK⟩ := h
    have e : (i :: p).length + t.length = (p.length + t.length) + 1 := by simp; omega
    rw [e]
    exact wpGo_first ho (Region.noSelect_spec hs) (fun c a w => hQ c a _ _ w) _ listed a w hC (Region.free_spec ho hf) (by simpa using hr) hy
      (wpGo_pre hs hQ t p _ _ w hC hB' hK)

theorem wp_region_loud {id : Nat} {a : Act} {w : World} (C : World → Prop) (p t : List Nat) (hm : P.follows .mixedOrders = true) (hB : drawB ops p t = true)
    (hQ : ∀ c a d v w, Q (.panic c) (Act.put a d v) w → Q (.panic c) a w) (hC : C w.drew)
    (h : wpPre P ops C (fun a' => wpTail P ops C Q t a' w.drew) p a) : (Code.region id ops true).wp P Q a w := by
  simp only [drawB, Bool.and_eq_true, beq_iff_eq] at hB
  obtain ⟨⟨hs, hl⟩, hB⟩ := hB
  refine wp_region_any hm (wpAny_of_go (C := C) _ _ _ _ ?_)
  have hg := wpGo_pre hs hQ t p _ a w.drew hC hB h
  rw [hl] at hg
  exact hg

theorem wpPre_nil {R : Act → Prop} {a : Act} (h : R a) : wpPre P ops C R [] a := h
theorem wpPre_cons {R : Act → Prop} {a : Act} {i : Nat} {l : List Nat} {o : Oper} {v : Value} (ho : ops.toList[i]? = some o) (hg : o.guard = none)
    (hr : ∀ w, C w → (execOp a.eval o).run P w = .ok (.value v) w) (h : wpPre P ops C R l (a.put o.dst v)) : wpPre P ops C R (i :: l) a :=
  ⟨o, v, by simpa using ho, .inl ⟨by simp [Region.wanted, hg], hr⟩, h⟩
theorem wpTail_nil {a : Act} {w : World} (h : Q .normal a w) : wpTail P ops C Q [] a w := h
theorem wpTail_cons {a : Act} {w : World} {i : Nat} {l : List Nat} {o : Oper} (ho : ops.toList[i]? = some o) (hg : o.guard = none)
    (h : ∀ K : Act → World → Prop, (∀ a w, C w ∧ wpTail P ops C Q l a w → K a w) → o.wp P a w K Q) : wpTail P ops C Q (i :: l) a w := by
  have ho' : ops[i]? = some o := by simpa using ho
  unfold wpTail wpOp
  simp only [ho']
  rw [if_pos (by simp [Region.wanted, hg])]
  exact .inl (h _ (fun _ _ h => h))
/-- A tail operation that yields a value and leaves the world. -/
theorem wpTail_read {a : Act} {w : World} {i : Nat} {l : List Nat} {o : Oper} {v : Value} (ho : ops.toList[i]? = some o) (hg : o.guard = none) (hC : C w)
    (hr : (execOp a.eval o).run P w = .ok (.value v) w) (h : wpTail P ops C Q l (a.put o.dst v) w) : wpTail P ops C Q (i :: l) a w := by
  refine wpTail_cons ho hg fun K hK => ?_
  unfold Oper.wp
  rw [hr]
  exact hK _ _ ⟨hC, h⟩
end
end Go.Proofs.YtdpfohgkikjeaaaGreat
/- package swap: numbers as bytes (add, addMark, take, takeMark). -/
namespace Go.Proofs.YtdpfohgkikjeaaaGreat
open Go.RowKit
set_option linter.unusedVariables false
set_option linter.unusedSimpArgs false

theorem sty_bytes : SliceTy Tryz.prog 56 5 1 1 := SliceTy.mk' (z := .int .u8 0) Tryz.underlying56 (by kernel_rfl) rfl (by decide)

theorem le_step {l : Str} {k n : Nat} {m : Int} (h : m = ((n / 256 ^ k : Nat) : Int)) : bcells (l ++ le k n) ++ [Value.int .u8 (m % 256)] = bcells (l ++ le (k + 1) n) := by
  subst h
  simp only [bcells, le, List.map_append, List.map_cons, List.map_nil, List.append_assoc]
  have e : ((UInt8.ofNat (n / 256 ^ k)).toNat : Int) = (((n / 256 ^ k : Nat) : Int) % 256) := by
    rw [UInt8.toNat_ofNat']
    omega
  rw [e]

theorem div_step (n k : Nat) : ((n / 256 ^ k : Nat) : Int) / 256 = ((n / 256 ^ (k + 1) : Nat) : Int) := by
  rw [Nat.pow_succ, ← Nat.div_div_eq_div_mul]
  omega

set_option maxHeartbeats 400000 in
theorem add_any (v : Value) (n : Nat) (l : Str) (num size : Nat) (numI sizeI : Int) (w : World) (hnI : numI = (num : Int)) (hsI : sizeI = (size : Int)) (hrow : RowIn w 5 v n (bcells l)) (hlt : ∀ k, k ∈ fpv v → k < w.heap.size) (hnum : num < 18446744073709551616) (hsize : 0 < size) (hs8 : size ≤ 8) (hn : n ≤ 1000) :
    Calls Tryz.prog 142 #[v, .int .u64 numI, .int .i64 sizeI] w fun e w' => ∃ v', e = .returned v' ∧ Row w' 5 1 v' (n + size) (bcells (l ++ le size num)) ∧ Grew w w' v v' := by
  subst hnI; subst hsI
  go_enter Tryz.func142, Tryz.ntmps142
  go_wp2
  go_loopw [0, 1, 8] (fun u m i wr => ∃ k : Nat, k ≤ size ∧ m = .int .u64 ((num / 256 ^ k : Nat) : Int) ∧ i = .int .i64 k ∧ RowIn wr 5 u (n + k) (bcells (l ++ le k num)) ∧ (0 < k → Row wr 5 1 u (n + k) (bcells (l ++ le k num))) ∧ Grew w wr v u) (fun _ _ i _ => size - (intOf i).toNat)
  case atStart => exact ⟨0, by omega, by simp, rfl, by simpa [le] using hrow, fun h => absurd h (by decide), Grew.refl _ _⟩
  case round =>
    obtain ⟨k, hk, rfl, rfl, hin, hro, hg⟩ := hrel
    have hm := Nat.div_le_self num (256 ^ k)
    generalize hM : num / 256 ^ k = m at hm
    have HM : Hid (num / 256 ^ k = m) := hM
    clear hM
    by_cases hkl : k < size
    · go_wp2_with (at_builtin; refine wpList_push_in rfl _ _ 56 rfl sty_bytes u0 _ _ rfl (hin.alloc _) wr.heap.size 1 (.int .u8 ((m : Int) % 256)) rfl (by simp) rfl (by decide) (by omega) ?_; intro v' w1 hown' hgrow)
      have hr : Row w1 5 1 v' (n + (k + 1)) (bcells (l ++ le (k + 1) num)) := by
        rw [le_step (by rw [HM.out])] at hown'
        exact hown'
      have hgr : Grew wr w1 u0 v' := ⟨((Kept.refl _ _).alloc _).step hgrow.1, fun b hb => (hgrow.2 b hb).imp id (fun h => by simp at h; omega)⟩
      refine ⟨⟨k + 1, by omega, ?_, by go_num, .inl hr, fun _ => hr, hg.trans hgr hlt⟩, by simp [intOf]; omega⟩
      rw [← div_step, HM.out]
    · obtain rfl : k = size := by omega
      go_wp2
      go_ret
      exact ⟨_, rfl, hro hsize, hg⟩

theorem wrap_len {len : Int} : IntKind.u64.wrap len = len % 18446744073709551616 := IntKind.wrap_u64 len
theorem wrap_sum {sum : Nat} (h : sum < 4294967296) : IntKind.u64.wrap (sum : Int) = (sum : Int) := by rw [IntKind.wrap_u64]; omega

set_option maxHeartbeats 400000 in
theorem addMark_any (v : Value) (n : Nat) (l : Str) (len : Int) (sum : Nat) (w : World) (hrow : RowIn w 5 v n (bcells l)) (hlt : ∀ k, k ∈ fpv v → k < w.heap.size) (hsum : sum < 4294967296) (hn : n ≤ 500) :
    Calls Tryz.prog 141 #[v, .agg #[.int .i64 len, .int .u32 sum]] w fun e w' => ∃ v', e = .returned v' ∧ Row w' 5 1 v' (n + 12) (bcells (l ++ leMark ⟨len, sum⟩)) ∧ Grew w w' v v' := by
  go_enter Tryz.func141, Tryz.ntmps141
  go_wp2
  refine wp_region_loud (fun w' => w'.heap[w.heap.size]? = some (.cells #[.int .i64 len, .int .u32 sum] 93 (0, 0))) [0, 1, 2, 3, 5, 6, 7] [4, 8, 9] (by kernel_rfl) (by kernel_rfl) (fun _ _ d _ _ h => by cases d <;> exact h) heap_alloc_same ?_
  repeat (refine wpPre_cons rfl rfl (fun w' hw' => (by obtain ⟨hc, _⟩ := cells_of hw'; go_simp; rfl)) ?_; simp only [Act.put, List.setIfInBounds_toArray, List.set])
  refine wpPre_nil ?_
  rw [wrap_len, wrap_sum hsum]
  refine wpTail_cons rfl rfl (fun K hK => ?_)
  go_wp2_with fail
  refine (add_any _ n l (len % 18446744073709551616).toNat 8 _ _ _ (by omega) rfl (hrow.alloc _).drew (fun k hk => by have := hlt k hk; simp; omega) (by omega) (by decide) (by decide) (by omega)).mono ?_
  rintro e w1 ⟨v1, rfl, hr1, hg1⟩
  have hw0 : w.heap.size < (w.alloc (Obj.cells #[Value.int IntKind.i64 len, Value.int IntKind.u32 (sum : Int)] 93)).drew.heap.size := by simp
  have hbox : w1.heap[w.heap.size]? = some (.cells #[.int .i64 len, .int .u32 sum] 93 (0, 0)) :=
    (hg1.1.block w.heap.size hw0 (fun h => by have := hlt _ h; omega)).trans heap_alloc_same
  refine hK _ _ ⟨hbox, ?_⟩
  clear hK
  refine wpTail_cons rfl rfl (fun K hK => ?_)
  go_wp2_with fail
  refine (add_any _ (n + 8) (l ++ le 8 (len % 18446744073709551616).toNat) sum 4 _ _ _ rfl rfl (.inl hr1) (Row.lt hr1) (by omega) (by decide) (by decide) (by omega)).mono ?_
  rintro e w2 ⟨v2, rfl, hr2, hg2⟩
  have hbox2 : w2.heap[w.heap.size]? = some (.cells #[.int .i64 len, .int .u32 sum] 93 (0, 0)) :=
    (hg2.1.block w.heap.size (lt_of_heap hbox) (fun h => by
      rcases hg1.2 _ h with h | h
      · have := hlt _ h; omega
      · omega)).trans hbox
  refine hK _ _ ⟨hbox2, ?_⟩
  clear hK
  refine wpTail_read rfl rfl hbox2 (by go_simp; rfl) ?_
  simp only [Act.put, List.setIfInBounds_toArray, List.set]
  refine wpTail_nil ?_
  go_wp2
  go_ret
  refine ⟨v2, rfl, ?_, ?_⟩
  · rw [List.append_assoc] at hr2
    exact hr2
  · have g0 : Grew w w1 v v1 := ⟨((Kept.refl _ _).alloc _).drew.step hg1.1, fun k hk => (hg1.2 k hk).imp id (fun h => by omega)⟩
    exact g0.trans hg2 hlt
end Go.Proofs.YtdpfohgkikjeaaaGreat
/- package swap: a head's sector. -/
namespace Go.Proofs.YtdpfohgkikjeaaaGreat
open Go.RowKit
set_option linter.unusedVariables false
set_option linter.unusedSimpArgs false

/-- A head as a value. -/
def Head.val (h : Head) : Value := .agg #[.int .u64 h.number, .int .i64 h.text.len, .int .u32 h.text.sum, .int .i64 h.file.len, .int .u32 h.file.sum]
def Head.cells (h : Head) : Array Value := #[.int .u64 h.number, .int .i64 h.text.len, .int .u32 h.text.sum, .int .i64 h.file.len, .int .u32 h.file.sum]
/-- Its numbers are of their kinds. -/
structure Head.Ok (h : Head) : Prop where
  number : h.number < 18446744073709551616
  text : h.text.sum < 4294967296
  file : h.file.sum < 4294967296

set_option maxRecDepth 100000 in
set_option maxHeartbeats 1000000 in
theorem sector_any (h : Head) (w : World) (ok : h.Ok) :
    Calls Tryz.prog 121 #[.agg #[.int .u64 h.number, .int .i64 h.text.len, .int .u32 h.text.sum, .int .i64 h.file.len, .int .u32 h.file.sum]] w
      fun e w' => e = .returned (.string ⟨(headBytes h).toArray⟩) ∧ Kept no w w' := by
  obtain ⟨number, ⟨tl, ts⟩, ⟨fl, fs⟩⟩ := h
  obtain ⟨ok1, ok2, ok3⟩ := ok
  dsimp only at *
  go_enter Tryz.func121, Tryz.ntmps121
  go_wp2
  rw [lit64]
  generalize hW : ((w.alloc (Obj.cells #[.int .u64 number, .int .i64 tl, .int .u32 ts, .int .i64 fl, .int .u32 fs] 164)).alloc (Obj.cells zeros64 202)) = W
  have hb1 : W.heap[w.heap.size]? = some (.cells #[.int .u64 number, .int .i64 tl, .int .u32 ts, .int .i64 fl, .int .u32 fs] 164 (0, 0)) := by
    rw [← hW, heap_alloc_lt (by simp), heap_alloc_same]
  have hb2 : W.heap[w.heap.size + 1]? = some (.cells zeros64 202 (0, 0)) := by
    rw [← hW]; have := heap_alloc_same (w := w.alloc (Obj.cells #[.int .u64 number, .int .i64 tl, .int .u32 ts, .int .i64 fl, .int .u32 fs] 164)) (o := Obj.cells zeros64 202); simpa using this
  have hsz : W.heap.size = w.heap.size + 2 := by rw [← hW]; simp
  have hk : Kept no w W := by rw [← hW]; exact ((Kept.refl _ _).alloc _).alloc _
  clear hW
  refine wp_region_loud (fun w' => w'.heap[w.heap.size]? = some (.cells #[.int .u64 number, .int .i64 tl, .int .u32 ts, .int .i64 fl, .int .u32 fs] 164 (0, 0))) [2, 3, 5, 6, 8, 9] [0, 1, 4, 7, 10, 11] (by kernel_rfl) (by kernel_rfl) (fun _ _ d _ _ h => by cases d <;> exact h) hb1 ?_
  repeat (refine wpPre_cons rfl rfl (fun w' hw' => (by obtain ⟨hc, _⟩ := cells_of hw'; go_simp; rfl)) ?_; simp only [Act.put, List.setIfInBounds_toArray, List.set])
  refine wpPre_nil ?_
  refine wpTail_cons rfl rfl (fun K hK => ?_)
  go_wp2_with fail
  refine ⟨(heap_alloc_lt (w := W) (by omega)).trans hb1, ?_⟩
  have hg0 : (W.alloc (Obj.cells #[Value.int IntKind.u8 113, Value.int IntKind.u8 117, Value.int IntKind.u8 105, Value.int IntKind.u8 108, Value.int IntKind.u8 108, Value.int IntKind.u8 116, Value.int IntKind.u8 120, Value.int IntKind.u8 116] 5)).drew.heap[w.heap.size + 2]? = some (.cells (bcells magic).toArray 5 (0, 0)) := by
    have := heap_alloc_same (w := W) (o := Obj.cells #[Value.int IntKind.u8 113, Value.int IntKind.u8 117, Value.int IntKind.u8 105, Value.int IntKind.u8 108, Value.int IntKind.u8 108, Value.int IntKind.u8 116, Value.int IntKind.u8 120, Value.int IntKind.u8 116] 5)
    rw [hsz] at this
    exact this
  have hg1 : (W.alloc (Obj.cells #[Value.int IntKind.u8 113, Value.int IntKind.u8 117, Value.int IntKind.u8 105, Value.int IntKind.u8 108, Value.int IntKind.u8 108, Value.int IntKind.u8 116, Value.int IntKind.u8 120, Value.int IntKind.u8 116] 5)).drew.heap[w.heap.size]? = _ := (heap_alloc_lt (w := W) (by omega)).trans hb1
  have hg2 : (W.alloc (Obj.cells #[Value.int IntKind.u8 113, Value.int IntKind.u8 117, Value.int IntKind.u8 105, Value.int IntKind.u8 108, Value.int IntKind.u8 108, Value.int IntKind.u8 116, Value.int IntKind.u8 120, Value.int IntKind.u8 116] 5)).drew.heap[w.heap.size + 1]? = _ := (heap_alloc_lt (w := W) (by omega)).trans hb2
  have hgk : Kept no w (W.alloc (Obj.cells #[Value.int IntKind.u8 113, Value.int IntKind.u8 117, Value.int IntKind.u8 105, Value.int IntKind.u8 108, Value.int IntKind.u8 108, Value.int IntKind.u8 116, Value.int IntKind.u8 120, Value.int IntKind.u8 116] 5)).drew := (hk.alloc _).drew
  generalize (W.alloc (Obj.cells #[Value.int IntKind.u8 113, Value.int IntKind.u8 117, Value.int IntKind.u8 105, Value.int IntKind.u8 108, Value.int IntKind.u8 108, Value.int IntKind.u8 116, Value.int IntKind.u8 120, Value.int IntKind.u8 116] 5)).drew = V at *
  refine wpTail_cons rfl rfl (fun K hK => ?_)
  have hm := run_mark (P := Tryz.prog) V 56 5 _ 8 8 _ Tryz.underlying56 Tryz.underlying5 hg0
  go_wp2_with fail
  have hf0 := heap_mark hg0
  have hf1 : (V.freeze ⟨w.heap.size + 2, (bcells magic).toArray.size, none⟩ 1).heap[w.heap.size]? = _ := (heap_freeze_other (by omega)).trans hg1
  have hf2 : (V.freeze ⟨w.heap.size + 2, (bcells magic).toArray.size, none⟩ 1).heap[w.heap.size + 1]? = _ := (heap_freeze_other (by omega)).trans hg2
  have hfk : Kept no w (V.freeze ⟨w.heap.size + 2, (bcells magic).toArray.size, none⟩ 1) := hgk.freeze (by dsimp only; omega) rfl _
  have hfs : w.heap.size + 3 ≤ (V.freeze ⟨w.heap.size + 2, (bcells magic).toArray.size, none⟩ 1).heap.size := by have := lt_of_heap hf0; omega
  have es : (bcells magic).toArray.size = (bcells magic).length := by simp
  rw [es] at hf0 hf1 hf2 hfk hfs
  generalize V.freeze ⟨w.heap.size + 2, (bcells magic).length, none⟩ 1 = U at *
  clear hm hg0 hg1 hg2 hgk
  refine ⟨hf1, ?_⟩
  -- the number
  refine wpTail_cons rfl rfl (fun K hK => ?_)
  go_wp2_with fail
  have hin : RowIn U 5 (.slice (some ⟨w.heap.size + 2, 0, none⟩) 8 8) 8 (bcells magic) := .inr ⟨rfl, _, rfl, fun j u hu => by rw [cells_of' hf0]; simpa using hu⟩
  refine (add_any _ 8 magic number 8 _ _ _ rfl rfl hin (fun k hk => by simp [fpv_some] at hk; omega) ok1 (by decide) (by decide) (by decide)).mono ?_
  rintro e w1 ⟨v1, rfl, hr1, hgr1⟩
  obtain ⟨ha1, hp1, hq1⟩ := hgr1.above (B := w.heap.size + 2) (fun k hk => by simp [fpv_some] at hk; omega) (by omega)
  refine hK _ _ ⟨hp1 _ _ (by omega) hf1, ?_⟩
  clear hK
  -- the text's mark
  refine wpTail_cons rfl rfl (fun K hK => ?_)
  go_wp2_with fail
  have hs1 : w.heap.size + 2 ≤ w1.heap.size := by have := hgr1.1.size; omega
  refine (addMark_any _ 16 (magic ++ le 8 number) tl ts _ (.inl hr1) (Row.lt hr1) ok2 (by decide)).mono ?_
  rintro e w2 ⟨v2, rfl, hr2, hgr2⟩
  obtain ⟨ha2, hp2, hq2⟩ := hgr2.above (B := w.heap.size + 2) ha1 hs1
  refine hK _ _ ⟨hp2 _ _ (by omega) (hp1 _ _ (by omega) hf1), ?_⟩
  clear hK
  -- the file's mark
  refine wpTail_cons rfl rfl (fun K hK => ?_)
  go_wp2_with fail
  have hs2 : w.heap.size + 2 ≤ w2.heap.size := by have := hgr2.1.size; omega
  refine (addMark_any _ 28 (magic ++ le 8 number ++ leMark ⟨tl, ts⟩) fl fs _ (.inl hr2) (Row.lt hr2) ok3 (by decide)).mono ?_
  rintro e w3 ⟨v3, rfl, hr3, hgr3⟩
  obtain ⟨ha3, hp3, hq3⟩ := hgr3.above (B := w.heap.size + 2) ha2 hs2
  have hb13 := hp3 _ _ (by omega) (hp2 _ _ (by omega) (hp1 _ _ (by omega) hf1))
  have hb23 := hp3 _ _ (by omega) (hp2 _ _ (by omega) (hp1 _ _ (by omega) hf2))
  have hk3 := hq3 w (hq2 w (hq1 w hfk (by omega)) (by omega)) (by omega)
  have hs3 : w.heap.size + 2 ≤ w3.heap.size := by have := hgr3.1.size; omega
  refine hK _ _ ⟨hb13, ?_⟩
  clear hK hq1 hq2 hq3 hp1 hp2 hp3 ha1 ha2 hgr1 hgr2 hgr3 hr1 hr2 hin hf0 hf1 hf2 hfk hs1 hs2 hfs
  refine wpTail_read rfl rfl hb13 (by go_simp; rfl) ?_
  simp only [Act.put, List.setIfInBounds_toArray, List.set]
  refine wpTail_nil ?_
  obtain ⟨hr0, ⟨he, hn0, _⟩ | ⟨g, cap, hv3, hcap, hmax⟩⟩ := And.intro hr3 (Row.shape hr3)
  · exact absurd hn0 (by decide)
  subst hv3
  obtain ⟨_, _, _, hcell⟩ := Row.cell hr3
  go_wp2_with fail
  have hlen : (bcells (magic ++ le 8 number ++ leMark ⟨tl, ts⟩ ++ leMark ⟨fl, fs⟩)).length = 40 := by rw [bcells_length]; exact headTold_length ⟨number, ⟨tl, ts⟩, ⟨fl, fs⟩⟩
  generalize htold : magic ++ le 8 number ++ leMark ⟨tl, ts⟩ ++ leMark ⟨fl, fs⟩ = told at hlen hcell hr3 hr0
  have Htold : Hid (headTold ⟨number, ⟨tl, ts⟩, ⟨fl, fs⟩⟩ = told) := htold
  clear htold hr3 hr0
  rw [run_copy_row Tryz.prog w3 56 56 3 5 (w.heap.size + 1) 0 64 64 ⟨g, 0, none⟩ 40 cap zeros64 202 (bcells told) Tryz.underlying56 elem8 hb23 (by rw [hlen]; rfl) (fun j v h => by rw [add_at, Nat.zero_add]; exact hcell j v h) (by rw [hlen]; simp [zeros64]) (bcells_one _)]
  have hrow2 := heap_setRow_same (cs := (zeros64.toList.take 0 ++ bcells told ++ zeros64.toList.drop (0 + (bcells told).length)).toArray) hb23
  have hk4 := hk3.setRow (g := w.heap.size + 1) (by omega) (zeros64.toList.take 0 ++ bcells told ++ zeros64.toList.drop (0 + (bcells told).length)).toArray
  have hs4 : w.heap.size + 2 ≤ (w3.setRow (w.heap.size + 1) (zeros64.toList.take 0 ++ bcells told ++ zeros64.toList.drop (0 + (bcells told).length)).toArray).heap.size := by simpa using hs3
  generalize w3.setRow (w.heap.size + 1) (zeros64.toList.take 0 ++ bcells told ++ zeros64.toList.drop (0 + (bcells told).length)).toArray = w4 at *
  have hl40 : told.length = 40 := by rw [bcells_length] at hlen; exact hlen
  have hrow4 : w4.heap[w.heap.size + 1]? = some (.cells (bcells (told ++ zs 24)).toArray 202 (0, 0)) := by
    rw [zeros64_list] at hrow2
    simp only [List.take_zero, List.nil_append, Nat.zero_add, hlen] at hrow2
    rw [hrow2, bcells_append, ← bcells_drop, zs_drop]
  clear hrow2 hb23 hcell hb13 hb1 hb2
  go_wp2
  refine wp_region_loud (fun _ => True) [0, 1] [2, 3, 4, 5, 6] (by kernel_rfl) (by kernel_rfl) (fun _ _ d _ _ h => by cases d <;> exact h) trivial ?_
  repeat (refine wpPre_cons rfl rfl (fun w' hw' => (by go_simp; rfl)) ?_; simp only [Act.put, List.setIfInBounds_toArray, List.set])
  refine wpPre_nil ?_
  have hbl : (told ++ zs 20).length = 60 := by simp [hl40, zs_length]
  have hcv := run_bytes_str (P := Tryz.prog) w4.drew 56 9 5 (w.heap.size + 1) 0 64 (told ++ zs 20) Tryz.underlying56 Tryz.underlying5 Tryz.underlying9
    (BytesAt.of_row (w := w4.drew) hrow4 (fun j v h => by
      rw [show told ++ zs 24 = (told ++ zs 20) ++ zs 4 from by rw [List.append_assoc, ← zs_add], bcells_append, Nat.zero_add]
      rw [List.getElem?_append_left (by have := List.getElem?_eq_some_iff.1 h; exact this.1)]; exact h))
  rw [hbl] at hcv
  refine wpTail_read rfl rfl trivial (by go_simp; rfl) ?_
  simp only [Act.put, List.setIfInBounds_toArray, List.set]
  clear hcv
  refine wpTail_cons rfl rfl (fun K hK => ?_)
  go_wp2_with fail
  refine (sum_any _ _ (by show ((told ++ zs 20).toArray).size ≤ _; simp [hl40, zs_length])).mono ?_
  rintro e w5 ⟨rfl, rfl⟩
  refine hK _ _ ⟨trivial, ?_⟩
  clear hK
  have hcrc := crc_lt (told ++ zs 20)
  have ecrc : crc (ByteArray.mk (told ++ zs 20).toArray).data.toList = crc (told ++ zs 20) := rfl
  rw [ecrc]
  refine wpTail_read rfl rfl trivial (by go_simp; rw [wrap_sum hcrc]) ?_
  simp only [Act.put, List.setIfInBounds_toArray, List.set]
  refine wpTail_cons rfl rfl (fun K hK => ?_)
  go_wp2_with fail
  refine (add_any _ 0 [] (crc (told ++ zs 20)) 4 _ _ _ rfl rfl (.inl (World.ownsRow_nil _ _ _ _)) (fun k hk => by simp [fpv_nil] at hk) (by omega) (by decide) (by decide) (by decide)).mono ?_
  rintro e w5 ⟨v5, rfl, hr5, hgr5⟩
  have hrow5 : w5.heap[w.heap.size + 1]? = some (.cells (bcells (told ++ zs 24)).toArray 202 (0, 0)) := hgr5.1.get hrow4 (by simp [fpv_nil])
  have hk5 : Kept no w w5 := hk4.drew.step' hgr5.1 (by simp [fpv_nil])
  refine hK _ _ ⟨trivial, ?_⟩
  clear hK
  obtain ⟨he, hn0, _⟩ | ⟨g5, cap5, hv5, hcap5, hmax5⟩ := Row.shape hr5
  · exact absurd hn0 (by decide)
  subst hv5
  obtain ⟨_, _, _, hcell5⟩ := Row.cell hr5
  have hl4 : (bcells ([] ++ le 4 (crc (told ++ zs 20)))).length = 4 := by rw [bcells_length]; simp [le_length]
  have hcp := run_copy_row Tryz.prog w5 56 56 3 5 (w.heap.size + 1) 60 4 4 ⟨g5, 0, none⟩ 4 cap5 _ 202 _ Tryz.underlying56 elem8 hrow5 (by rw [hl4]; rfl) (fun j v h => by rw [add_at, Nat.zero_add]; exact hcell5 j v h) (by rw [hl4]; simp [bcells, hl40, zs_length]) (bcells_one _)
  have hrow6 := heap_setRow_same (cs := ((bcells (told ++ zs 24)).toArray.toList.take 60 ++ bcells ([] ++ le 4 (crc (told ++ zs 20))) ++ (bcells (told ++ zs 24)).toArray.toList.drop (60 + (bcells ([] ++ le 4 (crc (told ++ zs 20)))).length)).toArray) hrow5
  have hk6 := hk5.setRow (g := w.heap.size + 1) (by omega) ((bcells (told ++ zs 24)).toArray.toList.take 60 ++ bcells ([] ++ le 4 (crc (told ++ zs 20))) ++ (bcells (told ++ zs 24)).toArray.toList.drop (60 + (bcells ([] ++ le 4 (crc (told ++ zs 20)))).length)).toArray
  generalize w5.setRow (w.heap.size + 1) ((bcells (told ++ zs 24)).toArray.toList.take 60 ++ bcells ([] ++ le 4 (crc (told ++ zs 20))) ++ (bcells (told ++ zs 24)).toArray.toList.drop (60 + (bcells ([] ++ le 4 (crc (told ++ zs 20)))).length)).toArray = w6 at *
  have hfin : w6.heap[w.heap.size + 1]? = some (.cells (bcells (headBytes ⟨number, ⟨tl, ts⟩, ⟨fl, fs⟩⟩)).toArray 202 (0, 0)) := by
    rw [hrow6, hl4]
    congr 2
    have h60 : (told ++ zs 24).take 60 = told ++ zs 20 := by
      rw [show told ++ zs 24 = (told ++ zs 20) ++ zs 4 from by rw [List.append_assoc, ← zs_add], ← hbl]
      exact List.take_left
    have h64 : (told ++ zs 24).drop (60 + 4) = [] := List.drop_eq_nil_of_le (by simp [hl40, zs_length])
    have e1 : (bcells (told ++ zs 24)).toArray.toList = bcells (told ++ zs 24) := rfl
    rw [e1, ← bcells_take, ← bcells_drop, h60, h64, ← bcells_append, ← bcells_append]
    rw [headBytes, headBody, Htold.out]
    simp
  clear hrow6 hrow5 hcell5
  refine wpTail_cons rfl rfl (fun K hK => ?_)
  go_wp2_with fail
  have hbl2 := headBytes_length ⟨number, ⟨tl, ts⟩, ⟨fl, fs⟩⟩
  have hcv2 := run_bytes_str (P := Tryz.prog) w6 56 9 5 (w.heap.size + 1) 0 64 (headBytes ⟨number, ⟨tl, ts⟩, ⟨fl, fs⟩⟩) Tryz.underlying56 Tryz.underlying5 Tryz.underlying9
    (BytesAt.of_row hfin (fun j v h => by rw [Nat.zero_add]; exact h))
  rw [hbl2] at hcv2
  clear hbl2 hbl hl4 hcp
  refine wpTail_nil ?_
  go_wp2
  go_ret
  exact ⟨rfl, hk6⟩
end Go.Proofs.YtdpfohgkikjeaaaGreat

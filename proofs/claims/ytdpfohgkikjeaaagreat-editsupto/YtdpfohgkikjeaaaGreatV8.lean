/- Part 8 of the proof: see its parts. -/
import Derived.Laws.FloatArith
import Derived.Test.YtdpfohgkikjeaaaGreatV4
import Derived.Test.YtdpfohgkikjeaaaGreatV7
/- Clone of both kinds of row; append of a slice that may be nil. -/
namespace Go.Proofs.YtdpfohgkikjeaaaGreat
open Go.RowKit
set_option linter.unusedVariables false
set_option linter.unusedSimpArgs false

theorem run_append_none {P : Program} {t e : TypeId} {bytes : Nat} (T : SliceTy P t e 1 bytes) (ty : TypeId) (w : World) (v : Value) (n : Nat) (xs : List Value) (hown : Row w e 1 v n xs) :
    (Builtin.append_ #[t, t] ty #[v, .slice none 0 0]).run P w = .ok v w := by
  obtain ⟨i, z, hi, hz, hs, hb, hzs⟩ := T.info
  rcases hown.shape with ⟨rfl, rfl, rfl⟩ | ⟨g, c, rfl, h1, h2⟩
  · simp [Builtin.append_, run_underlying T.under, sizeOf, typeInfo, hi, hs, Builtin.lenOf, Builtin.firstCells]
  · simp [Builtin.append_, run_underlying T.under, sizeOf, typeInfo, hi, hs, Builtin.lenOf, Builtin.firstCells, h1, storeCells]

/-- append(v, u..): u may be nil. -/
theorem wp_app_any {P : Program} {w : World} {o : Oper} {a : Act} {Q : Exit → Act → World → Prop} {K : Act → World → Prop} (s x : Operand) (t : TypeId) (ho : o.op = .call { callee := .builtin .append, args := #[s, x], argTypes := #[t, t] })
    {e : TypeId} {bytes : Nat} (T : SliceTy P t e 1 bytes) (v : Value) (n : Nat) (xs : List Value) (hs : a.eval s = v) (hown : Row w e 1 v n xs)
    (u : Value) (m : Nat) (ys : List Value) (hx : a.eval x = u) (hu : Row w e 1 u m ys) (h1 : ∀ y ∈ ys, y.oneCell' = true)
    (hb : bytes ≤ 64) (hn : n + m ≤ 1099511627776)
    (h : ∀ v' w', Row w' e 1 v' (n + m) (xs ++ ys) → Grew w w' v v' → (v' = .slice none 0 0 ↔ v = .slice none 0 0 ∧ m = 0) → K (a.put o.dst v') w') : o.wp P a w K Q := by
  unfold Oper.wp execOp
  rcases hu.shape with ⟨rfl, rfl, rfl⟩ | ⟨g, c, rfl, h2, h3⟩
  · have hr := fun ty => run_append_none T ty w v n xs hown
    simp only [ho, resolve, invoke, builtin, Sem.run_bind, Sem.run_pure, Result.andThen_ok, List.map_toArray, List.map_cons, List.map_nil, hs, hx, hr]
    exact h v w (by simpa using hown) (Grew.refl _ _) (by simp)
  · obtain ⟨_, _, _, hcell⟩ := hu.cell
    obtain ⟨v', w', hr, h4, h5, h6⟩ := run_app T o.type w v n xs hown g 0 m c ys (by have := hu.len; omega) (fun j y hj => by rw [Nat.zero_add]; exact hcell j y hj) h1 (by
      have : (n + m) * bytes ≤ 1099511627776 * 64 := Nat.mul_le_mul hn hb
      omega) (by omega)
    simp only [ho, resolve, invoke, builtin, Sem.run_bind, Sem.run_pure, Result.andThen_ok, List.map_toArray, List.map_cons, List.map_nil, hs, hx, hr]
    exact h v' w' h4 h5 h6

set_option maxHeartbeats 2000000 in
theorem clone_someS (g o n c : Nat) (xs : List Value) (w : World) (hl : xs.length = n) (hc : ∀ j u, xs[j]? = some u → w.cell? ⟨g, o + j, none⟩ = some u) (hone : ∀ u ∈ xs, u.oneCell' = true) (hn : n ≤ 1000000) :
    Calls Tryz.prog 139 #[.slice (some ⟨g, o, none⟩) n c] w fun e w' => ∃ v', e = .returned v' ∧ Row w' 9 1 v' n xs ∧ Kept no w w' ∧ (∀ k, k ∈ fpv v' → w.heap.size ≤ k) := by
  have q22 : ∀ (w : World) (a : Option Addr) (n c n' c' : Nat), (binOp .eql 34 (.slice a n c) (.slice none n' c')).run Tryz.prog w = .ok (.bool a.isNone) w := fun w a n c n' c' => Lib.run_eql_slice_nil w _ _ a n c n' c' tyS.under
  have A : Hid (∀ j u, xs[j]? = some u → w.cell? ⟨g, o + j, none⟩ = some u) := hc
  clear hc
  go_enter Tryz.func139, Tryz.ntmps139
  go_wp2_with (at_builtin; refine wpList_app rfl _ _ 34 rfl tyS _ 0 [] rfl ?q1 g o n c xs rfl (by omega) ?q2 hone ?q4 (by omega) ?_)
  case q1 => exact ⟨rfl, .inr ⟨w.heap.size, 0, #[], rfl, Nat.zero_le _, heap_alloc_same, Nat.le_refl _, by simp only [maxLen]; omega, rfl, rfl⟩⟩
  case q2 =>
    intro j u hj
    have := A.out j u hj
    rw [World.cell?_alloc_lt _ _ _ (World.block_lt_of_cell? _ _ this)]
    exact this
  case q4 => omega
  intro v' w1 hr hg
  go_wp2
  go_ret
  obtain ⟨h1, h2, h3⟩ := hg.above (B := w.heap.size) (fun k hk => by simp [fpv_some] at hk; omega) (by simp)
  exact ⟨v', rfl, by simpa using hr, h3 w ((Kept.refl _ _).alloc _) (Nat.le_refl _), h1⟩

set_option maxHeartbeats 2000000 in
theorem clone_nilS (n c : Nat) (w : World) : Calls Tryz.prog 139 #[.slice none n c] w fun e w' => e = .returned (.slice none 0 0) ∧ w' = w := by
  have q22 : ∀ (w : World) (a : Option Addr) (n c n' c' : Nat), (binOp .eql 34 (.slice a n c) (.slice none n' c')).run Tryz.prog w = .ok (.bool a.isNone) w := fun w a n c n' c' => Lib.run_eql_slice_nil w _ _ a n c n' c' tyS.under
  go_enter Tryz.func139, Tryz.ntmps139
  go_wp2
  go_ret
  exact ⟨rfl, rfl⟩
set_option maxHeartbeats 2000000 in
theorem clone_someK (g o n c : Nat) (xs : List Value) (w : World) (hl : xs.length = n) (hc : ∀ j u, xs[j]? = some u → w.cell? ⟨g, o + j, none⟩ = some u) (hone : ∀ u ∈ xs, u.oneCell' = true) (hn : n ≤ 1000000) :
    Calls Tryz.prog 140 #[.slice (some ⟨g, o, none⟩) n c] w fun e w' => ∃ v', e = .returned v' ∧ Row w' 141 1 v' n xs ∧ Kept no w w' ∧ (∀ k, k ∈ fpv v' → w.heap.size ≤ k) := by
  have q22 : ∀ (w : World) (a : Option Addr) (n c n' c' : Nat), (binOp .eql 86 (.slice a n c) (.slice none n' c')).run Tryz.prog w = .ok (.bool a.isNone) w := fun w a n c n' c' => Lib.run_eql_slice_nil w _ _ a n c n' c' tyK.under
  have A : Hid (∀ j u, xs[j]? = some u → w.cell? ⟨g, o + j, none⟩ = some u) := hc
  clear hc
  go_enter Tryz.func140, Tryz.ntmps140
  go_wp2_with (at_builtin; refine wpList_app rfl _ _ 86 rfl tyK _ 0 [] rfl ?q1 g o n c xs rfl (by omega) ?q2 hone ?q4 (by omega) ?_)
  case q1 => exact ⟨rfl, .inr ⟨w.heap.size, 0, #[], rfl, Nat.zero_le _, heap_alloc_same, Nat.le_refl _, by simp only [maxLen]; omega, rfl, rfl⟩⟩
  case q2 =>
    intro j u hj
    have := A.out j u hj
    rw [World.cell?_alloc_lt _ _ _ (World.block_lt_of_cell? _ _ this)]
    exact this
  case q4 => omega
  intro v' w1 hr hg
  go_wp2
  go_ret
  obtain ⟨h1, h2, h3⟩ := hg.above (B := w.heap.size) (fun k hk => by simp [fpv_some] at hk; omega) (by simp)
  exact ⟨v', rfl, by simpa using hr, h3 w ((Kept.refl _ _).alloc _) (Nat.le_refl _), h1⟩

set_option maxHeartbeats 2000000 in
theorem clone_nilK (n c : Nat) (w : World) : Calls Tryz.prog 140 #[.slice none n c] w fun e w' => e = .returned (.slice none 0 0) ∧ w' = w := by
  have q22 : ∀ (w : World) (a : Option Addr) (n c n' c' : Nat), (binOp .eql 86 (.slice a n c) (.slice none n' c')).run Tryz.prog w = .ok (.bool a.isNone) w := fun w a n c n' c' => Lib.run_eql_slice_nil w _ _ a n c n' c' tyK.under
  go_enter Tryz.func140, Tryz.ntmps140
  go_wp2
  go_ret
  exact ⟨rfl, rfl⟩
end Go.Proofs.YtdpfohgkikjeaaaGreat
/- The tree's nodes in memory; contracts of leaf and fill. -/
namespace Go.Proofs.YtdpfohgkikjeaaaGreat
open Go.RowKit
set_option linter.unusedVariables false
set_option linter.unusedSimpArgs false

theorem leaf_any (b : Nat) (vi vk : Value) (cnt : Value) (rest : List Value) (T : TypeId) (w : World) (hb : w.heap[b]? = some (.cells (vi :: vk :: cnt :: rest).toArray T (0, 0))) (p : Option Addr) (n c : Nat) (hk : vk = .slice p n c) :
    Calls Tryz.prog 107 #[.pointer (some ⟨b, 0, none⟩)] w fun e w' => e = .returned (.bool (decide (n = 0))) ∧ w' = w := by
  obtain ⟨hc, _⟩ := cells_of hb
  subst hk
  go_enter Tryz.func107, Tryz.ntmps107
  go_wp2
  go_ret
  refine ⟨?_, rfl⟩
  show Ending.returned (.bool ((n : Int) == 0)) = _
  congr 2
  rw [Bool.eq_iff_iff]; simp

/-- How full a node of so many is: a float64's bits. -/
def fillBits (N : Nat) : Nat := (floatBits .quo .f64 (floatOfInt .f64 (N : Int)) 4620693217682128896).getD 0

theorem fill_table : ((List.range 18).all fun N => (floatBits .quo .f64 (floatOfInt .f64 (N : Int)) 4620693217682128896 == some (fillBits N)) && ((FloatKind.f64.format.order (fillBits N) 4602678819172646912 == some .lt) == decide (N < 4)) && ((FloatKind.f64.format.order (fillBits N) 4607182418800017408 == some .gt) == decide (8 < N))) = true := by kernel_rfl

theorem fill_facts (N : Nat) (h : N ≤ 17) : floatBits .quo .f64 (floatOfInt .f64 (N : Int)) 4620693217682128896 = some (fillBits N) ∧ (FloatKind.f64.format.order (fillBits N) 4602678819172646912 == some .lt) = decide (N < 4) ∧ (FloatKind.f64.format.order (fillBits N) 4607182418800017408 == some .gt) = decide (8 < N) := by
  have := List.all_eq_true.1 fill_table N (List.mem_range.2 (by omega))
  simp only [Bool.and_eq_true, beq_iff_eq] at this
  exact ⟨this.1.1, this.1.2, this.2⟩

theorem fill_any (b : Nat) (vi vk : Value) (cnt : Value) (rest : List Value) (T : TypeId) (w : World) (hb : w.heap[b]? = some (.cells (vi :: vk :: cnt :: rest).toArray T (0, 0))) (p q : Option Addr) (n m c d : Nat) (hi : vi = .slice p n c) (hk : vk = .slice q m d) (hs : n + m ≤ 17) :
    Calls Tryz.prog 113 #[.pointer (some ⟨b, 0, none⟩)] w fun e w' => e = .returned (.float .f64 (fillBits (n + m))) ∧ ∃ k, w' = w.drewN k := by
  go_enter Tryz.func113, Tryz.ntmps113
  go_wp2
  refine wp_region_loud (fun w' => w'.heap[b]? = some (.cells (vi :: vk :: cnt :: rest).toArray T (0, 0))) [0, 1, 2, 3, 4, 5, 6, 7, 8, 9, 10, 11, 12] [13] (by kernel_rfl) (by kernel_rfl) (fun _ _ d _ _ h => by cases d <;> exact h) hb ?_
  subst hi hk
  have hw : IntKind.i64.wrap ((n : Int) + (m : Int)) = ((n + m : Nat) : Int) := by rw [IntKind.wrap_i64]; omega
  iterate 10 (refine wpPre_cons rfl rfl (fun w' hw' => (by obtain ⟨hc, _⟩ := cells_of hw'; go_simp; rfl)) ?_; simp only [Act.put, List.setIfInBounds_toArray, List.set])
  refine wpPre_cons (v := .int .i64 ((n + m : Nat) : Int)) rfl rfl (fun w' hw' => by go_simp) ?_
  simp only [Act.put, List.setIfInBounds_toArray, List.set]
  refine wpPre_cons (v := .float .f64 (floatOfInt .f64 ((n + m : Nat) : Int))) rfl rfl (fun w' hw' => ?_) ?_
  · go_simp
  simp only [Act.put, List.setIfInBounds_toArray, List.set]
  refine wpPre_cons (v := .float .f64 (fillBits (n + m))) rfl rfl (fun w' hw' => ?_) ?_
  · have := run_float_arith (P := Tryz.prog) w' .quo 176 .f64 _ _ _ (fill_facts (n + m) hs).1
    rw [Int.natCast_add] at this
    go_simp
  simp only [Act.put, List.setIfInBounds_toArray, List.set]
  refine wpPre_nil ?_
  refine wpTail_read rfl rfl hb (by go_simp; rfl) ?_
  simp only [Act.put, List.setIfInBounds_toArray, List.set]
  refine wpTail_nil ?_
  go_wp2
  go_ret
  exact ⟨rfl, 1, rfl⟩
end Go.Proofs.YtdpfohgkikjeaaaGreat
/- What a tree's node is in memory. -/
namespace Go.Proofs.YtdpfohgkikjeaaaGreat
open Go.RowKit
set_option linter.unusedVariables false
set_option linter.unusedSimpArgs false

/-- A node: its block, how many items or kids it has itself, the items in it and below it, the blocks that it takes. -/
structure Kid where
  b : Nat
  n : Nat
  ls : List Str
  fp : List Nat

def Kid.ptr (k : Kid) : Value := .pointer (some ⟨k.b, 0, none⟩)
abbrev nilS : Value := .slice none 0 0
def Kid.count (k : Kid) : Value := .int .i64 (k.ls.length : Int)

/-- All items of some kids; all their blocks. -/
def itemsOf (ks : List Kid) : List Str := (ks.map Kid.ls).flatten
def blocksOf (ks : List Kid) : List Nat := (ks.map Kid.fp).flatten

/-- A leaf's own cells. -/
structure LeafR (w : World) (rest : List Value) (T : TypeId) (k : Kid) (v : Value) : Prop where
  cells : w.heap[k.b]? = some (.cells (v :: nilS :: k.count :: rest).toArray T (0, 0))
  row : Row w 9 1 v k.n (k.ls.map sv)
  fp : k.fp = k.b :: fpv v
  nodup : k.fp.Nodup

/-- A branch's own cells. -/
structure BranchR (w : World) (rest : List Value) (T : TypeId) (k : Kid) (v : Value) (ks : List Kid) : Prop where
  cells : w.heap[k.b]? = some (.cells (nilS :: v :: k.count :: rest).toArray T (0, 0))
  row : Row w 141 1 v k.n (ks.map Kid.ptr)
  ls : k.ls = itemsOf ks
  fp : k.fp = k.b :: (fpv v ++ blocksOf ks)
  nodup : k.fp.Nodup

/-- A node of height h. -/
def NodeR (w : World) : Nat → List Value → TypeId → Kid → Prop
  | 0, rest, T, k => ∃ v, LeafR w rest T k v
  | h + 1, rest, T, k => 0 < k.n ∧ ∃ v ks, BranchR w rest T k v ks ∧ ∀ c ∈ ks, NodeR w h [] 88 c ∧ 4 ≤ c.n ∧ c.n ≤ 8

theorem LeafR.len {w rest T k v} (h : LeafR w rest T k v) : k.ls.length = k.n := by simpa using h.row.len
theorem BranchR.len {w rest T k v ks} (h : BranchR w rest T k v ks) : ks.length = k.n := by simpa using h.row.len

theorem mem_blocksOf {ks : List Kid} {x : Nat} : x ∈ blocksOf ks ↔ ∃ c ∈ ks, x ∈ c.fp := by
  simp only [blocksOf, List.mem_flatten, List.mem_map]
  exact ⟨fun ⟨l, ⟨c, h1, h2⟩, h3⟩ => ⟨c, h1, h2 ▸ h3⟩, fun ⟨c, h1, h2⟩ => ⟨_, ⟨c, h1, rfl⟩, h2⟩⟩

theorem LeafR.kept {S : Blocks} {w w' : World} {rest T k v} (h : LeafR w rest T k v) (hk : Kept S w w') (hn : ∀ x ∈ k.fp, ¬ S x) : LeafR w' rest T k v :=
  ⟨hk.get h.cells (hn _ (by rw [h.fp]; simp)), h.row.kept hk (fun x hx => hn x (by rw [h.fp]; simp [hx])), h.fp, h.nodup⟩

theorem BranchR.kept {S : Blocks} {w w' : World} {rest T k v ks} (h : BranchR w rest T k v ks) (hk : Kept S w w') (hn : ∀ x ∈ k.fp, ¬ S x) : BranchR w' rest T k v ks :=
  ⟨hk.get h.cells (hn _ (by rw [h.fp]; simp)), h.row.kept hk (fun x hx => hn x (by rw [h.fp]; simp [hx])), h.ls, h.fp, h.nodup⟩

theorem BranchR.kid {w : World} {rest T k v ks} (h : BranchR w rest T k v ks) {c : Kid} (hc : c ∈ ks) : ∀ x ∈ c.fp, x ∈ k.fp := fun x hx => by
  rw [h.fp]; simp [mem_blocksOf]; exact .inr (.inr ⟨c, hc, hx⟩)

theorem NodeR.kept {S : Blocks} {w w' : World} (hk : Kept S w w') : ∀ (h : Nat) {rest T k}, NodeR w h rest T k → (∀ x ∈ k.fp, ¬ S x) → NodeR w' h rest T k
  | 0, _, _, _, ⟨v, hl⟩, hn => ⟨v, hl.kept hk hn⟩
  | h + 1, _, _, _, ⟨h0, v, ks, hb, hc⟩, hn => ⟨h0, v, ks, hb.kept hk hn, fun c hm => ⟨NodeR.kept hk h (hc c hm).1 (fun x hx => hn x (hb.kid hm x hx)), (hc c hm).2⟩⟩

theorem NodeR.lt {w : World} : ∀ (h : Nat) {rest T k}, NodeR w h rest T k → ∀ x ∈ k.fp, x < w.heap.size
  | 0, _, _, _, ⟨v, hl⟩, x, hx => by
    rw [hl.fp] at hx
    rcases List.mem_cons.1 hx with rfl | hx
    · exact lt_of_heap hl.cells
    · exact hl.row.lt x hx
  | h + 1, _, _, _, ⟨h0, v, ks, hb, hc⟩, x, hx => by
    rw [hb.fp] at hx
    rcases List.mem_cons.1 hx with rfl | hx
    · exact lt_of_heap hb.cells
    rcases List.mem_append.1 hx with hx | hx
    · exact hb.row.lt x hx
    · obtain ⟨c, hm, hx⟩ := mem_blocksOf.1 hx
      exact NodeR.lt h (hc c hm).1 x hx

/-- The count that stands in a node. -/
theorem NodeR.count {w : World} : ∀ (h : Nat) {rest T k}, NodeR w h rest T k → ∃ a b r, w.heap[k.b]? = some (.cells (a :: b :: k.count :: r).toArray T (0, 0))
  | 0, _, _, _, ⟨v, hl⟩ => ⟨_, _, _, hl.cells⟩
  | h + 1, _, _, _, ⟨h0, v, ks, hb, hc⟩ => ⟨_, _, _, hb.cells⟩

theorem NodeR.mem {w : World} : ∀ (h : Nat) {rest T k}, NodeR w h rest T k → k.b ∈ k.fp
  | 0, _, _, _, ⟨v, hl⟩ => by rw [hl.fp]; simp
  | h + 1, _, _, _, ⟨h0, v, ks, hb, hc⟩ => by rw [hb.fp]; simp

theorem NodeR.nodup {w : World} : ∀ (h : Nat) {rest T k}, NodeR w h rest T k → k.fp.Nodup
  | 0, _, _, _, ⟨v, hl⟩ => hl.nodup
  | h + 1, _, _, _, ⟨h0, v, ks, hb, hc⟩ => hb.nodup

/-- In which kid a place is, and where in it. The place behind all is the last kid's. -/
def seek : List Kid → Nat → Nat → Nat × Nat
  | [], i, at' => (i, at')
  | [c], i, at' => (i, at')
  | c :: d :: r, i, at' => if c.ls.length ≤ at' then seek (d :: r) (i + 1) (at' - c.ls.length) else (i, at')

theorem seek_spec : ∀ (ks : List Kid) (i at' : Nat), ks ≠ [] → at' ≤ (itemsOf ks).length → ∃ A c B, ks = A ++ c :: B ∧ (seek ks i at').1 = i + A.length ∧ (itemsOf A).length + (seek ks i at').2 = at' ∧ (seek ks i at').2 ≤ c.ls.length ∧ (at' < (itemsOf ks).length → (seek ks i at').2 < c.ls.length)
  | [c], i, at', _, h => ⟨[], c, [], rfl, rfl, by simp [itemsOf, seek], by simpa [itemsOf, seek] using h, by simp [itemsOf, seek]⟩
  | c :: d :: r, i, at', _, h => by
    unfold seek
    by_cases hc : c.ls.length ≤ at'
    · rw [if_pos hc]
      have hl : (itemsOf (c :: d :: r)).length = c.ls.length + (itemsOf (d :: r)).length := by simp [itemsOf]
      obtain ⟨A, e, B, h1, h2, h3, h4, h5⟩ := seek_spec (d :: r) (i + 1) (at' - c.ls.length) (by simp) (by omega)
      refine ⟨c :: A, e, B, by rw [h1]; rfl, by rw [h2]; simp; omega, ?_, h4, fun hh => h5 (by omega)⟩
      have : (itemsOf (c :: A)).length = c.ls.length + (itemsOf A).length := by simp [itemsOf]
      omega
    · rw [if_neg hc]
      exact ⟨[], c, d :: r, rfl, by simp, by simp [itemsOf], by simp; omega, fun _ => by simp; omega⟩
end Go.Proofs.YtdpfohgkikjeaaaGreat
/- find, tally. -/
namespace Go.Proofs.YtdpfohgkikjeaaaGreat
open Go.RowKit
set_option linter.unusedVariables false
set_option linter.unusedSimpArgs false

/-- Kids as find and tally see them: addresses in a row, a count behind each. -/
structure KidsAt (w : World) (v : Value) (ks : List Kid) : Prop where
  row : Row w 141 1 v ks.length (ks.map Kid.ptr)
  counts : ∀ c ∈ ks, ∃ a b r T, w.heap[c.b]? = some (.cells (a :: b :: c.count :: r).toArray T (0, 0))

theorem BranchR.kidsAt {w : World} {h : Nat} {rest T k v ks} (hb : BranchR w rest T k v ks) (hc : ∀ c ∈ ks, NodeR w h [] 88 c) : KidsAt w v ks :=
  ⟨hb.len.symm ▸ hb.row, fun c hm => by obtain ⟨a, b, r, hh⟩ := (hc c hm).count; exact ⟨a, b, r, _, hh⟩⟩

theorem KidsAt.at {w : World} {v : Value} {ks : List Kid} (h : KidsAt w v ks) {i : Nat} (hi : i < ks.length) : ∃ g c', v = .slice (some ⟨g, 0, none⟩) ks.length c' ∧ w.cell? ⟨g, i, none⟩ = some (Kid.ptr ks[i]) ∧ w.cell? ⟨(ks[i]).b, 2, none⟩ = some (Kid.count ks[i]) := by
  rcases h.row.shape with ⟨_, h0, _⟩ | ⟨g, c', rfl, _, _⟩
  · omega
  · obtain ⟨_, _, _, hcell⟩ := h.row.cell
    obtain ⟨a, b, r, T, hh⟩ := h.counts ks[i] (List.getElem_mem hi)
    refine ⟨g, c', rfl, hcell i _ (by simp [hi]), ?_⟩
    rw [cells_of' hh]; rfl

theorem seek_step (ks : List Kid) (i at' : Nat) (hi : i + 1 < ks.length) : seek (ks.drop i) i at' = if (ks[i]).ls.length ≤ at' then seek (ks.drop (i + 1)) (i + 1) (at' - (ks[i]).ls.length) else (i, at') := by
  have h1 : ks.drop i = ks[i] :: ks[i + 1] :: ks.drop (i + 2) := by rw [List.drop_eq_getElem_cons (by omega), List.drop_eq_getElem_cons (by omega)]
  have h2 : ks.drop (i + 1) = ks[i + 1] :: ks.drop (i + 2) := by rw [List.drop_eq_getElem_cons (by omega)]
  rw [h1, h2]; rfl

theorem seek_last (ks : List Kid) (i at' : Nat) (hi : i + 1 = ks.length) : seek (ks.drop i) i at' = (i, at') := by
  have h1 : ks.drop i = [ks[i]] := by rw [List.drop_eq_getElem_cons (by omega), List.drop_eq_nil_of_le (by omega)]
  rw [h1]; rfl

set_option maxHeartbeats 1000000 in
theorem find_any (b : Nat) (vi v cnt : Value) (rest : List Value) (T : TypeId) (ks : List Kid) (at' : Nat) (aI : Int) (haI : aI = (at' : Int)) (w : World) (hb : w.heap[b]? = some (.cells (vi :: v :: cnt :: rest).toArray T (0, 0))) (hk : KidsAt w v ks) (h0 : 0 < ks.length) (hn : ks.length ≤ 1000000) (hl : ∀ c ∈ ks, c.ls.length ≤ 1099511627776) (hat : at' ≤ 1099511627776) :
    Calls Tryz.prog 109 #[.pointer (some ⟨b, 0, none⟩), .int .i64 aI] w fun e w' => e = .returned (.tuple #[.int .i64 ((seek ks 0 at').1 : Int), .int .i64 ((seek ks 0 at').2 : Int)]) ∧ w' = w := by
  subst haI
  obtain ⟨hc, _⟩ := cells_of hb
  obtain ⟨g, c', rfl, _, _⟩ := hk.at (i := 0) h0
  go_enter Tryz.func109, Tryz.ntmps109
  go_wp2
  go_loop [1, 6] (fun a i => ∃ (j x : Nat), j < ks.length ∧ x ≤ at' ∧ seek ks 0 at' = seek (ks.drop j) j x ∧ a = .int .i64 x ∧ i = .int .i64 j) (fun _ i => ks.length - (intOf i).toNat)
  case atStart => exact ⟨0, at', h0, Nat.le_refl _, rfl, rfl, rfl⟩
  case round =>
    obtain ⟨j, x, hj, hx, hs, rfl, rfl⟩ := hrel
    have HS : Hid (seek ks 0 at' = seek (ks.drop j) j x) := hs
    clear hs
    obtain ⟨g', c'', he, hp, hcount⟩ := hk.at hj
    simp only [Value.slice.injEq, Option.some.injEq, Addr.mk.injEq, and_true, true_and] at he
    obtain ⟨⟨rfl, _⟩, rfl⟩ := he
    generalize hK : ks[j] = K at hp hcount
    have hKl : K.ls.length ≤ 1099511627776 := hl K (by rw [← hK]; exact List.getElem_mem hj)
    simp only [Kid.ptr, Kid.count] at hp hcount
    have hw1 : IntKind.i64.wrap ((ks.length : Int) - 1) = (ks.length : Int) - 1 := by rw [IntKind.wrap_i64]; omega
    have hw2 : IntKind.i64.wrap ((j : Int) + 1) = (j : Int) + 1 := by rw [IntKind.wrap_i64]; omega
    have hw3 : IntKind.i64.wrap ((x : Int) - (K.ls.length : Int)) = (x : Int) - (K.ls.length : Int) := by rw [IntKind.wrap_i64]; omega
    by_cases hlast : j + 1 < ks.length
    · have hg1 : (j : Int) < (ks.length : Int) - 1 := by omega
      by_cases hge : K.ls.length ≤ x
      · have hg2 : (K.ls.length : Int) ≤ (x : Int) := by omega
        go_wp2
        refine ⟨⟨j + 1, x - K.ls.length, hlast, by omega, ?_, by go_num, by go_num⟩, by simp [intOf]; omega⟩
        rw [HS.out, seek_step ks j x hlast, hK, if_pos hge]
      · have hg2 : ¬ (K.ls.length : Int) ≤ (x : Int) := by omega
        go_wp2
        go_ret2
        rw [HS.out, seek_step ks j x hlast, hK, if_neg hge]
        exact ⟨rfl, rfl⟩
    · have hg1 : ¬ (j : Int) < (ks.length : Int) - 1 := by omega
      go_wp2
      go_ret2
      rw [HS.out, seek_last ks j x (by omega)]
      exact ⟨rfl, rfl⟩

theorem Kept.cell1 {w : World} {b o : Nat} {u : Value} : Kept (fun k => k = b) w (w.setCell ⟨b, o, none⟩ u) := Kept.setCell (S := fun k => k = b) (Kept.refl _ _) (p := ⟨b, o, none⟩) (fun _ => rfl) _

theorem KidsAt.kept {S : Blocks} {w w' : World} {v : Value} {ks : List Kid} (h : KidsAt w v ks) (hk : Kept S w w') (h1 : ∀ x ∈ fpv v, ¬ S x) (h2 : ∀ c ∈ ks, ¬ S c.b) : KidsAt w' v ks :=
  ⟨h.row.kept hk h1, fun c hm => by obtain ⟨a, b, r, T, hh⟩ := h.counts c hm; exact ⟨a, b, r, T, hk.get hh (h2 c hm)⟩⟩

theorem itemsOf_append (A B : List Kid) : itemsOf (A ++ B) = itemsOf A ++ itemsOf B := by simp [itemsOf]
theorem itemsOf_one (c : Kid) : itemsOf [c] = c.ls := by simp [itemsOf]
theorem itemsOf_take (ks : List Kid) (j : Nat) (h : j < ks.length) : itemsOf (ks.take (j + 1)) = itemsOf (ks.take j) ++ (ks[j]).ls := by
  rw [List.take_succ_eq_append_getElem h, itemsOf_append, itemsOf_one]

set_option maxHeartbeats 1000000 in
/-- tally: the items of the node's own, and those of its kids. -/
theorem tally_any (b : Nat) (vi v cnt : Value) (rest : List Value) (T : TypeId) (ks : List Kid) (p : Option Addr) (m c : Nat) (hvi : vi = .slice p m c) (w : World) (hb : w.heap[b]? = some (.cells (vi :: v :: cnt :: rest).toArray T (0, 0))) (hk : KidsAt w v ks) (hne : ∀ k ∈ ks, k.b ≠ b) (hv : b ∉ fpv v) (hn : ks.length ≤ 1000000) (hl : (itemsOf ks).length ≤ 1099511627776) (hm : m ≤ 1000000) :
    Calls Tryz.prog 115 #[.pointer (some ⟨b, 0, none⟩)] w fun e w' => e = .returned (.tuple #[]) ∧ w'.heap[b]? = some (.cells (vi :: v :: .int .i64 ((m + (itemsOf ks).length : Nat) : Int) :: rest).toArray T (0, 0)) ∧ Kept (fun k => k = b) w w' := by
  obtain ⟨hc, hf⟩ := cells_of hb
  subst hvi
  obtain ⟨q, cv, rfl⟩ : ∃ q cv, v = .slice q ks.length cv := by
    rcases hk.row.shape with ⟨rfl, h0, _⟩ | ⟨g, cv, rfl, _, _⟩
    · exact ⟨none, 0, by rw [h0]⟩
    · exact ⟨_, cv, rfl⟩
  go_enter Tryz.func115, Tryz.ntmps115
  go_wp2
  go_loopw [3, 17] (fun k i wr => ∃ (j : Nat), j ≤ ks.length ∧ i = .int .i64 j ∧ wr.heap[b]? = some (.cells (.slice p m c :: .slice q ks.length cv :: .int .i64 ((m + (itemsOf (ks.take j)).length : Nat) : Int) :: rest).toArray T (0, 0)) ∧ Kept (fun k => k = b) w wr) (fun _ i _ => ks.length - (intOf i).toNat)
  case atStart =>
    refine ⟨0, Nat.zero_le _, rfl, ?_, Kept.cell1⟩
    rw [heap_set_same hb]; simp [itemsOf]
  case round =>
    obtain ⟨j, hj, rfl, hb1, hk1⟩ := hrel
    have hk2 := hk.kept hk1 (fun x hx e => hv (e ▸ hx)) hne
    obtain ⟨hc1, hf1⟩ := cells_of hb1
    by_cases hlt : j < ks.length
    · obtain ⟨g, c'', he, hp, hcount⟩ := hk2.at hlt
      simp only [Value.slice.injEq, true_and] at he
      obtain ⟨rfl, rfl⟩ := he
      have hit := itemsOf_take ks j hlt
      have hle : (itemsOf (ks.take (j + 1))).length ≤ 1099511627776 := by
        have e : itemsOf ks = itemsOf (ks.take (j + 1)) ++ itemsOf (ks.drop (j + 1)) := by rw [← itemsOf_append, List.take_append_drop]
        rw [e, List.length_append] at hl; omega
      generalize hK : ks[j] = K at hp hcount hit
      have HK : Hid (ks[j] = K) := hK
      clear hK
      rw [hit, List.length_append] at hle
      have HI := hit
      generalize hX : (itemsOf (ks.take j)).length = X at hb1 hc1 hle
      have HX : Hid ((itemsOf (ks.take j)).length = X) := hX
      clear hX hit
      simp only [Kid.ptr, Kid.count] at hp hcount
      have hw : IntKind.i64.wrap (((m : Int) + (X : Int)) + (K.ls.length : Int)) = (m : Int) + (X : Int) + (K.ls.length : Int) := by rw [IntKind.wrap_i64]; omega
      go_wp2
      go_region
      go_wp2
      refine ⟨⟨j + 1, hlt, by go_num, ?_, (hk1.step Kept.cell1).drew⟩, by simp [intOf]; omega⟩
      show (wr.setCell _ _).heap[b]? = _
      rw [heap_set_same hb1, HI, List.length_append, HX.out]
      simp [Int.add_assoc]
    · go_wp2
      go_end0
      have e : ks.take j = ks := List.take_of_length_le (by omega)
      rw [e] at hb1
      exact ⟨rfl, hb1, hk1⟩
end Go.Proofs.YtdpfohgkikjeaaaGreat
/- Regions that draw, once more: behind an operation that waits for all reads (a store at the end) the class need not hold. -/
namespace Go.Proofs.YtdpfohgkikjeaaaGreat
open Go.RowKit
set_option linter.unusedVariables false
set_option linter.unusedSimpArgs false

section
variable {P : Program} {ops : Array Oper} {Q : Exit → Act → World → Prop} {md : Region.Mode} {C : World → Prop} {N : Nat → Bool}

def wpGo2 (P : Program) (md : Region.Mode) (ops : Array Oper) (C : World → Prop) (N : Nat → Bool) (Q : Exit → Act → World → Prop) : Nat → Array Bool → Act → World → Prop
  | 0, listed, a, w => Region.ready md ops listed = [] ∧ Q .normal a w
  | fuel + 1, listed, a, w =>
    (Region.ready md ops listed = [] → Q .normal a w) ∧
    ∀ i ∈ Region.ready md ops listed, wpOp P ops Q i (fun a' w' => (N i = true → C w') ∧ wpGo2 P md ops C N Q fuel (listed.setIfInBounds i true) a' w') a w

theorem wpAny_of_go2 : ∀ (fuel : Nat) (listed : Array Bool) (a : Act) (w : World), wpGo2 P md ops C N Q fuel listed a w → wpAny P md ops Q fuel listed a w
  | 0, _, _, _, h => h
  | fuel + 1, _, _, _, h => ⟨h.1, fun i hi => wpOp_mono (fun a' w' h' => wpAny_of_go2 fuel _ a' w' h'.2) (h.2 i hi)⟩

/-- Whoever is not among N waits for i. -/
def Waits (md : Region.Mode) (ops : Array Oper) (N : Nat → Bool) (i : Nat) : Prop := ∀ j oj, ops[j]? = some oj → N j = false → ∃ e ∈ oj.after, Region.binds md e = true ∧ e.on = i

theorem Waits.need {i j : Nat} {listed : Array Bool} (h : Waits md ops N i) (hi : i ∈ Region.ready md ops listed) (hj : j ∈ Region.ready md ops listed) : N j = true := by
  by_cases hN : N j = true
  · exact hN
  · obtain ⟨hun, o, ho, hall⟩ := mem_ready.1 hj
    obtain ⟨e, he, hb, hei⟩ := h j o ho (by simpa using hN)
    have hiun := (mem_ready.1 hi).1
    have := hall e he hb
    rw [hei] at this
    by_cases hs : i < listed.size
    · rw [Array.getD_eq_getD_getElem?, Array.getElem?_eq_getElem hs] at this hiun
      simp only [Option.getD_some] at this hiun
      rw [this] at hiun; cases hiun
    · rw [Array.getD_eq_getD_getElem?, Array.getElem?_eq_none (by omega)] at this
      cases this

theorem wpGo2_first {i : Nat} {oi : Oper} {v : Value} (hi : ops[i]? = some oi) (hsel : ∀ (j : Nat) (o : Oper) cs b, ops[j]? = some o → o.op ≠ .select cs b) (hwt : Waits md ops N i)
    (hQ : ∀ c a w, Q (.panic c) (a.put oi.dst v) w → Q (.panic c) a w) :
    ∀ (fuel : Nat) (listed : Array Bool) (a : Act) (w : World), C w → Free md ops i oi listed → i ∈ Region.ready md ops listed → Reads P ops C oi v a →
      wpGo2 P md ops C N Q fuel (listed.setIfInBounds i true) (a.put oi.dst v) w → wpGo2 P md ops C N Q (fuel + 1) listed a w
  | 0, listed, a, w, hC, _, hr, hy, H => by
    refine ⟨fun h0 => (by rw [h0] at hr; cases hr), fun j hj => ?_⟩
    rcases Nat.decEq j i with hne | rfl
    · exact absurd (ready_mono hj hne) (by rw [H.1]; exact List.not_mem_nil)
    · exact hy.wpOp hi hC ⟨fun _ => hC, H⟩
  | n + 1, listed, a, w, hC, hf, hr, hy, H => by
    refine ⟨fun h0 => (by rw [h0] at hr; cases hr), fun j hj => ?_⟩
    rcases Nat.decEq j i with hne | rfl
    · obtain ⟨hjun, oj, hoj, _⟩ := mem_ready.1 hj
      have hput := reads_put hoj (hf.beside hr hj hoj hne) (fun cs b => hsel i oi cs b hi) (fun cs b => hsel j oj cs b hoj) hQ hy (H.2 j (ready_mono hj hne))
      refine wpOp_mono (fun a' w' hh => ⟨hh.2.1, ?_⟩) hput
      refine wpGo2_first hi hsel hwt hQ n _ a' w' (hh.2.1 (hwt.need hr hj)) (hf.step hjun) (ready_mono hr (Ne.symm hne)) hh.1 ?_
      rw [Array.setIfInBounds_comm _ _ hne]
      exact hh.2.2
    · exact hy.wpOp hi hC ⟨fun _ => hC, H⟩

/-- Does the operation j not wait for all of p? -/
def needB (md : Region.Mode) (ops : Array Oper) (p : List Nat) (j : Nat) : Bool :=
  !(p.all fun i => match ops[j]? with
    | some o => o.after.any fun e => Region.binds md e && e.on == i
    | none => false)

theorem waits_needB {p : List Nat} {i : Nat} (hi : i ∈ p) : Waits md ops (needB md ops p) i := fun j oj hj hn => by
  unfold needB at hn
  simp only [Bool.not_eq_false'] at hn
  have := List.all_eq_true.1 hn i hi
  rw [hj] at this
  simp only [Array.any_eq_true'] at this
  obtain ⟨e, he, h⟩ := this
  simp only [Bool.and_eq_true, beq_iff_eq] at h
  exact ⟨e, he, h.1, h.2⟩

/-- The rest, in its one order. -/
def wpTail2 (P : Program) (md : Region.Mode) (ops : Array Oper) (C : World → Prop) (N : Nat → Bool) (Q : Exit → Act → World → Prop) : List Nat → Act → World → Prop
  | [], a, w => Q .normal a w
  | i :: l, a, w => wpOp P ops Q i (fun a' w' => (N i = true → C w') ∧ wpTail2 P md ops C N Q l a' w') a w

theorem wpGo2_tail : ∀ (t : List Nat) (listed : Array Bool) (a : Act) (w : World), tailB md ops t listed = true → wpTail2 P md ops C N Q t a w → wpGo2 P md ops C N Q t.length listed a w
  | [], _, _, _, hB, h => ⟨by simpa [tailB] using hB, h⟩
  | i :: t, listed, a, w, hB, h => by
    simp only [tailB, Bool.and_eq_true, beq_iff_eq] at hB
    refine ⟨fun h0 => (by rw [hB.1] at h0; cases h0), fun j hj => ?_⟩
    rw [hB.1] at hj
    simp only [List.mem_cons, List.not_mem_nil, or_false] at hj
    subst hj
    exact wpOp_mono (fun a' w' h' => ⟨h'.1, wpGo2_tail t _ a' w' hB.2 h'.2⟩) h

theorem wpGo2_pre (hs : Region.noSelect ops = true) (hQ : ∀ c a d v w, Q (.panic c) (Act.put a d v) w → Q (.panic c) a w) (t : List Nat) : ∀ (p : List Nat), (∀ i ∈ p, Waits md ops N i) → ∀ (listed : Array Bool) (a : Act) (w : World), C w →
    preB md ops t p listed = true → wpPre P ops C (fun a' => wpTail2 P md ops C N Q t a' w) p a → wpGo2 P md ops C N Q (p.length + t.length) listed a w
  | [], _, listed, a, w, hC, hB, h => by
    simp only [List.length_nil, Nat.zero_add]
    exact wpGo2_tail t listed a w hB h
  | i :: p, hW, listed, a, w, hC, hB, h => by
    simp only [preB, Bool.and_eq_true] at hB
    obtain ⟨⟨hr, hf⟩, hB'⟩ := hB
    obtain ⟨o, v, ho, hy, hK⟩ := h
    have e : (i :: p).length + t.length = (p.length + t.length) + 1 := by simp; omega
    rw [e]
    exact wpGo2_first ho (Region.noSelect_spec hs) (hW i (by simp)) (fun c a w => hQ c a _ _ w) _ listed a w hC (Region.free_spec ho hf) (by simpa using hr) hy
      (wpGo2_pre hs hQ t p (fun k hk => hW k (by simp [hk])) _ _ w hC hB' hK)

theorem wp_region_last {id : Nat} {a : Act} {w : World} (C : World → Prop) (p t : List Nat) (hm : P.follows .mixedOrders = true) (hB : drawB ops p t = true)
    (hQ : ∀ c a d v w, Q (.panic c) (Act.put a d v) w → Q (.panic c) a w) (hC : C w.drew)
    (h : wpPre P ops C (fun a' => wpTail2 P .any ops C (needB .any ops p) Q t a' w.drew) p a) : (Code.region id ops true).wp P Q a w := by
  simp only [drawB, Bool.and_eq_true, beq_iff_eq] at hB
  obtain ⟨⟨hs, hl⟩, hB⟩ := hB
  refine wp_region_any hm (wpAny_of_go2 (C := C) (N := needB .any ops p) _ _ _ _ ?_)
  have hg := wpGo2_pre hs hQ t p (fun i hi => waits_needB hi) _ a w.drew hC hB h
  rw [hl] at hg
  exact hg

theorem wpTail2_nil {a : Act} {w : World} (h : Q .normal a w) : wpTail2 P md ops C N Q [] a w := h
/-- At an operation of the rest; the class holds behind it. -/
theorem wpTail2_cons {a : Act} {w : World} {i : Nat} {l : List Nat} {o : Oper} (ho : ops.toList[i]? = some o) (hg : o.guard = none)
    (h : ∀ K : Act → World → Prop, (∀ a w, C w ∧ wpTail2 P md ops C N Q l a w → K a w) → o.wp P a w K Q) : wpTail2 P md ops C N Q (i :: l) a w := by
  have ho' : ops[i]? = some o := by simpa using ho
  unfold wpTail2 wpOp
  simp only [ho']
  rw [if_pos (by simp [Region.wanted, hg])]
  exact .inl (h _ (fun _ _ h => ⟨fun _ => h.1, h.2⟩))
/-- One that waits for all reads. -/
theorem wpTail2_last {a : Act} {w : World} {i : Nat} {l : List Nat} {o : Oper} (hn : N i = false) (ho : ops.toList[i]? = some o) (hg : o.guard = none)
    (h : ∀ K : Act → World → Prop, (∀ a w, wpTail2 P md ops C N Q l a w → K a w) → o.wp P a w K Q) : wpTail2 P md ops C N Q (i :: l) a w := by
  have ho' : ops[i]? = some o := by simpa using ho
  unfold wpTail2 wpOp
  simp only [ho']
  rw [if_pos (by simp [Region.wanted, hg])]
  exact .inl (h _ (fun _ _ h => ⟨fun hh => (by rw [hn] at hh; cases hh), h⟩))
end
end Go.Proofs.YtdpfohgkikjeaaaGreat

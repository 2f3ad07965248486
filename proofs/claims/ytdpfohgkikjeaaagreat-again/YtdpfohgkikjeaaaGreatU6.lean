/- Part 6 of the proof: see its parts. -/
import Derived.Laws.FloatArith
import Derived.Test.YtdpfohgkikjeaaaGreatU1
import Derived.Test.YtdpfohgkikjeaaaGreatU5
/- Clone of both kinds of row; append of a slice that may be nil. -/
namespace Go.Proofs.YtdpfohgkikjeaaaGreat
open Go.RowKit
set_option linter.unusedVariables false
set_option linter.unusedSimpArgs false

theorem run_append_none {P : Program} {t e : TypeId} {bytes : Nat} (T : SliceTy P t e 1 bytes) (ty : TypeId) (w : World) (v : Value) (n : Nat) (xs : List Value) (hown : Row w e 1 v n xs) :
    (Builtin.append_ #[t, t] ty #[v, .slice none 0 0]).run P w = .ok v w := by
  obtain ⟨i, z, hi, hz, hs, hb, hzs⟩ := T.info
  rcases hown.shape with ⟨rfl, rfl, rfl⟩ | ⟨g, c, rfl, h1, h2⟩
  · simp [Builtin.append_, run_underlying T.under, sizeOf, typeInfo, hi, hs, Builtin.lenOf, Builtin.firstCells]
  · simp [Builtin.append_, run_underlying T.under, sizeOf, typeInfo, hi, hs, Builtin.lenOf, Builtin.firstCells, h1, storeCells]

/-- append(v, u..): u may be nil. -/
theorem wp_app_any {P : Program} {w : World} {o : Oper} {a : Act} {Q : Exit → Act → World → Prop} {K : Act → World → Prop} (s x : Operand) (t : TypeId) (ho : o.op = .call { callee := .builtin .append, args := #[s, x], argTypes := #[t, t] })
    {e : TypeId} {bytes : Nat} (T : SliceTy P t e 1 bytes) (v : Value) (n : Nat) (xs : List Value) (hs : a.eval s = v) (hown : Row w e 1 v n xs)
    (u : Value) (m : Nat) (ys : List Value) (hx : a.eval x = u) (hu : Row w e 1 u m ys) (h1 : ∀ y ∈ ys, y.oneCell' = true)
    (hb : bytes ≤ 64) (hn : n + m ≤ 1099511627776)
    (h : ∀ v' w', Row w' e 1 v' (n + m) (xs ++ ys) → Grew w w' v v' → (v' = .slice none 0 0 ↔ v = .slice none 0 0 ∧ m = 0) → K (a.put o.dst v') w') : o.wp P a w K Q := by
  unfold Oper.wp execOp
  rcases hu.shape with ⟨rfl, rfl, rfl⟩ | ⟨g, c, rfl, h2, h3⟩
  · have hr := fun ty => run_append_none T ty w v n xs hown
    simp only [ho, resolve, invoke, builtin, Sem.run_bind, Sem.run_pure, Result.andThen_ok, List.map_toArray, List.map_cons, List.map_nil, hs, hx, hr]
    exact h v w (by simpa using hown) (Grew.refl _ _) (by simp)
  · obtain ⟨_, _, _, hcell⟩ := hu.cell
    obtain ⟨v', w', hr, h4, h5, h6⟩ := run_app T o.type w v n xs hown g 0 m c ys (by have := hu.len; omega) (fun j y hj => by rw [Nat.zero_add]; exact hcell j y hj) h1 (by
      have : (n + m) * bytes ≤ 1099511627776 * 64 := Nat.mul_le_mul hn hb
      omega) (by omega)
    simp only [ho, resolve, invoke, builtin, Sem.run_bind, Sem.run_pure, Result.andThen_ok, List.map_toArray, List.map_cons, List.map_nil, hs, hx, hr]
    exact h v' w' h4 h5 h6

set_option maxHeartbeats 2000000 in
theorem clone_someS (g o n c : Nat) (xs : List Value) (w : World) (hl : xs.length = n) (hc : ∀ j u, xs[j]? = some u → w.cell? ⟨g, o + j, none⟩ = some u) (hone : ∀ u ∈ xs, u.oneCell' = true) (hn : n ≤ 1000000) :
    Calls Tryz.prog 139 #[.slice (some ⟨g, o, none⟩) n c] w fun e w' => ∃ v', e = .returned v' ∧ Row w' 9 1 v' n xs ∧ Kept no w w' ∧ (∀ k, k ∈ fpv v' → w.heap.size ≤ k) := by
  have q22 : ∀ (w : World) (a : Option Addr) (n c n' c' : Nat), (binOp .eql 34 (.slice a n c) (.slice none n' c')).run Tryz.prog w = .ok (.bool a.isNone) w := fun w a n c n' c' => Lib.run_eql_slice_nil w _ _ a n c n' c' tyS.under
  have A : Hid (∀ j u, xs[j]? = some u → w.cell? ⟨g, o + j, none⟩ = some u) := hc
  clear hc
  go_enter Tryz.func139, Tryz.ntmps139
  go_wp2_with (at_builtin; refine wpList_app rfl _ _ 34 rfl tyS _ 0 [] rfl ?q1 g o n c xs rfl (by omega) ?q2 hone ?q4 (by omega) ?_)
  case q1 => exact ⟨rfl, .inr ⟨w.heap.size, 0, #[], rfl, Nat.zero_le _, heap_alloc_same, Nat.le_refl _, by simp only [maxLen]; omega, rfl, rfl⟩⟩
  case q2 =>
    intro j u hj
    have := A.out j u hj
    rw [World.cell?_alloc_lt _ _ _ (World.block_lt_of_cell? _ _ this)]
    exact this
  case q4 => omega
  intro v' w1 hr hg
  go_wp2
  go_ret
  obtain ⟨h1, h2, h3⟩ := hg.above (B := w.heap.size) (fun k hk => by simp [fpv_some] at hk; omega) (by simp)
  exact ⟨v', rfl, by simpa using hr, h3 w ((Kept.refl _ _).alloc _) (Nat.le_refl _), h1⟩

set_option maxHeartbeats 2000000 in
theorem clone_nilS (n c : Nat) (w : World) : Calls Tryz.prog 139 #[.slice none n c] w fun e w' => e = .returned (.slice none 0 0) ∧ w' = w := by
  have q22 : ∀ (w : World) (a : Option Addr) (n c n' c' : Nat), (binOp .eql 34 (.slice a n c) (.slice none n' c')).run Tryz.prog w = .ok (.bool a.isNone) w := fun w a n c n' c' => Lib.run_eql_slice_nil w _ _ a n c n' c' tyS.under
  go_enter Tryz.func139, Tryz.ntmps139
  go_wp2
  go_ret
  exact ⟨rfl, rfl⟩
set_option maxHeartbeats 2000000 in
theorem clone_someK (g o n c : Nat) (xs : List Value) (w : World) (hl : xs.length = n) (hc : ∀ j u, xs[j]? = some u → w.cell? ⟨g, o + j, none⟩ = some u) (hone : ∀ u ∈ xs, u.oneCell' = true) (hn : n ≤ 1000000) :
    Calls Tryz.prog 140 #[.slice (some ⟨g, o, none⟩) n c] w fun e w' => ∃ v', e = .returned v' ∧ Row w' 141 1 v' n xs ∧ Kept no w w' ∧ (∀ k, k ∈ fpv v' → w.heap.size ≤ k) := by
  have q22 : ∀ (w : World) (a : Option Addr) (n c n' c' : Nat), (binOp .eql 86 (.slice a n c) (.slice none n' c')).run Tryz.prog w = .ok (.bool a.isNone) w := fun w a n c n' c' => Lib.run_eql_slice_nil w _ _ a n c n' c' tyK.under
  have A : Hid (∀ j u, xs[j]? = some u → w.cell? ⟨g, o + j, none⟩ = some u) := hc
  clear hc
  go_enter Tryz.func140, Tryz.ntmps140
  go_wp2_with (at_builtin; refine wpList_app rfl _ _ 86 rfl tyK _ 0 [] rfl ?q1 g o n c xs rfl (by omega) ?q2 hone ?q4 (by omega) ?_)
  case q1 => exact ⟨rfl, .inr ⟨w.heap.size, 0, #[], rfl, Nat.zero_le _, heap_alloc_same, Nat.le_refl _, by simp only [maxLen]; omega, rfl, rfl⟩⟩
  case q2 =>
    intro j u hj
    have := A.out j u hj
    rw [World.cell?_alloc_lt _ _ _ (World.block_lt_of_cell? _ _ this)]
    exact this
  case q4 => omega
  intro v' w1 hr hg
  go_wp2
  go_ret
  obtain ⟨h1, h2, h3⟩ := hg.above (B := w.heap.size) (fun k hk => by simp [fpv_some] at hk; omega) (by simp)
  exact ⟨v', rfl, by simpa using hr, h3 w ((Kept.refl _ _).alloc _) (Nat.le_refl _), h1⟩

set_option maxHeartbeats 2000000 in
theorem clone_nilK (n c : Nat) (w : World) : Calls Tryz.prog 140 #[.slice none n c] w fun e w' => e = .returned (.slice none 0 0) ∧ w' = w := by
  have q22 : ∀ (w : World) (a : Option Addr) (n c n' c' : Nat), (binOp .eql 86 (.slice a n c) (.slice none n' c')).run Tryz.prog w = .ok (.bool a.isNone) w := fun w a n c n' c' => Lib.run_eql_slice_nil w _ _ a n c n' c' tyK.under
  go_enter Tryz.func140, Tryz.ntmps140
  go_wp2
  go_ret
  exact ⟨rfl, rfl⟩
end Go.Proofs.YtdpfohgkikjeaaaGreat
/- The tree's nodes in memory; contracts of leaf and fill. -/
namespace Go.Proofs.YtdpfohgkikjeaaaGreat
open Go.RowKit
set_option linter.unusedVariables false
set_option linter.unusedSimpArgs false

theorem leaf_any (b : Nat) (vi vk : Value) (cnt : Value) (rest : List Value) (T : TypeId) (w : World) (hb : w.heap[b]? = some (.cells (vi :: vk :: cnt :: rest).toArray T (0, 0))) (p : Option Addr) (n c : Nat) (hk : vk = .slice p n c) :
    Calls Tryz.prog 107 #[.pointer (some ⟨b, 0, none⟩)] w fun e w' => e = .returned (.bool (decide (n = 0))) ∧ w' = w := by
  obtain ⟨hc, _⟩ := cells_of hb
  subst hk
  go_enter Tryz.func107, Tryz.ntmps107
  go_wp2
  go_ret
  refine ⟨?_, rfl⟩
  show Ending.returned (.bool ((n : Int) == 0)) = _
  congr 2
  rw [Bool.eq_iff_iff]; simp

/-- How full a node of so many is: a float64's bits. -/
def fillBits (N : Nat) : Nat := (floatBits .quo .f64 (floatOfInt .f64 (N : Int)) 4620693217682128896).getD 0

theorem fill_table : ((List.range 18).all fun N => (floatBits .quo .f64 (floatOfInt .f64 (N : Int)) 4620693217682128896 == some (fillBits N)) && ((FloatKind.f64.format.order (fillBits N) 4602678819172646912 == some .lt) == decide (N < 4)) && ((FloatKind.f64.format.order (fillBits N) 4607182418800017408 == some .gt) == decide (8 < N))) = true := by kernel_rfl

theorem fill_facts (N : Nat) (h : N ≤ 17) : floatBits .quo .f64 (floatOfInt .f64 (N : Int)) 4620693217682128896 = some (fillBits N) ∧ (FloatKind.f64.format.order (fillBits N) 4602678819172646912 == some .lt) = decide (N < 4) ∧ (FloatKind.f64.format.order (fillBits N) 4607182418800017408 == some .gt) = decide (8 < N) := by
  have := List.all_eq_true.1 fill_table N (List.mem_range.2 (by omega))
  simp only [Bool.and_eq_true, beq_iff_eq] at this
  exact ⟨this.1.1, this.1.2, this.2⟩

theorem fill_any (b : Nat) (vi vk : Value) (cnt : Value) (rest : List Value) (T : TypeId) (w : World) (hb : w.heap[b]? = some (.cells (vi :: vk :: cnt :: rest).toArray T (0, 0))) (p q : Option Addr) (n m c d : Nat) (hi : vi = .slice p n c) (hk : vk = .slice q m d) (hs : n + m ≤ 17) :
    Calls Tryz.prog 113 #[.pointer (some ⟨b, 0, none⟩)] w fun e w' => e = .returned (.float .f64 (fillBits (n + m))) ∧ ∃ k, w' = w.drewN k := by
  go_enter Tryz.func113, Tryz.ntmps113
  go_wp2
  refine wp_region_loud (fun w' => w'.heap[b]? = some (.cells (vi :: vk :: cnt :: rest).toArray T (0, 0))) [0, 1, 2, 3, 4, 5, 6, 7, 8, 9, 10, 11, 12] [13] (by kernel_rfl) (by kernel_rfl) (fun _ _ d _ _ h => by cases d <;> exact h) hb ?_
  subst hi hk
  have hw : IntKind.i64.wrap ((n : Int) + (m : Int)) = ((n + m : Nat) : Int) := by rw [IntKind.wrap_i64]; omega
  iterate 10 (refine wpPre_cons rfl rfl (fun w' hw' => (by obtain ⟨hc, _⟩ := cells_of hw'; go_simp; rfl)) ?_; simp only [Act.put, List.setIfInBounds_toArray, List.set])
  refine wpPre_cons (v := .int .i64 ((n + m : Nat) : Int)) rfl rfl (fun w' hw' => by go_simp) ?_
  simp only [Act.put, List.setIfInBounds_toArray, List.set]
  refine wpPre_cons (v := .float .f64 (floatOfInt .f64 ((n + m : Nat) : Int))) rfl rfl (fun w' hw' => ?_) ?_
  · go_simp
  simp only [Act.put, List.setIfInBounds_toArray, List.set]
  refine wpPre_cons (v := .float .f64 (fillBits (n + m))) rfl rfl (fun w' hw' => ?_) ?_
  · have := run_float_arith (P := Tryz.prog) w' .quo 176 .f64 _ _ _ (fill_facts (n + m) hs).1
    rw [Int.natCast_add] at this
    go_simp
  simp only [Act.put, List.setIfInBounds_toArray, List.set]
  refine wpPre_nil ?_
  refine wpTail_read rfl rfl hb (by go_simp; rfl) ?_
  simp only [Act.put, List.setIfInBounds_toArray, List.set]
  refine wpTail_nil ?_
  go_wp2
  go_ret
  exact ⟨rfl, 1, rfl⟩
end Go.Proofs.YtdpfohgkikjeaaaGreat
/- Plain mathematics, on: texts, acts, the document as it is kept, its calls; nothing of the program. -/
namespace Go.Proofs.YtdpfohgkikjeaaaGreat

/-! ### Lines and texts -/

/-- The bytes of a text: its lines, each with a byte 10 behind it. -/
def textOf (ls : List Str) : Str := (ls.map fun l => l ++ [10]).flatten
theorem textOf_nil : textOf [] = [] := rfl
theorem textOf_cons (l : Str) (ls : List Str) : textOf (l :: ls) = l ++ 10 :: textOf ls := by simp [textOf]
theorem textOf_append (a b : List Str) : textOf (a ++ b) = textOf a ++ textOf b := by simp [textOf]

/-- May it be a line? -/
abbrev LineOk (l : Str) : Prop := l.length ≤ 40 ∧ (10 : UInt8) ∉ l

structure TextOk (ls : List Str) : Prop where
  few : ls.length ≤ 60
  lines : ∀ l ∈ ls, LineOk l

theorem textOf_length {ls : List Str} (h : ∀ l ∈ ls, LineOk l) : (textOf ls).length ≤ 41 * ls.length := by
  induction ls with
  | nil => simp [textOf]
  | cons l ls ih =>
    rw [textOf_cons]
    have h1 := (h l (by simp)).1
    have h2 := ih (fun x hx => h x (by simp [hx]))
    simp only [List.length_append, List.length_cons]
    omega

theorem TextOk.length {ls : List Str} (h : TextOk ls) : (textOf ls).length ≤ 2460 := by
  have := textOf_length h.lines
  have := h.few
  omega

theorem split_unique {a b c d : Str} (h : a ++ 10 :: b = c ++ 10 :: d) (ha : (10 : UInt8) ∉ a) (hc : (10 : UInt8) ∉ c) : a = c ∧ b = d := by
  induction a generalizing c with
  | nil =>
    cases c with
    | nil => simpa using h
    | cons x c => simp only [List.nil_append, List.cons_append, List.cons.injEq] at h; exact absurd h.1 (fun e => hc (by simp [e]))
  | cons x a ih =>
    cases c with
    | nil => simp only [List.nil_append, List.cons_append, List.cons.injEq] at h; exact absurd h.1 (fun e => ha (by simp [e]))
    | cons y c =>
      simp only [List.cons_append, List.cons.injEq] at h
      obtain ⟨h1, h2⟩ := ih h.2 (fun hh => ha (by simp [hh])) (fun hh => hc (by simp [hh]))
      exact ⟨by rw [h.1, h1], h2⟩

/-- A text has one way to be cut. -/
theorem textOf_inj {a b : List Str} (ha : ∀ l ∈ a, (10 : UInt8) ∉ l) (hb : ∀ l ∈ b, (10 : UInt8) ∉ l) (h : textOf a = textOf b) : a = b := by
  induction a generalizing b with
  | nil =>
    cases b with
    | nil => rfl
    | cons x b => rw [textOf_nil, textOf_cons] at h; simp at h
  | cons x a ih =>
    cases b with
    | nil => rw [textOf_nil, textOf_cons] at h; simp at h
    | cons y b =>
      rw [textOf_cons, textOf_cons] at h
      obtain ⟨h1, h2⟩ := split_unique h (ha x (by simp)) (hb y (by simp))
      rw [h1, ih (fun l hl => ha l (by simp [hl])) (fun l hl => hb l (by simp [hl])) h2]

/-! ### Acts -/
structure PAct where
  kind : Nat
  at_ : Nat
  data : Str

def markOf (l : Str) : Mark := ⟨(l.length : Int), crc l⟩
abbrev pSettle : PAct := ⟨2, 0, []⟩
def pWrite (at_ : Nat) (l : Str) : PAct := ⟨1, at_, pad l⟩

def bodyActs (half : Nat) (t : Str) : List PAct := ((List.range ((t.length + 63) / 64)).map fun j => pWrite (40 * half + 1 + j) ((t.drop (64 * j)).take 64))

/-- What knows where in a swap the last text stands. -/
structure Wr where
  known : Bool
  unsettled : Bool
  half : Nat
  number : Nat

def Wr.next (w : Wr) : Nat := (w.number + 1) % 18446744073709551616
def Wr.head (w : Wr) (t : Str) (file : Mark) : Head := ⟨w.next, markOf t, file⟩

def Wr.acts (w : Wr) (t : Str) (file : Mark) : List PAct :=
  (if w.unsettled then [pSettle] else []) ++ pWrite (40 * (1 - w.half)) [] :: (if w.known then [] else [pWrite (40 * w.half) []]) ++ pSettle :: (bodyActs (1 - w.half) t ++ [pSettle, ⟨1, 40 * (1 - w.half), headBytes (w.head t file)⟩, pSettle])

def Wr.written (w : Wr) : Wr := ⟨true, false, 1 - w.half, w.next⟩

def saveActs (t : Str) : List PAct := ⟨3, 0, []⟩ :: (if t = [] then [] else [⟨4, 0, t⟩]) ++ [⟨5, 0, []⟩, ⟨6, 0, []⟩, ⟨7, 0, []⟩]

/-! ### The document as it is kept -/
structure DocS where
  lines : List Str
  file : Mark
  every : Nat
  edits : Nat
  counted : Nat
  wr : Wr
  kind : Nat
  acts : List PAct

namespace DocS
def text (d : DocS) : Str := textOf d.lines
def beginSync (d : DocS) : DocS := { d with counted := 0, kind := 1, acts := d.wr.acts d.text d.file }
def edited (d : DocS) : DocS := if d.counted + 1 = d.every then { d with edits := d.edits + 1, counted := d.counted + 1 }.beginSync else { d with edits := d.edits + 1, counted := d.counted + 1 }
def setLines (d : DocS) (ls : List Str) : DocS := { d with lines := ls }

/-- Is a number of the language's one of these places? -/
def place (at_ : Int) (n : Nat) : Bool := decide (0 ≤ at_ ∧ at_ ≤ (n : Int))

def insert (d : DocS) (at_ : Int) (l : Str) : Nat × DocS :=
  if d.kind ≠ 0 then (5, d) else if at_ < 0 ∨ at_ > (d.lines.length : Int) then (1, d) else if ¬ LineOk l then (3, d) else if d.lines.length = 60 then (4, d)
  else (0, (d.setLines (d.lines.take at_.toNat ++ l :: d.lines.drop at_.toNat)).edited)
def delete (d : DocS) (at_ : Int) : Nat × DocS :=
  if d.kind ≠ 0 then (5, d) else if at_ < 0 ∨ at_ ≥ (d.lines.length : Int) then (1, d)
  else (0, (d.setLines (d.lines.take at_.toNat ++ d.lines.drop (at_.toNat + 1))).edited)
def replace (d : DocS) (at_ : Int) (l : Str) : Nat × DocS :=
  if d.kind ≠ 0 then (5, d) else if at_ < 0 ∨ at_ ≥ (d.lines.length : Int) then (1, d) else if ¬ LineOk l then (3, d)
  else (0, (d.setLines (d.lines.take at_.toNat ++ l :: d.lines.drop (at_.toNat + 1))).edited)
def sync (d : DocS) : Nat × DocS := if d.kind ≠ 0 then (5, d) else if d.edits = 0 ∧ d.wr.known = true then (6, d) else (0, d.beginSync)
def save (d : DocS) : Nat × DocS := if d.kind ≠ 0 then (5, d) else (0, { d with kind := 2, acts := saveActs d.text })
def succeeded (d : DocS) : DocS := if d.kind = 2 then { d with kind := 0, acts := [], file := markOf d.text } else { d with kind := 0, acts := [], wr := d.wr.written, edits := 0 }
/-- Done(ok), with a job. -/
def done (d : DocS) (ok : Bool) : DocS := if ok = true ∧ 1 < d.acts.length then { d with acts := d.acts.tail } else if ok = true then d.succeeded else { d with kind := 0, acts := [] }

/-- What holds of each document, in the midst of a call too. -/
structure Base (d : DocS) : Prop where
  text : TextOk d.lines
  every1 : 1 ≤ d.every
  every2 : d.every ≤ 20
  half : d.wr.half ≤ 1
  number : d.wr.number < 18446744073709551616
  sum : d.file.sum < 4294967296
  len0 : -9223372036854775808 ≤ d.file.len
  len1 : d.file.len < 9223372036854775808

/-- What holds of each document. -/
structure Ok (d : DocS) : Prop extends Base d where
  counted : d.counted < d.every
  kind : d.kind ≤ 2
  acts : d.kind ≠ 0 ↔ d.acts ≠ []
end DocS

end Go.Proofs.YtdpfohgkikjeaaaGreat

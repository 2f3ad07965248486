/- Part W 4 of the proof: see its parts. -/
import Derived.Deep.DeepCutAuto
import Derived.Test.YtdpfohgkikjeaaaGreatW3
/- file, one. -/
namespace Go.Proofs.YtdpfohgkikjeaaaGreat
open Go.RowKit
set_option linter.unusedVariables false
set_option linter.unusedSimpArgs false

theorem sv_append (a b : Str) : (⟨a.toArray⟩ : ByteArray) ++ (⟨b.toArray⟩ : ByteArray) = ⟨(a ++ b).toArray⟩ := by
  apply bytes_eq
  simp

set_option maxHeartbeats 1000000 in
theorem file_any {w : World} {B : Nat} {v : Value} {raw : List Int} (hr : IntsAt w B v raw) : Calls Tryz.prog 35 #[v] w fun e w' => e = .returned (sv (textOf (linesN raw))) ∧ Kept no w w' := by
  have hfew := hr.few
  have hfit := hr.fits
  obtain ⟨pv, n, cv, rfl, hn, hcell⟩ : ∃ pv n cv, v = .slice pv n cv ∧ n = raw.length ∧ ∀ W, Kept no w W → ∀ k (h : k < raw.length), ∃ b o, pv = some ⟨b, o, none⟩ ∧ W.cell? ⟨b, o + k, none⟩ = some (.int .i64 raw[k]) := by
    rcases hr.at_ with ⟨a, c, rfl, rfl⟩ | ⟨b, o, c, rfl, hb, hc⟩
    · exact ⟨_, _, _, rfl, rfl, fun W _ k h => by simp at h⟩
    · refine ⟨_, _, _, rfl, rfl, fun W hW k h => ⟨b, o, rfl, ?_⟩⟩
      have hlow := hr.low
      rw [World.cell?_of_block (w := w) (hW.block b (by omega) (fun h => h))]
      exact hc k raw[k] (by simp [h])
  clear hr
  have hsn : ∀ k (h : k < raw.length), (raw.take (k + 1)).map lineN = (raw.take k).map lineN ++ [lineN raw[k]] := fun k h => by
    rw [List.take_succ_eq_append_getElem h, List.map_append]; rfl
  have HS : Hid (∀ k (h : k < raw.length), (raw.take (k + 1)).map lineN = (raw.take k).map lineN ++ [lineN raw[k]]) := hsn
  clear hsn
  have hbd : ∀ k, k ≤ 60 → (textOf ((raw.take k).map lineN)).length ≤ 2460 := fun k hk => by
    have : TextOk ((raw.take k).map lineN) := ⟨by simp only [List.length_map, List.length_take]; omega, fun l hl => by
      simp only [List.mem_map] at hl; obtain ⟨c, _, rfl⟩ := hl; exact lineN_ok c⟩
    exact this.length
  have HN : Hid (n = raw.length) := hn
  have hn' : n ≤ 9223372036854775807 := by omega
  clear hn
  go_enter Tryz.func35, Tryz.ntmps35
  go_wp2_with fail
  go_loopw [3, 4] (fun s3 s4 wr => ∃ k : Nat, k ≤ 60 ∧ k ≤ n ∧ s4 = .int .i64 ((k : Nat) : Int) ∧ s3 = sv (textOf ((raw.take k).map lineN)) ∧ Kept no w wr) (fun _ i _ => 60 - (intOf i).toNat)
  case atStart => exact ⟨0, by omega, by omega, rfl, by simp [textOf], Kept.refl _ _⟩
  case round =>
    obtain ⟨k, hk, hkn, rfl, rfl, hkw⟩ := hrel
    have hbk := hbd k hk
    have hrn := HN.out
    by_cases h1 : k < n
    · by_cases h2 : k < 60
      · have hk2 : k < raw.length := by omega
        obtain ⟨b, o, rfl, hcl⟩ := hcell wr hkw k hk2
        have hok := hfit raw[k] (by simp)
        have hst := HS.out k hk2
        have hlk := (lineN_ok raw[k]).1
        generalize raw[k] = x at hcl hok hst hlk
        have HST : Hid ((raw.take (k + 1)).map lineN = (raw.take k).map lineN ++ [lineN x]) := hst
        clear hst hcell hrn
        go_wp2_with fail
        refine (line_any x hok wr).mono ?_
        rintro e w2 ⟨rfl, hk2⟩
        obtain ⟨t, ht⟩ : ∃ t, t = textOf ((raw.take k).map lineN) := ⟨_, rfl⟩
        rw [← ht] at hbk ⊢
        have HT : Hid (t = textOf ((raw.take k).map lineN)) := ht
        clear ht
        have e1 := sv_append t (lineN x)
        have e2 := sv_append (t ++ lineN x) [10]
        have e3 : (t ++ lineN x).length ≤ 3000 := by rw [List.length_append]; omega
        have e4 : (t ++ lineN x ++ [10]).length ≤ 3000 := by simp only [List.length_append, List.length_cons, List.length_nil]; omega
        clear hbd hfit
        go_wp2
        refine ⟨⟨k + 1, by omega, by omega, by go_num, ?_, hkw.step hk2⟩, by simp [intOf]; omega⟩
        rw [HST.out, textOf_append, ← HT.out]
        simp [textOf]
      · obtain rfl : k = 60 := by omega
        go_wp2
        go_ret
        exact ⟨by simp [linesN], hkw⟩
    · obtain rfl : k = n := by omega
      go_wp2
      go_ret
      refine ⟨?_, hkw⟩
      have e : linesN raw = (raw.take k).map lineN := by rw [linesN, HN.out, List.take_of_length_le (by omega), List.take_of_length_le (Nat.le_refl _)]
      simp [e]

set_option maxHeartbeats 1000000 in
theorem one_any {w : World} {pv : Option Addr} {n cv : Nat} (s : Str) (l : List Str) (hn : n = l.length) (hl : l.length ≤ 140737488355328) (t : Bool) (ht : t = true ↔ s ∈ l) (hr : ∀ k (h : k < l.length), ∃ b o, pv = some ⟨b, o, none⟩ ∧ w.cell? ⟨b, o + k, none⟩ = some (sv l[k])) :
    Calls Tryz.prog 37 #[sv s, .slice pv n cv] w fun e w' => e = .returned (.bool t) ∧ w' = w := by
  have hn' : n ≤ 140737488355328 := by omega
  have HN : Hid (n = l.length) := hn
  clear hn
  go_enter Tryz.func37, Tryz.ntmps37
  go_wp2_with fail
  go_loopw [5] (fun s5 wr => ∃ k : Nat, k ≤ n ∧ s5 = .int .i64 ((k : Nat) : Int) ∧ (∀ x ∈ l.take k, x ≠ s) ∧ wr = w) (fun i _ => n - (intOf i).toNat)
  case atStart => exact ⟨0, by omega, rfl, by simp, rfl⟩
  case round =>
    obtain ⟨k, hk, rfl, hno, rfl⟩ := hrel
    have hrn := HN.out
    by_cases h1 : k < n
    · obtain ⟨b, o, rfl, hcl⟩ := hr k (by omega)
      have hmem : l[k] ∈ l := by simp
      have htk : l.take (k + 1) = l.take k ++ [l[k]] := List.take_succ_eq_append_getElem _
      have HTK : Hid (l.take (k + 1) = l.take k ++ [l[k]]) := htk
      clear htk
      generalize l[k] = x at hcl hmem HTK
      clear hr hrn
      by_cases hx : x = s
      · have hin : Hid (t = true) := ht.2 (by rw [← hx]; exact hmem)
        clear ht
        subst hx
        go_wp2
        go_ret
        exact ⟨by rw [hin.out]; rfl, rfl⟩
      · have hne2 : (x == s) = false := by simpa using hx
        have hno' : ∀ y ∈ l.take (k + 1), y ≠ s := fun y hy => by
          rw [HTK.out] at hy
          rcases List.mem_append.1 hy with hy | hy
          · exact hno y hy
          · simp at hy; rw [hy]; exact hx
        have HX : Hid (x ≠ s) := hx
        have HNO : Hid (∀ y ∈ l.take (k + 1), y ≠ s) := hno'
        clear hx hno hno'
        go_wp2
        exact ⟨⟨k + 1, by omega, by go_num, HNO.out, trivial⟩, by simp [intOf]; omega⟩
    · have hin : Hid (t = false) := by
        show t = false
        cases t with
        | false => rfl
        | true => exact absurd rfl (hno s (by rw [List.take_of_length_le (by omega)]; exact ht.1 rfl))
      clear hno hr ht
      go_wp2
      go_ret
      exact ⟨by rw [hin.out]; rfl, rfl⟩
end Go.Proofs.YtdpfohgkikjeaaaGreat
/- What a tree's node is in memory. -/
namespace Go.Proofs.YtdpfohgkikjeaaaGreat
open Go.RowKit
set_option linter.unusedVariables false
set_option linter.unusedSimpArgs false

/-- A node: its block, how many items or kids it has itself, the items in it and below it, the blocks that it takes. -/
structure Kid where
  b : Nat
  n : Nat
  ls : List Str
  fp : List Nat

def Kid.ptr (k : Kid) : Value := .pointer (some ⟨k.b, 0, none⟩)
abbrev nilS : Value := .slice none 0 0
def Kid.count (k : Kid) : Value := .int .i64 (k.ls.length : Int)

/-- All items of some kids; all their blocks. -/
def itemsOf (ks : List Kid) : List Str := (ks.map Kid.ls).flatten
def blocksOf (ks : List Kid) : List Nat := (ks.map Kid.fp).flatten

/-- A leaf's own cells. -/
structure LeafR (w : World) (rest : List Value) (T : TypeId) (k : Kid) (v : Value) : Prop where
  cells : w.heap[k.b]? = some (.cells (v :: nilS :: k.count :: rest).toArray T (0, 0))
  row : Row w 9 1 v k.n (k.ls.map sv)
  fp : k.fp = k.b :: fpv v
  nodup : k.fp.Nodup

/-- A branch's own cells. -/
structure BranchR (w : World) (rest : List Value) (T : TypeId) (k : Kid) (v : Value) (ks : List Kid) : Prop where
  cells : w.heap[k.b]? = some (.cells (nilS :: v :: k.count :: rest).toArray T (0, 0))
  row : Row w 141 1 v k.n (ks.map Kid.ptr)
  ls : k.ls = itemsOf ks
  fp : k.fp = k.b :: (fpv v ++ blocksOf ks)
  nodup : k.fp.Nodup

/-- A node of height h. -/
def NodeR (w : World) : Nat → List Value → TypeId → Kid → Prop
  | 0, rest, T, k => ∃ v, LeafR w rest T k v
  | h + 1, rest, T, k => 0 < k.n ∧ ∃ v ks, BranchR w rest T k v ks ∧ ∀ c ∈ ks, NodeR w h [] 88 c ∧ 4 ≤ c.n ∧ c.n ≤ 8

theorem LeafR.len {w rest T k v} (h : LeafR w rest T k v) : k.ls.length = k.n := by simpa using h.row.len
theorem BranchR.len {w rest T k v ks} (h : BranchR w rest T k v ks) : ks.length = k.n := by simpa using h.row.len

theorem mem_blocksOf {ks : List Kid} {x : Nat} : x ∈ blocksOf ks ↔ ∃ c ∈ ks, x ∈ c.fp := by
  simp only [blocksOf, List.mem_flatten, List.mem_map]
  exact ⟨fun ⟨l, ⟨c, h1, h2⟩, h3⟩ => ⟨c, h1, h2 ▸ h3⟩, fun ⟨c, h1, h2⟩ => ⟨_, ⟨c, h1, rfl⟩, h2⟩⟩

theorem LeafR.kept {S : Blocks} {w w' : World} {rest T k v} (h : LeafR w rest T k v) (hk : Kept S w w') (hn : ∀ x ∈ k.fp, ¬ S x) : LeafR w' rest T k v :=
  ⟨hk.get h.cells (hn _ (by rw [h.fp]; simp)), h.row.kept hk (fun x hx => hn x (by rw [h.fp]; simp [hx])), h.fp, h.nodup⟩

theorem BranchR.kept {S : Blocks} {w w' : World} {rest T k v ks} (h : BranchR w rest T k v ks) (hk : Kept S w w') (hn : ∀ x ∈ k.fp, ¬ S x) : BranchR w' rest T k v ks :=
  ⟨hk.get h.cells (hn _ (by rw [h.fp]; simp)), h.row.kept hk (fun x hx => hn x (by rw [h.fp]; simp [hx])), h.ls, h.fp, h.nodup⟩

theorem BranchR.kid {w : World} {rest T k v ks} (h : BranchR w rest T k v ks) {c : Kid} (hc : c ∈ ks) : ∀ x ∈ c.fp, x ∈ k.fp := fun x hx => by
  rw [h.fp]; simp [mem_blocksOf]; exact .inr (.inr ⟨c, hc, hx⟩)

theorem NodeR.kept {S : Blocks} {w w' : World} (hk : Kept S w w') : ∀ (h : Nat) {rest T k}, NodeR w h rest T k → (∀ x ∈ k.fp, ¬ S x) → NodeR w' h rest T k
  | 0, _, _, _, ⟨v, hl⟩, hn => ⟨v, hl.kept hk hn⟩
  | h + 1, _, _, _, ⟨h0, v, ks, hb, hc⟩, hn => ⟨h0, v, ks, hb.kept hk hn, fun c hm => ⟨NodeR.kept hk h (hc c hm).1 (fun x hx => hn x (hb.kid hm x hx)), (hc c hm).2⟩⟩

theorem NodeR.lt {w : World} : ∀ (h : Nat) {rest T k}, NodeR w h rest T k → ∀ x ∈ k.fp, x < w.heap.size
  | 0, _, _, _, ⟨v, hl⟩, x, hx => by
    rw [hl.fp] at hx
    rcases List.mem_cons.1 hx with rfl | hx
    · exact lt_of_heap hl.cells
    · exact hl.row.lt x hx
  | h + 1, _, _, _, ⟨h0, v, ks, hb, hc⟩, x, hx => by
    rw [hb.fp] at hx
    rcases List.mem_cons.1 hx with rfl | hx
    · exact lt_of_heap hb.cells
    rcases List.mem_append.1 hx with hx | hx
    · exact hb.row.lt x hx
    · obtain ⟨c, hm, hx⟩ := mem_blocksOf.1 hx
      exact NodeR.lt h (hc c hm).1 x hx

/-- The count that stands in a node. -/
theorem NodeR.count {w : World} : ∀ (h : Nat) {rest T k}, NodeR w h rest T k → ∃ a b r, w.heap[k.b]? = some (.cells (a :: b :: k.count :: r).toArray T (0, 0))
  | 0, _, _, _, ⟨v, hl⟩ => ⟨_, _, _, hl.cells⟩
  | h + 1, _, _, _, ⟨h0, v, ks, hb, hc⟩ => ⟨_, _, _, hb.cells⟩

theorem NodeR.mem {w : World} : ∀ (h : Nat) {rest T k}, NodeR w h rest T k → k.b ∈ k.fp
  | 0, _, _, _, ⟨v, hl⟩ => by rw [hl.fp]; simp
  | h + 1, _, _, _, ⟨h0, v, ks, hb, hc⟩ => by rw [hb.fp]; simp

theorem NodeR.nodup {w : World} : ∀ (h : Nat) {rest T k}, NodeR w h rest T k → k.fp.Nodup
  | 0, _, _, _, ⟨v, hl⟩ => hl.nodup
  | h + 1, _, _, _, ⟨h0, v, ks, hb, hc⟩ => hb.nodup

/-- In which kid a place is, and where in it. The place behind all is the last kid's. -/
def seek : List Kid → Nat → Nat → Nat × Nat
  | [], i, at' => (i, at')
  | [c], i, at' => (i, at')
  | c :: d :: r, i, at' => if c.ls.length ≤ at' then seek (d :: r) (i + 1) (at' - c.ls.length) else (i, at')

theorem seek_spec : ∀ (ks : List Kid) (i at' : Nat), ks ≠ [] → at' ≤ (itemsOf ks).length → ∃ A c B, ks = A ++ c :: B ∧ (seek ks i at').1 = i + A.length ∧ (itemsOf A).length + (seek ks i at').2 = at' ∧ (seek ks i at').2 ≤ c.ls.length ∧ (at' < (itemsOf ks).length → (seek ks i at').2 < c.ls.length)
  | [c], i, at', _, h => ⟨[], c, [], rfl, rfl, by simp [itemsOf, seek], by simpa [itemsOf, seek] using h, by simp [itemsOf, seek]⟩
  | c :: d :: r, i, at', _, h => by
    unfold seek
    by_cases hc : c.ls.length ≤ at'
    · rw [if_pos hc]
      have hl : (itemsOf (c :: d :: r)).length = c.ls.length + (itemsOf (d :: r)).length := by simp [itemsOf]
      obtain ⟨A, e, B, h1, h2, h3, h4, h5⟩ := seek_spec (d :: r) (i + 1) (at' - c.ls.length) (by simp) (by omega)
      refine ⟨c :: A, e, B, by rw [h1]; rfl, by rw [h2]; simp; omega, ?_, h4, fun hh => h5 (by omega)⟩
      have : (itemsOf (c :: A)).length = c.ls.length + (itemsOf A).length := by simp [itemsOf]
      omega
    · rw [if_neg hc]
      exact ⟨[], c, d :: r, rfl, by simp, by simp [itemsOf], by simp; omega, fun _ => by simp; omega⟩
end Go.Proofs.YtdpfohgkikjeaaaGreat
/- find, tally. -/
namespace Go.Proofs.YtdpfohgkikjeaaaGreat
open Go.RowKit
set_option linter.unusedVariables false
set_option linter.unusedSimpArgs false

/-- Kids as find and tally see them: addresses in a row, a count behind each. -/
structure KidsAt (w : World) (v : Value) (ks : List Kid) : Prop where
  row : Row w 141 1 v ks.length (ks.map Kid.ptr)
  counts : ∀ c ∈ ks, ∃ a b r T, w.heap[c.b]? = some (.cells (a :: b :: c.count :: r).toArray T (0, 0))

theorem BranchR.kidsAt {w : World} {h : Nat} {rest T k v ks} (hb : BranchR w rest T k v ks) (hc : ∀ c ∈ ks, NodeR w h [] 88 c) : KidsAt w v ks :=
  ⟨hb.len.symm ▸ hb.row, fun c hm => by obtain ⟨a, b, r, hh⟩ := (hc c hm).count; exact ⟨a, b, r, _, hh⟩⟩

theorem KidsAt.at {w : World} {v : Value} {ks : List Kid} (h : KidsAt w v ks) {i : Nat} (hi : i < ks.length) : ∃ g c', v = .slice (some ⟨g, 0, none⟩) ks.length c' ∧ w.cell? ⟨g, i, none⟩ = some (Kid.ptr ks[i]) ∧ w.cell? ⟨(ks[i]).b, 2, none⟩ = some (Kid.count ks[i]) := by
  rcases h.row.shape with ⟨_, h0, _⟩ | ⟨g, c', rfl, _, _⟩
  · omega
  · obtain ⟨_, _, _, hcell⟩ := h.row.cell
    obtain ⟨a, b, r, T, hh⟩ := h.counts ks[i] (List.getElem_mem hi)
    refine ⟨g, c', rfl, hcell i _ (by simp [hi]), ?_⟩
    rw [cells_of' hh]; rfl

theorem seek_step (ks : List Kid) (i at' : Nat) (hi : i + 1 < ks.length) : seek (ks.drop i) i at' = if (ks[i]).ls.length ≤ at' then seek (ks.drop (i + 1)) (i + 1) (at' - (ks[i]).ls.length) else (i, at') := by
  have h1 : ks.drop i = ks[i] :: ks[i + 1] :: ks.drop (i + 2) := by rw [List.drop_eq_getElem_cons (by omega), List.drop_eq_getElem_cons (by omega)]
  have h2 : ks.drop (i + 1) = ks[i + 1] :: ks.drop (i + 2) := by rw [List.drop_eq_getElem_cons (by omega)]
  rw [h1, h2]; rfl

theorem seek_last (ks : List Kid) (i at' : Nat) (hi : i + 1 = ks.length) : seek (ks.drop i) i at' = (i, at') := by
  have h1 : ks.drop i = [ks[i]] := by rw [List.drop_eq_getElem_cons (by omega), List.drop_eq_nil_of_le (by omega)]
  rw [h1]; rfl

set_option maxHeartbeats 1000000 in
theorem find_any (b : Nat) (vi v cnt : Value) (rest : List Value) (T : TypeId) (ks : List Kid) (at' : Nat) (aI : Int) (haI : aI = (at' : Int)) (w : World) (hb : w.heap[b]? = some (.cells (vi :: v :: cnt :: rest).toArray T (0, 0))) (hk : KidsAt w v ks) (h0 : 0 < ks.length) (hn : ks.length ≤ 1000000) (hl : ∀ c ∈ ks, c.ls.length ≤ 1099511627776) (hat : at' ≤ 1099511627776) :
    Calls Tryz.prog 109 #[.pointer (some ⟨b, 0, none⟩), .int .i64 aI] w fun e w' => e = .returned (.tuple #[.int .i64 ((seek ks 0 at').1 : Int), .int .i64 ((seek ks 0 at').2 : Int)]) ∧ w' = w := by
  subst haI
  obtain ⟨hc, _⟩ := cells_of hb
  obtain ⟨g, c', rfl, _, _⟩ := hk.at (i := 0) h0
  go_enter Tryz.func109, Tryz.ntmps109
  go_wp2
  go_loop [1, 6] (fun a i => ∃ (j x : Nat), j < ks.length ∧ x ≤ at' ∧ seek ks 0 at' = seek (ks.drop j) j x ∧ a = .int .i64 x ∧ i = .int .i64 j) (fun _ i => ks.length - (intOf i).toNat)
  case atStart => exact ⟨0, at', h0, Nat.le_refl _, rfl, rfl, rfl⟩
  case round =>
    obtain ⟨j, x, hj, hx, hs, rfl, rfl⟩ := hrel
    have HS : Hid (seek ks 0 at' = seek (ks.drop j) j x) := hs
    clear hs
    obtain ⟨g', c'', he, hp, hcount⟩ := hk.at hj
    simp only [Value.slice.injEq, Option.some.injEq, Addr.mk.injEq, and_true, true_and] at he
    obtain ⟨⟨rfl, _⟩, rfl⟩ := he
    generalize hK : ks[j] = K at hp hcount
    have hKl : K.ls.length ≤ 1099511627776 := hl K (by rw [← hK]; exact List.getElem_mem hj)
    simp only [Kid.ptr, Kid.count] at hp hcount
    have hw1 : IntKind.i64.wrap ((ks.length : Int) - 1) = (ks.length : Int) - 1 := by rw [IntKind.wrap_i64]; omega
    have hw2 : IntKind.i64.wrap ((j : Int) + 1) = (j : Int) + 1 := by rw [IntKind.wrap_i64]; omega
    have hw3 : IntKind.i64.wrap ((x : Int) - (K.ls.length : Int)) = (x : Int) - (K.ls.length : Int) := by rw [IntKind.wrap_i64]; omega
    by_cases hlast : j + 1 < ks.length
    · have hg1 : (j : Int) < (ks.length : Int) - 1 := by omega
      by_cases hge : K.ls.length ≤ x
      · have hg2 : (K.ls.length : Int) ≤ (x : Int) := by omega
        go_wp2
        refine ⟨⟨j + 1, x - K.ls.length, hlast, by omega, ?_, by go_num, by go_num⟩, by simp [intOf]; omega⟩
        rw [HS.out, seek_step ks j x hlast, hK, if_pos hge]
      · have hg2 : ¬ (K.ls.length : Int) ≤ (x : Int) := by omega
        go_wp2
        go_ret2
        rw [HS.out, seek_step ks j x hlast, hK, if_neg hge]
        exact ⟨rfl, rfl⟩
    · have hg1 : ¬ (j : Int) < (ks.length : Int) - 1 := by omega
      go_wp2
      go_ret2
      rw [HS.out, seek_last ks j x (by omega)]
      exact ⟨rfl, rfl⟩

theorem Kept.cell1 {w : World} {b o : Nat} {u : Value} : Kept (fun k => k = b) w (w.setCell ⟨b, o, none⟩ u) := Kept.setCell (S := fun k => k = b) (Kept.refl _ _) (p := ⟨b, o, none⟩) (fun _ => rfl) _

theorem KidsAt.kept {S : Blocks} {w w' : World} {v : Value} {ks : List Kid} (h : KidsAt w v ks) (hk : Kept S w w') (h1 : ∀ x ∈ fpv v, ¬ S x) (h2 : ∀ c ∈ ks, ¬ S c.b) : KidsAt w' v ks :=
  ⟨h.row.kept hk h1, fun c hm => by obtain ⟨a, b, r, T, hh⟩ := h.counts c hm; exact ⟨a, b, r, T, hk.get hh (h2 c hm)⟩⟩

theorem itemsOf_append (A B : List Kid) : itemsOf (A ++ B) = itemsOf A ++ itemsOf B := by simp [itemsOf]
theorem itemsOf_one (c : Kid) : itemsOf [c] = c.ls := by simp [itemsOf]
theorem itemsOf_take (ks : List Kid) (j : Nat) (h : j < ks.length) : itemsOf (ks.take (j + 1)) = itemsOf (ks.take j) ++ (ks[j]).ls := by
  rw [List.take_succ_eq_append_getElem h, itemsOf_append, itemsOf_one]

set_option maxHeartbeats 1000000 in
/-- tally: the items of the node's own, and those of its kids. -/
theorem tally_any (b : Nat) (vi v cnt : Value) (rest : List Value) (T : TypeId) (ks : List Kid) (p : Option Addr) (m c : Nat) (hvi : vi = .slice p m c) (w : World) (hb : w.heap[b]? = some (.cells (vi :: v :: cnt :: rest).toArray T (0, 0))) (hk : KidsAt w v ks) (hne : ∀ k ∈ ks, k.b ≠ b) (hv : b ∉ fpv v) (hn : ks.length ≤ 1000000) (hl : (itemsOf ks).length ≤ 1099511627776) (hm : m ≤ 1000000) :
    Calls Tryz.prog 115 #[.pointer (some ⟨b, 0, none⟩)] w fun e w' => e = .returned (.tuple #[]) ∧ w'.heap[b]? = some (.cells (vi :: v :: .int .i64 ((m + (itemsOf ks).length : Nat) : Int) :: rest).toArray T (0, 0)) ∧ Kept (fun k => k = b) w w' := by
  obtain ⟨hc, hf⟩ := cells_of hb
  subst hvi
  obtain ⟨q, cv, rfl⟩ : ∃ q cv, v = .slice q ks.length cv := by
    rcases hk.row.shape with ⟨rfl, h0, _⟩ | ⟨g, cv, rfl, _, _⟩
    · exact ⟨none, 0, by rw [h0]⟩
    · exact ⟨_, cv, rfl⟩
  go_enter Tryz.func115, Tryz.ntmps115
  go_wp2
  go_loopw [3, 17] (fun k i wr => ∃ (j : Nat), j ≤ ks.length ∧ i = .int .i64 j ∧ wr.heap[b]? = some (.cells (.slice p m c :: .slice q ks.length cv :: .int .i64 ((m + (itemsOf (ks.take j)).length : Nat) : Int) :: rest).toArray T (0, 0)) ∧ Kept (fun k => k = b) w wr) (fun _ i _ => ks.length - (intOf i).toNat)
  case atStart =>
    refine ⟨0, Nat.zero_le _, rfl, ?_, Kept.cell1⟩
    rw [heap_set_same hb]; simp [itemsOf]
  case round =>
    obtain ⟨j, hj, rfl, hb1, hk1⟩ := hrel
    have hk2 := hk.kept hk1 (fun x hx e => hv (e ▸ hx)) hne
    obtain ⟨hc1, hf1⟩ := cells_of hb1
    by_cases hlt : j < ks.length
    · obtain ⟨g, c'', he, hp, hcount⟩ := hk2.at hlt
      simp only [Value.slice.injEq, true_and] at he
      obtain ⟨rfl, rfl⟩ := he
      have hit := itemsOf_take ks j hlt
      have hle : (itemsOf (ks.take (j + 1))).length ≤ 1099511627776 := by
        have e : itemsOf ks = itemsOf (ks.take (j + 1)) ++ itemsOf (ks.drop (j + 1)) := by rw [← itemsOf_append, List.take_append_drop]
        rw [e, List.length_append] at hl; omega
      generalize hK : ks[j] = K at hp hcount hit
      have HK : Hid (ks[j] = K) := hK
      clear hK
      rw [hit, List.length_append] at hle
      have HI := hit
      generalize hX : (itemsOf (ks.take j)).length = X at hb1 hc1 hle
      have HX : Hid ((itemsOf (ks.take j)).length = X) := hX
      clear hX hit
      simp only [Kid.ptr, Kid.count] at hp hcount
      have hw : IntKind.i64.wrap (((m : Int) + (X : Int)) + (K.ls.length : Int)) = (m : Int) + (X : Int) + (K.ls.length : Int) := by rw [IntKind.wrap_i64]; omega
      go_wp2
      go_region
      go_wp2
      refine ⟨⟨j + 1, hlt, by go_num, ?_, (hk1.step Kept.cell1).drew⟩, by simp [intOf]; omega⟩
      show (wr.setCell _ _).heap[b]? = _
      rw [heap_set_same hb1, HI, List.length_append, HX.out]
      simp [Int.add_assoc]
    · go_wp2
      go_end0
      have e : ks.take j = ks := List.take_of_length_le (by omega)
      rw [e] at hb1
      exact ⟨rfl, hb1, hk1⟩
end Go.Proofs.YtdpfohgkikjeaaaGreat
/- Regions that draw, once more: behind an operation that waits for all reads (a store at the end) the class need not hold. -/
namespace Go.Proofs.YtdpfohgkikjeaaaGreat
open Go.RowKit
set_option linter.unusedVariables false
set_option linter.unusedSimpArgs false

section
variable {P : Program} {ops : Array Oper} {Q : Exit → Act → World → Prop} {md : Region.Mode} {C : World → Prop} {N : Nat → Bool}

def wpGo2 (P : Program) (md : Region.Mode) (ops : Array Oper) (C : World → Prop) (N : Nat → Bool) (Q : Exit → Act → World → Prop) : Nat → Array Bool → Act → World → Prop
  | 0, listed, a, w => Region.ready md ops listed = [] ∧ Q .normal a w
  | fuel + 1, listed, a, w =>
    (Region.ready md ops listed = [] → Q .normal a w) ∧
    ∀ i ∈ Region.ready md ops listed, wpOp P ops Q i (fun a' w' => (N i = true → C w') ∧ wpGo2 P md ops C N Q fuel (listed.setIfInBounds i true) a' w') a w

theorem wpAny_of_go2 : ∀ (fuel : Nat) (listed : Array Bool) (a : Act) (w : World), wpGo2 P md ops C N Q fuel listed a w → wpAny P md ops Q fuel listed a w
  | 0, _, _, _, h => h
  | fuel + 1, _, _, _, h => ⟨h.1, fun i hi => wpOp_mono (fun a' w' h' => wpAny_of_go2 fuel _ a' w' h'.2) (h.2 i hi)⟩

/-- Whoever is not among N waits for i. -/
def Waits (md : Region.Mode) (ops : Array Oper) (N : Nat → Bool) (i : Nat) : Prop := ∀ j oj, ops[j]? = some oj → N j = false → ∃ e ∈ oj.after, Region.binds md e = true ∧ e.on = i

theorem Waits.need {i j : Nat} {listed : Array Bool} (h : Waits md ops N i) (hi : i ∈ Region.ready md ops listed) (hj : j ∈ Region.ready md ops listed) : N j = true := by
  by_cases hN : N j = true
  · exact hN
  · obtain ⟨hun, o, ho, hall⟩ := mem_ready.1 hj
    obtain ⟨e, he, hb, hei⟩ := h j o ho (by simpa using hN)
    have hiun := (mem_ready.1 hi).1
    have := hall e he hb
    rw [hei] at this
    by_cases hs : i < listed.size
    · rw [Array.getD_eq_getD_getElem?, Array.getElem?_eq_getElem hs] at this hiun
      simp only [Option.getD_some] at this hiun
      rw [this] at hiun; cases hiun
    · rw [Array.getD_eq_getD_getElem?, Array.getElem?_eq_none (by omega)] at this
      cases this

theorem wpGo2_first {i : Nat} {oi : Oper} {v : Value} (hi : ops[i]? = some oi) (hsel : ∀ (j : Nat) (o : Oper) cs b, ops[j]? = some o → o.op ≠ .select cs b) (hwt : Waits md ops N i)
    (hQ : ∀ c a w, Q (.panic c) (a.put oi.dst v) w → Q (.panic c) a w) :
    ∀ (fuel : Nat) (listed : Array Bool) (a : Act) (w : World), C w → Free md ops i oi listed → i ∈ Region.ready md ops listed → Reads P ops C oi v a →
      wpGo2 P md ops C N Q fuel (listed.setIfInBounds i true) (a.put oi.dst v) w → wpGo2 P md ops C N Q (fuel + 1) listed a w
  | 0, listed, a, w, hC, _, hr, hy, H => by
    refine ⟨fun h0 => (by rw [h0] at hr; cases hr), fun j hj => ?_⟩
    rcases Nat.decEq j i with hne | rfl
    · exact absurd (ready_mono hj hne) (by rw [H.1]; exact List.not_mem_nil)
    · exact hy.wpOp hi hC ⟨fun _ => hC, H⟩
  | n + 1, listed, a, w, hC, hf, hr, hy, H => by
    refine ⟨fun h0 => (by rw [h0] at hr; cases hr), fun j hj => ?_⟩
    rcases Nat.decEq j i with hne | rfl
    · obtain ⟨hjun, oj, hoj, _⟩ := mem_ready.1 hj
      have hput := reads_put hoj (hf.beside hr hj hoj hne) (fun cs b => hsel i oi cs b hi) (fun cs b => hsel j oj cs b hoj) hQ hy (H.2 j (ready_mono hj hne))
      refine wpOp_mono (fun a' w' hh => ⟨hh.2.1, ?_⟩) hput
      refine wpGo2_first hi hsel hwt hQ n _ a' w' (hh.2.1 (hwt.need hr hj)) (hf.step hjun) (ready_mono hr (Ne.symm hne)) hh.1 ?_
      rw [Array.setIfInBounds_comm _ _ hne]
      exact hh.2.2
    · exact hy.wpOp hi hC ⟨fun _ => hC, H⟩

/-- Does the operation j not wait for all of p? -/
def needB (md : Region.Mode) (ops : Array Oper) (p : List Nat) (j : Nat) : Bool :=
  !(p.all fun i => match ops[j]? with
    | some o => o.after.any fun e => Region.binds md e && e.on == i
    | none => false)

theorem waits_needB {p : List Nat} {i : Nat} (hi : i ∈ p) : Waits md ops (needB md ops p) i := fun j oj hj hn => by
  unfold needB at hn
  simp only [Bool.not_eq_false'] at hn
  have := List.all_eq_true.1 hn i hi
  rw [hj] at this
  simp only [Array.any_eq_true'] at this
  obtain ⟨e, he, h⟩ := this
  simp only [Bool.and_eq_true, beq_iff_eq] at h
  exact ⟨e, he, h.1, h.2⟩

/-- The rest, in its one order. -/
def wpTail2 (P : Program) (md : Region.Mode) (ops : Array Oper) (C : World → Prop) (N : Nat → Bool) (Q : Exit → Act → World → Prop) : List Nat → Act → World → Prop
  | [], a, w => Q .normal a w
  | i :: l, a, w => wpOp P ops Q i (fun a' w' => (N i = true → C w') ∧ wpTail2 P md ops C N Q l a' w') a w

theorem wpGo2_tail : ∀ (t : List Nat) (listed : Array Bool) (a : Act) (w : World), tailB md ops t listed = true → wpTail2 P md ops C N Q t a w → wpGo2 P md ops C N Q t.length listed a w
  | [], _, _, _, hB, h => ⟨by simpa [tailB] using hB, h⟩
  | i :: t, listed, a, w, hB, h => by
    simp only [tailB, Bool.and_eq_true, beq_iff_eq] at hB
    refine ⟨fun h0 => (by rw [hB.1] at h0; cases h0), fun j hj => ?_⟩
    rw [hB.1] at hj
    simp only [List.mem_cons, List.not_mem_nil, or_false] at hj
    subst hj
    exact wpOp_mono (fun a' w' h' => ⟨h'.1, wpGo2_tail t _ a' w' hB.2 h'.2⟩) h

theorem wpGo2_pre (hs : Region.noSelect ops = true) (hQ : ∀ c a d v w, Q (.panic c) (Act.put a d v) w → Q (.panic c) a w) (t : List Nat) : ∀ (p : List Nat), (∀ i ∈ p, Waits md ops N i) → ∀ (listed : Array Bool) (a : Act) (w : World), C w →
    preB md ops t p listed = true → wpPre P ops C (fun a' => wpTail2 P md ops C N Q t a' w) p a → wpGo2 P md ops C N Q (p.length + t.length) listed a w
  | [], _, listed, a, w, hC, hB, h => by
    simp only [List.length_nil, Nat.zero_add]
    exact wpGo2_tail t listed a w hB h
  | i :: p, hW, listed, a, w, hC, hB, h => by
    simp only [preB, Bool.and_eq_true] at hB
    obtain ⟨⟨hr, hf⟩, hB'⟩ := hB
    obtain ⟨o, v, ho, hy, hK⟩ := h
    have e : (i :: p).length + t.length = (p.length + t.length) + 1 := by simp; omega
    rw [e]
    exact wpGo2_first ho (Region.noSelect_spec hs) (hW i (by simp)) (fun c a w => hQ c a _ _ w) _ listed a w hC (Region.free_spec ho hf) (by simpa using hr) hy
      (wpGo2_pre hs hQ t p (fun k hk => hW k (by simp [hk])) _ _ w hC hB' hK)

theorem wp_region_last {id : Nat} {a : Act} {w : World} (C : World → Prop) (p t : List Nat) (hm : P.follows .mixedOrders = true) (hB : drawB ops p t = true)
    (hQ : ∀ c a d v w, Q (.panic c) (Act.put a d v) w → Q (.panic c) a w) (hC : C w.drew)
    (h : wpPre P ops C (fun a' => wpTail2 P .any ops C (needB .any ops p) Q t a' w.drew) p a) : (Code.region id ops true).wp P Q a w := by
  simp only [drawB, Bool.and_eq_true, beq_iff_eq] at hB
  obtain ⟨⟨hs, hl⟩, hB⟩ := hB
  refine wp_region_any hm (wpAny_of_go2 (C := C) (N := needB .any ops p) _ _ _ _ ?_)
  have hg := wpGo2_pre hs hQ t p (fun i hi => waits_needB hi) _ a w.drew hC hB h
  rw [hl] at hg
  exact hg

theorem wpTail2_nil {a : Act} {w : World} (h : Q .normal a w) : wpTail2 P md ops C N Q [] a w := h
/-- At an operation of the rest; the class holds behind it. -/
theorem wpTail2_cons {a : Act} {w : World} {i : Nat} {l : List Nat} {o : Oper} (ho : ops.toList[i]? = some o) (hg : o.guard = none)
    (h : ∀ K : Act → World → Prop, (∀ a w, C w ∧ wpTail2 P md ops C N Q l a w → K a w) → o.wp P a w K Q) : wpTail2 P md ops C N Q (i :: l) a w := by
  have ho' : ops[i]? = some o := by simpa using ho
  unfold wpTail2 wpOp
  simp only [ho']
  rw [if_pos (by simp [Region.wanted, hg])]
  exact .inl (h _ (fun _ _ h => ⟨fun _ => h.1, h.2⟩))
/-- One that waits for all reads. -/
theorem wpTail2_last {a : Act} {w : World} {i : Nat} {l : List Nat} {o : Oper} (hn : N i = false) (ho : ops.toList[i]? = some o) (hg : o.guard = none)
    (h : ∀ K : Act → World → Prop, (∀ a w, wpTail2 P md ops C N Q l a w → K a w) → o.wp P a w K Q) : wpTail2 P md ops C N Q (i :: l) a w := by
  have ho' : ops[i]? = some o := by simpa using ho
  unfold wpTail2 wpOp
  simp only [ho']
  rw [if_pos (by simp [Region.wanted, hg])]
  exact .inl (h _ (fun _ _ h => ⟨fun hh => (by rw [hn] at hh; cases hh), h⟩))
end
end Go.Proofs.YtdpfohgkikjeaaaGreat
/- join. -/
namespace Go.Proofs.YtdpfohgkikjeaaaGreat
open Go.RowKit
set_option linter.unusedVariables false
set_option linter.unusedSimpArgs false

theorem Row.slice {w : World} {e : TypeId} {size n : Nat} {v : Value} {xs : List Value} (h : Row w e size v n xs) : ∃ p c, v = .slice p n c := by
  rcases h.shape with ⟨rfl, rfl, _⟩ | ⟨g, c, rfl, _, _⟩
  · exact ⟨_, _, rfl⟩
  · exact ⟨_, _, rfl⟩

theorem sv_one (xs : List Str) : ∀ u ∈ xs.map sv, u.oneCell' = true := fun u hu => by
  obtain ⟨_, _, rfl⟩ := List.mem_map.1 hu; rfl
theorem ptr_one (ks : List Kid) : ∀ u ∈ ks.map Kid.ptr, u.oneCell' = true := fun u hu => by
  obtain ⟨_, _, rfl⟩ := List.mem_map.1 hu; rfl

set_option maxHeartbeats 2000000 in
set_option maxRecDepth 100000 in
theorem nodejoin_any (b b2 : Nat) (vi vk ui uk cnt cnt2 : Value) (rest rest2 : List Value) (T T2 : TypeId) (xs ys : List Str) (ks ks2 : List Kid) (w : World)
    (hb : w.heap[b]? = some (.cells (vi :: vk :: cnt :: rest).toArray T (0, 0))) (hb2 : w.heap[b2]? = some (.cells (ui :: uk :: cnt2 :: rest2).toArray T2 (0, 0)))
    (hri : Row w 9 1 vi xs.length (xs.map sv)) (hui : Row w 9 1 ui ys.length (ys.map sv)) (hk : KidsAt w vk ks) (hk2 : KidsAt w uk ks2)
    (hbb : b ≠ b2) (hd : ∀ x, x ∈ fpv vi ∨ x ∈ fpv vk → x ≠ b ∧ x ≠ b2 ∧ x ∉ fpv ui ∧ x ∉ fpv uk ∧ ∀ c ∈ ks ++ ks2, c.b ≠ x) (hd2 : ∀ x, x ∈ fpv vi → x ∉ fpv vk) (hd3 : ∀ c ∈ ks ++ ks2, c.b ≠ b) (hd4 : b ∉ fpv uk) (hx : xs.length + ys.length ≤ 1000000) (hks : ks.length + ks2.length ≤ 1000000) (hl : (itemsOf (ks ++ ks2)).length ≤ 1099511627776) :
    Calls Tryz.prog 134 #[.pointer (some ⟨b, 0, none⟩), .pointer (some ⟨b2, 0, none⟩)] w fun e w' => e = .returned (.tuple #[]) ∧ ∃ vi' vk', w'.heap[b]? = some (.cells (vi' :: vk' :: .int .i64 ((xs.length + ys.length + (itemsOf (ks ++ ks2)).length : Nat) : Int) :: rest).toArray T (0, 0)) ∧
      Row w' 9 1 vi' (xs.length + ys.length) ((xs ++ ys).map sv) ∧ KidsAt w' vk' (ks ++ ks2) ∧ Kept (fun k => k = b ∨ k ∈ fpv vi ∨ k ∈ fpv vk) w w' ∧ (∀ x ∈ fpv vi', x ∈ fpv vi ∨ w.heap.size ≤ x) ∧ (∀ x ∈ fpv vk', x ∈ fpv vk ∨ w.heap.size ≤ x) ∧ (vi = nilS → ys = [] → vi' = nilS) ∧ (vk = nilS → ks2 = [] → vk' = nilS) := by
  go_enter Tryz.func134, Tryz.ntmps134
  go_wp2
  refine wp_region_last (fun W => W.heap[b]? = some (.cells (vi :: vk :: cnt :: rest).toArray T (0, 0)) ∧ W.heap[b2]? = some (.cells (ui :: uk :: cnt2 :: rest2).toArray T2 (0, 0))) [0, 1, 2, 3, 4, 5, 6, 7, 8] [9, 10, 11, 12] (by kernel_rfl) (by kernel_rfl) (fun _ _ d _ _ h => by cases d <;> exact h) ⟨hb, hb2⟩ ?_
  repeat (refine wpPre_cons rfl rfl (fun W hW => (by obtain ⟨hc1, _⟩ := cells_of hW.1; obtain ⟨hc2, _⟩ := cells_of hW.2; go_simp; rfl)) ?_; simp only [Act.put, List.setIfInBounds_toArray, List.set])
  refine wpPre_nil ?_
  refine wpTail2_cons rfl rfl (fun K hK => ?_)
  refine wp_app_any _ _ 34 rfl tyS vi _ _ rfl hri.drew ui _ _ rfl hui.drew (sv_one ys) (by decide) (by omega) (fun v1 w1 hr1 hg1 hn1 => hK _ _ ⟨⟨hg1.1.get (w := w.drew) hb (fun h => (hd _ (.inl h)).1 rfl), hg1.1.get (w := w.drew) hb2 (fun h => (hd _ (.inl h)).2.1 rfl)⟩, ?_⟩)
  clear hK
  obtain ⟨p1, c1, rfl⟩ := hr1.slice
  simp only [Act.put, List.setIfInBounds_toArray, List.set]
  have hb1 : w1.heap[b]? = some (.cells (vi :: vk :: cnt :: rest).toArray T (0, 0)) := hg1.1.get (w := w.drew) hb (fun h => (hd _ (.inl h)).1 rfl)
  have hb21 : w1.heap[b2]? = some (.cells (ui :: uk :: cnt2 :: rest2).toArray T2 (0, 0)) := hg1.1.get (w := w.drew) hb2 (fun h => (hd _ (.inl h)).2.1 rfl)
  obtain ⟨hc1, hf1⟩ := cells_of hb1
  refine wpTail2_last (by kernel_rfl) rfl rfl (fun K hK => ?_)
  go_wp2_with fail
  refine wpTail2_last (by kernel_rfl) rfl rfl (fun K hK => ?_)
  go_wp2_with fail
  refine wpTail2_last (by kernel_rfl) rfl rfl (fun K hK => ?_)
  go_wp2_with fail
  refine wpTail2_nil ?_
  have hlt := hri.lt
  have hb_2 : (w1.setCell ⟨b, 0, none⟩ (.slice p1 (xs.length + ys.length) c1)).heap[b]? = some (.cells (.slice p1 (xs.length + ys.length) c1 :: vk :: cnt :: rest).toArray T (0, 0)) := by rw [heap_set_same hb1]; simp
  have hk_2 : Kept (fun k => k = b ∨ k ∈ fpv vi) w (w1.setCell ⟨b, 0, none⟩ (.slice p1 (xs.length + ys.length) c1)) := (hg1.1.of_drew.mono (fun x hx _ => .inr hx)).setCell (p := ⟨b, 0, none⟩) (fun _ => .inl rfl) _
  have hr_2 : Row (w1.setCell ⟨b, 0, none⟩ (.slice p1 (xs.length + ys.length) c1)) 9 1 (.slice p1 (xs.length + ys.length) c1) (xs.length + ys.length) ((xs ++ ys).map sv) := by
    rw [List.map_append]
    refine hr1.kept (S := fun k => k = b) Kept.cell1 (fun x hx e => ?_)
    subst e
    rcases hg1.2 x hx with h | h
    · exact (hd x (.inl h)).1 rfl
    · have := lt_of_heap hb
      have h2 : w.heap.size ≤ x := h
      omega
  have hf_2 : ∀ x ∈ fpv (.slice p1 (xs.length + ys.length) c1), x ∈ fpv vi ∨ w.heap.size ≤ x := hg1.2
  have hb2_2 : (w1.setCell ⟨b, 0, none⟩ (.slice p1 (xs.length + ys.length) c1)).heap[b2]? = some (.cells (ui :: uk :: cnt2 :: rest2).toArray T2 (0, 0)) := by rw [heap_set_other hbb]; exact hb21
  generalize w1.setCell ⟨b, 0, none⟩ (.slice p1 (xs.length + ys.length) c1) = w2 at hb_2 hk_2 hr_2 hb2_2
  have hkA : KidsAt w2 vk ks := hk.kept hk_2 (fun x hx => fun h => by
    rcases h with h | h
    · exact (hd x (.inr hx)).1 h
    · exact hd2 x h hx) (fun c hm => fun h => by
    rcases h with h | h
    · exact hd3 c (by simp [hm]) h
    · exact (hd _ (.inl h)).2.2.2.2 c (by simp [hm]) rfl)
  have hkB : KidsAt w2 uk ks2 := hk2.kept hk_2 (fun x hx => fun h => by
    rcases h with h | h
    · exact hd4 (h ▸ hx)
    · exact (hd x (.inl h)).2.2.2.1 hx) (fun c hm => fun h => by
    rcases h with h | h
    · exact hd3 c (by simp [hm]) h
    · exact (hd _ (.inl h)).2.2.2.2 c (by simp [hm]) rfl)
  clear hb1 hb21 hc1 hf1 hr1 hg1
  go_wp2
  refine wp_region_last (fun W => W.heap[b]? = some (.cells (.slice p1 (xs.length + ys.length) c1 :: vk :: cnt :: rest).toArray T (0, 0)) ∧ W.heap[b2]? = some (.cells (ui :: uk :: cnt2 :: rest2).toArray T2 (0, 0))) [0, 1, 2, 3, 4, 5, 6, 7, 8] [9, 10, 11, 12] (by kernel_rfl) (by kernel_rfl) (fun _ _ d _ _ h => by cases d <;> exact h) ⟨hb_2, hb2_2⟩ ?_
  repeat (refine wpPre_cons rfl rfl (fun W hW => (by obtain ⟨hc1, _⟩ := cells_of hW.1; obtain ⟨hc2, _⟩ := cells_of hW.2; go_simp; rfl)) ?_; simp only [Act.put, List.setIfInBounds_toArray, List.set])
  refine wpPre_nil ?_
  refine wpTail2_cons rfl rfl (fun K hK => ?_)
  have hgb : ∀ {u : Value} {W : World}, Grew w2.drew W vk u → W.heap[b]? = some (.cells (.slice p1 (xs.length + ys.length) c1 :: vk :: cnt :: rest).toArray T (0, 0)) ∧ W.heap[b2]? = some (.cells (ui :: uk :: cnt2 :: rest2).toArray T2 (0, 0)) := fun h =>
    ⟨h.1.get (w := w2.drew) hb_2 (fun h => (hd _ (.inr h)).1 rfl), h.1.get (w := w2.drew) hb2_2 (fun h => (hd _ (.inr h)).2.1 rfl)⟩
  refine wp_app_any _ _ 86 rfl tyK vk _ _ rfl hkA.row.drew uk _ _ rfl hkB.row.drew (ptr_one ks2) (by decide) (by omega) (fun v3 w3 hr3 hg3 hn3 => hK _ _ ⟨hgb hg3, ?_⟩)
  clear hK
  obtain ⟨p3, c3, rfl⟩ := hr3.slice
  obtain ⟨hb_3, _⟩ := hgb hg3
  obtain ⟨hc1, hf1⟩ := cells_of hb_3
  simp only [Act.put, List.setIfInBounds_toArray, List.set]
  refine wpTail2_last (by kernel_rfl) rfl rfl (fun K hK => ?_)
  go_wp2_with fail
  refine wpTail2_last (by kernel_rfl) rfl rfl (fun K hK => ?_)
  go_wp2_with fail
  refine wpTail2_last (by kernel_rfl) rfl rfl (fun K hK => ?_)
  go_wp2_with fail
  refine wpTail2_nil ?_
  have hlt2 : ∀ x ∈ fpv vk, x < w.heap.size := hk.row.lt
  have hsz : w.heap.size ≤ w2.heap.size := hk_2.size
  have hb_4 : (w3.setCell ⟨b, 1, none⟩ (.slice p3 (ks.length + ks2.length) c3)).heap[b]? = some (.cells (.slice p1 (xs.length + ys.length) c1 :: .slice p3 (ks.length + ks2.length) c3 :: cnt :: rest).toArray T (0, 0)) := by rw [heap_set_same hb_3]; simp
  have hk_3 : Kept (fun k => k = b ∨ k ∈ fpv vk) w2 (w3.setCell ⟨b, 1, none⟩ (.slice p3 (ks.length + ks2.length) c3)) := (hg3.1.of_drew.mono (fun x hx _ => .inr hx)).setCell (p := ⟨b, 1, none⟩) (fun _ => .inl rfl) _
  have hf_3 : ∀ x ∈ fpv (.slice p3 (ks.length + ks2.length) c3), x ∈ fpv vk ∨ w2.heap.size ≤ x := hg3.2
  have hr_3 : Row (w3.setCell ⟨b, 1, none⟩ (.slice p3 (ks.length + ks2.length) c3)) 141 1 (.slice p3 (ks.length + ks2.length) c3) (ks.length + ks2.length) ((ks ++ ks2).map Kid.ptr) := by
    rw [List.map_append]
    refine hr3.kept (S := fun k => k = b) Kept.cell1 (fun x hx e => ?_)
    subst e
    rcases hf_3 x hx with h | h
    · exact (hd x (.inr h)).1 rfl
    · have := lt_of_heap hb_2
      omega
  generalize w3.setCell ⟨b, 1, none⟩ (.slice p3 (ks.length + ks2.length) c3) = w4 at hb_4 hk_3 hr_3
  have hkids : KidsAt w4 (.slice p3 (ks.length + ks2.length) c3) (ks ++ ks2) := by
    refine ⟨by rw [List.length_append]; exact hr_3, fun c hm => ?_⟩
    have hh : ∃ a b r T, w2.heap[c.b]? = some (.cells (a :: b :: c.count :: r).toArray T (0, 0)) := by
      rcases List.mem_append.1 hm with h | h
      · exact hkA.counts c h
      · exact hkB.counts c h
    obtain ⟨a, b', r, T', hh⟩ := hh
    exact ⟨a, b', r, T', hk_3.get hh (fun h => by
      rcases h with h | h
      · exact hd3 c hm h
      · exact (hd _ (.inr h)).2.2.2.2 c hm rfl)⟩
  have hbw := lt_of_heap hb
  have hv1 : b ∉ fpv (.slice p1 (xs.length + ys.length) c1) := fun h => by
    rcases hf_2 b h with h | h
    · exact (hd b (.inl h)).1 rfl
    · omega
  have hv3 : b ∉ fpv (.slice p3 (ks.length + ks2.length) c3) := fun h => by
    rcases hf_3 b h with h | h
    · exact (hd b (.inr h)).1 rfl
    · omega
  go_wp2_with (go_at_call 115; refine (tally_any b _ _ cnt rest T (ks ++ ks2) p1 (xs.length + ys.length) c1 rfl w4 hb_4 hkids hd3 hv3 (by rw [List.length_append]; omega) hl hx).mono ?_; rintro e w5 ⟨rfl, hb5, hk5⟩)
  go_end0
  refine ⟨rfl, .slice p1 (xs.length + ys.length) c1, .slice p3 (ks.length + ks2.length) c3, hb5, ?_, ?_, ?_, hf_2, ?_, ?_, ?_⟩
  · refine (hr_2.kept hk_3 (fun x hx h => ?_)).kept hk5 (fun x hx h => hv1 (h ▸ hx))
    rcases h with h | h
    · exact hv1 (h ▸ hx)
    · rcases hf_2 x hx with h' | h'
      · exact hd2 x h' h
      · have := hlt2 x h; omega
  · exact hkids.kept hk5 (fun x hx h => hv3 (h ▸ hx)) hd3
  · refine ((hk_2.mono (T := fun k => k = b ∨ k ∈ fpv vi ∨ k ∈ fpv vk) (fun x hx _ => hx.elim .inl (fun h => .inr (.inl h)))).step' hk_3 (fun x hx _ => hx.elim .inl (fun h => .inr (.inr h)))).step' hk5 (fun x hx _ => .inl hx)
  · exact fun x hx => (hf_3 x hx).imp id (fun h => by omega)
  · exact fun h1 h2 => hn1.2 ⟨h1, by rw [h2]; rfl⟩
  · exact fun h1 h2 => hn3.2 ⟨h1, by rw [h2]; rfl⟩
end Go.Proofs.YtdpfohgkikjeaaaGreat
/- Regions that draw, a third time: an operation that is pure comes up wherever it likes; of the others, whoever waits for them by whatever way. -/
namespace Go.Proofs.YtdpfohgkikjeaaaGreat
open Go.RowKit
set_option linter.unusedVariables false
set_option linter.unusedSimpArgs false

section
variable {P : Program} {ops : Array Oper} {Q : Exit → Act → World → Prop} {md : Region.Mode} {C : World → Prop} {N : Nat → Bool}

/-- What is listed has all listed that it waits for. -/
def Closed (md : Region.Mode) (ops : Array Oper) (listed : Array Bool) : Prop := ∀ k ok, ops[k]? = some ok → listed.getD k false = true → ∀ e ∈ ok.after, Region.binds md e = true → listed.getD e.on false = true

theorem Closed.step {listed : Array Bool} {j : Nat} (h : Closed md ops listed) (hj : j ∈ Region.ready md ops listed) : Closed md ops (listed.setIfInBounds j true) := by
  intro k ok hk hl e he hb
  obtain ⟨_, o, ho, hall⟩ := mem_ready.1 hj
  by_cases hjk : j = k
  · subst hjk
    obtain rfl : o = ok := Option.some.inj (ho.symm.trans hk)
    exact getD_set_true (hall e he hb)
  · rw [getD_set_ne false hjk] at hl
    exact getD_set_true (h k ok hk hl e he hb)

theorem closed_start : Closed md ops (Array.replicate ops.size false) := by
  intro k ok hk hl
  have hlt : k < ops.size := (Array.getElem?_eq_some_iff.1 hk).1
  rw [Array.getD_eq_getD_getElem?, Array.getElem?_replicate, if_pos hlt] at hl
  cases hl

/-- Does j wait for i, by way of others? -/
def waitsB (md : Region.Mode) (ops : Array Oper) : Nat → Nat → Nat → Bool
  | 0, _, _ => false
  | n + 1, j, i => match ops[j]? with
    | some o => o.after.any fun e => Region.binds md e && (e.on == i || waitsB md ops n e.on i)
    | none => false

theorem waitsB_listed {listed : Array Bool} (hc : Closed md ops listed) {i : Nat} : ∀ (n j : Nat), listed.getD j false = true → waitsB md ops n j i = true → listed.getD i false = true
  | 0, _, _, h => by cases h
  | n + 1, j, hj, h => by
    unfold waitsB at h
    cases ho : ops[j]? with
    | none => rw [ho] at h; cases h
    | some o =>
      rw [ho] at h
      simp only [Array.any_eq_true'] at h
      obtain ⟨e, he, h⟩ := h
      simp only [Bool.and_eq_true, Bool.or_eq_true, beq_iff_eq] at h
      have h1 := hc j o ho hj e he h.1
      rcases h.2 with h2 | h2
      · rw [← h2]; exact h1
      · exact waitsB_listed hc n e.on h1 h2

theorem waitsB_ready {listed : Array Bool} (hc : Closed md ops listed) {i j n : Nat} (hj : j ∈ Region.ready md ops listed) (h : waitsB md ops n j i = true) : listed.getD i false = true := by
  obtain ⟨_, o, ho, hall⟩ := mem_ready.1 hj
  cases n with
  | zero => cases h
  | succ n =>
    unfold waitsB at h
    rw [ho] at h
    simp only [Array.any_eq_true'] at h
    obtain ⟨e, he, h⟩ := h
    simp only [Bool.and_eq_true, Bool.or_eq_true, beq_iff_eq] at h
    have h1 := hall e he h.1
    rcases h.2 with h2 | h2
    · rw [← h2]; exact h1
    · exact waitsB_listed hc n e.on h1 h2

/-- Does the operation j not wait for all of p? -/
def needB3 (md : Region.Mode) (ops : Array Oper) (p : List (Nat × Bool)) (j : Nat) : Bool := !(p.all fun i => i.2 || waitsB md ops 5 j i.1)

/-- Whoever is not among N waits for i. -/
def Waits3 (md : Region.Mode) (ops : Array Oper) (N : Nat → Bool) (i : Nat) : Prop := ∀ j, N j = false → waitsB md ops 5 j i = true

theorem Waits3.need {i j : Nat} {listed : Array Bool} (hc : Closed md ops listed) (h : Waits3 md ops N i) (hi : i ∈ Region.ready md ops listed) (hj : j ∈ Region.ready md ops listed) : N j = true := by
  by_cases hN : N j = true
  · exact hN
  · have h1 := waitsB_ready hc hj (h j (by simpa using hN))
    have h2 := (mem_ready.1 hi).1
    by_cases hs : i < listed.size
    · rw [Array.getD_eq_getD_getElem?, Array.getElem?_eq_getElem hs] at h1 h2
      simp only [Option.getD_some] at h1 h2
      rw [h1] at h2; cases h2
    · rw [Array.getD_eq_getD_getElem?, Array.getElem?_eq_none (by omega)] at h1
      cases h1

def wpGo3 (P : Program) (md : Region.Mode) (ops : Array Oper) (C : World → Prop) (N : Nat → Bool) (Q : Exit → Act → World → Prop) : Nat → Array Bool → Act → World → Prop
  | 0, listed, a, w => Region.ready md ops listed = [] ∧ Q .normal a w
  | fuel + 1, listed, a, w =>
    (Region.ready md ops listed = [] → Q .normal a w) ∧
    ∀ i ∈ Region.ready md ops listed, wpOp P ops Q i (fun a' w' => (N i = true → C w → C w') ∧ wpGo3 P md ops C N Q fuel (listed.setIfInBounds i true) a' w') a w

theorem wpAny_of_go3 : ∀ (fuel : Nat) (listed : Array Bool) (a : Act) (w : World), wpGo3 P md ops C N Q fuel listed a w → wpAny P md ops Q fuel listed a w
  | 0, _, _, _, h => h
  | fuel + 1, _, _, _, h => ⟨h.1, fun i hi => wpOp_mono (fun a' w' h' => wpAny_of_go3 fuel _ a' w' h'.2) (h.2 i hi)⟩

theorem wpGo3_first {i : Nat} {oi : Oper} {v : Value} (pure : Bool) (hi : ops[i]? = some oi) (hsel : ∀ (j : Nat) (o : Oper) cs b, ops[j]? = some o → o.op ≠ .select cs b) (hwt : pure = false → Waits3 md ops N i)
    (hQ : ∀ c a w, Q (.panic c) (a.put oi.dst v) w → Q (.panic c) a w) :
    ∀ (fuel : Nat) (listed : Array Bool) (a : Act) (w : World), Closed md ops listed → (pure = false → C w) → Free md ops i oi listed → i ∈ Region.ready md ops listed → Reads P ops (fun w => pure = true ∨ C w) oi v a →
      wpGo3 P md ops C N Q fuel (listed.setIfInBounds i true) (a.put oi.dst v) w → wpGo3 P md ops C N Q (fuel + 1) listed a w
  | 0, listed, a, w, hcl, hC, _, hr, hy, H => by
    have hC' : pure = true ∨ C w := by cases pure <;> simp_all
    refine ⟨fun h0 => (by rw [h0] at hr; cases hr), fun j hj => ?_⟩
    rcases Nat.decEq j i with hne | rfl
    · exact absurd (ready_mono hj hne) (by rw [H.1]; exact List.not_mem_nil)
    · exact hy.wpOp hi hC' ⟨fun _ h => h, H⟩
  | n + 1, listed, a, w, hcl, hC, hf, hr, hy, H => by
    have hC' : pure = true ∨ C w := by cases pure <;> simp_all
    refine ⟨fun h0 => (by rw [h0] at hr; cases hr), fun j hj => ?_⟩
    rcases Nat.decEq j i with hne | rfl
    · obtain ⟨hjun, oj, hoj, _⟩ := mem_ready.1 hj
      have hput := reads_put hoj (hf.beside hr hj hoj hne) (fun cs b => hsel i oi cs b hi) (fun cs b => hsel j oj cs b hoj) hQ hy (H.2 j (ready_mono hj hne))
      refine wpOp_mono (fun a' w' hh => ⟨hh.2.1, ?_⟩) hput
      refine wpGo3_first pure hi hsel hwt hQ n _ a' w' (hcl.step hj) (fun hp => hh.2.1 ((hwt hp).need hcl hr hj) (hC hp)) (hf.step hjun) (ready_mono hr (Ne.symm hne)) hh.1 ?_
      rw [Array.setIfInBounds_comm _ _ hne]
      exact hh.2.2
    · exact hy.wpOp hi hC' ⟨fun _ h => h, H⟩

/-- What only reads (false), or not even that (true), one by one. -/
def wpPre3 (P : Program) (ops : Array Oper) (C : World → Prop) (R : Act → Prop) : List (Nat × Bool) → Act → Prop
  | [], a => R a
  | i :: l, a => ∃ o v, ops[i.1]? = some o ∧ Reads P ops (fun w => i.2 = true ∨ C w) o v a ∧ wpPre3 P ops C R l (a.put o.dst v)

/-- The rest, in its one order. -/
def wpTail3 (P : Program) (ops : Array Oper) (C : World → Prop) (N : Nat → Bool) (Q : Exit → Act → World → Prop) : List Nat → Act → World → Prop
  | [], a, w => Q .normal a w
  | i :: l, a, w => wpOp P ops Q i (fun a' w' => (N i = true → C w → C w') ∧ wpTail3 P ops C N Q l a' w') a w

theorem wpGo3_tail : ∀ (t : List Nat) (listed : Array Bool) (a : Act) (w : World), tailB md ops t listed = true → wpTail3 P ops C N Q t a w → wpGo3 P md ops C N Q t.length listed a w
  | [], _, _, _, hB, h => ⟨by simpa [tailB] using hB, h⟩
  | i :: t, listed, a, w, hB, h => by
    simp only [tailB, Bool.and_eq_true, beq_iff_eq] at hB
    refine ⟨fun h0 => (by rw [hB.1] at h0; cases h0), fun j hj => ?_⟩
    rw [hB.1] at hj
    simp only [List.mem_cons, List.not_mem_nil, or_false] at hj
    subst hj
    exact wpOp_mono (fun a' w' h' => ⟨h'.1, wpGo3_tail t _ a' w' hB.2 h'.2⟩) h

theorem wpGo3_pre (hs : Region.noSelect ops = true) (hQ : ∀ c a d v w, Q (.panic c) (Act.put a d v) w → Q (.panic c) a w) (t : List Nat) : ∀ (p : List (Nat × Bool)), (∀ i ∈ p, i.2 = false → Waits3 md ops N i.1) → ∀ (listed : Array Bool) (a : Act) (w : World), Closed md ops listed → C w →
    preB md ops t (p.map (·.1)) listed = true → wpPre3 P ops C (fun a' => wpTail3 P ops C N Q t a' w) p a → wpGo3 P md ops C N Q (p.length + t.length) listed a w
  | [], _, listed, a, w, hcl, hC, hB, h => by
    simp only [List.length_nil, Nat.zero_add]
    exact wpGo3_tail t listed a w hB h
  | i :: p, hW, listed, a, w, hcl, hC, hB, h => by
    simp only [List.map_cons, preB, Bool.and_eq_true] at hB
    obtain ⟨⟨hr, hf⟩, hB'⟩ := hB
    obtain ⟨o, v, ho, hy, hK⟩ := h
    have e : (i :: p).length + t.length = (p.length + t.length) + 1 := by simp; omega
    have hr' : i.1 ∈ Region.ready md ops listed := by simpa using hr
    rw [e]
    exact wpGo3_first i.2 ho (Region.noSelect_spec hs) (hW i (by simp)) (fun c a w => hQ c a _ _ w) _ listed a w hcl (fun _ => hC) (Region.free_spec ho hf) hr' hy
      (wpGo3_pre hs hQ t p (fun k hk => hW k (by simp [hk])) _ _ w (hcl.step hr') hC hB' hK)

def drawB3 (ops : Array Oper) (p : List (Nat × Bool)) (t : List Nat) : Bool := drawB ops (p.map (·.1)) t

/-- A region that draws: reads, pure ones, then the rest in its order. Of the rest, whoever does not wait for all reads keeps the class. -/
theorem wp_region3 {id : Nat} {a : Act} {w : World} (C : World → Prop) (p : List (Nat × Bool)) (t : List Nat) (hm : P.follows .mixedOrders = true) (hB : drawB3 ops p t = true)
    (hQ : ∀ c a d v w, Q (.panic c) (Act.put a d v) w → Q (.panic c) a w) (hC : C w.drew)
    (h : wpPre3 P ops C (fun a' => wpTail3 P ops C (needB3 .any ops p) Q t a' w.drew) p a) : (Code.region id ops true).wp P Q a w := by
  simp only [drawB3, drawB, Bool.and_eq_true, beq_iff_eq] at hB
  obtain ⟨⟨hs, hl⟩, hB⟩ := hB
  refine wp_region_any hm (wpAny_of_go3 (C := C) (N := needB3 .any ops p) _ _ _ _ ?_)
  have hW : ∀ i ∈ p, i.2 = false → Waits3 .any ops (needB3 .any ops p) i.1 := fun i hi h2 j hj => by
    unfold needB3 at hj
    simp only [Bool.not_eq_false'] at hj
    have := List.all_eq_true.1 hj i hi
    rw [h2] at this
    simpa using this
  have hg := wpGo3_pre hs hQ t p hW _ a w.drew closed_start hC hB h
  rw [List.length_map] at hl
  rw [hl] at hg
  exact hg

theorem wpPre3_nil {R : Act → Prop} {a : Act} (h : R a) : wpPre3 P ops C R [] a := h
theorem wpPre3_pure {R : Act → Prop} {a : Act} {i : Nat} {l : List (Nat × Bool)} {o : Oper} {v : Value} (ho : ops.toList[i]? = some o) (hg : o.guard = none)
    (hr : ∀ w, (execOp a.eval o).run P w = .ok (.value v) w) (h : wpPre3 P ops C R l (a.put o.dst v)) : wpPre3 P ops C R ((i, true) :: l) a :=
  ⟨o, v, by simpa using ho, .inl ⟨by simp [Region.wanted, hg], fun w _ => hr w⟩, h⟩
theorem wpPre3_read {R : Act → Prop} {a : Act} {i : Nat} {l : List (Nat × Bool)} {o : Oper} {v : Value} (ho : ops.toList[i]? = some o) (hg : o.guard = none)
    (hr : ∀ w, C w → (execOp a.eval o).run P w = .ok (.value v) w) (h : wpPre3 P ops C R l (a.put o.dst v)) : wpPre3 P ops C R ((i, false) :: l) a :=
  ⟨o, v, by simpa using ho, .inl ⟨by simp [Region.wanted, hg], fun w hw => hr w (by simpa using hw)⟩, h⟩
theorem wpTail3_nil {a : Act} {w : World} (h : Q .normal a w) : wpTail3 P ops C N Q [] a w := h
/-- At an operation of the rest; it keeps the class. -/
theorem wpTail3_cons {a : Act} {w : World} {i : Nat} {l : List Nat} {o : Oper} (ho : ops.toList[i]? = some o) (hg : o.guard = none)
    (h : ∀ K : Act → World → Prop, (∀ a' w', (C w → C w') ∧ wpTail3 P ops C N Q l a' w' → K a' w') → o.wp P a w K Q) : wpTail3 P ops C N Q (i :: l) a w := by
  have ho' : ops[i]? = some o := by simpa using ho
  unfold wpTail3 wpOp
  simp only [ho']
  rw [if_pos (by simp [Region.wanted, hg])]
  exact .inl (h _ (fun _ _ h => ⟨fun _ => h.1, h.2⟩))
/-- One that waits for all reads. -/
theorem wpTail3_last {a : Act} {w : World} {i : Nat} {l : List Nat} {o : Oper} (hn : N i = false) (ho : ops.toList[i]? = some o) (hg : o.guard = none)
    (h : ∀ K : Act → World → Prop, (∀ a w, wpTail3 P ops C N Q l a w → K a w) → o.wp P a w K Q) : wpTail3 P ops C N Q (i :: l) a w := by
  have ho' : ops[i]? = some o := by simpa using ho
  unfold wpTail3 wpOp
  simp only [ho']
  rw [if_pos (by simp [Region.wanted, hg])]
  exact .inl (h _ (fun _ _ h => ⟨fun hh => (by rw [hn] at hh; cases hh), h⟩))
end
end Go.Proofs.YtdpfohgkikjeaaaGreat
/- Regions that draw, a fourth time: behind the reads whatever may come up, one by one, by hand. -/
namespace Go.Proofs.YtdpfohgkikjeaaaGreat
open Go.RowKit
set_option linter.unusedVariables false
set_option linter.unusedSimpArgs false

section
variable {P : Program} {ops : Array Oper} {Q : Exit → Act → World → Prop} {md : Region.Mode} {C : World → Prop} {N : Nat → Bool}

def listAll (l : List Nat) (listed : Array Bool) : Array Bool := l.foldl (fun s i => s.setIfInBounds i true) listed

def preOnly (md : Region.Mode) (ops : Array Oper) : List Nat → Array Bool → Bool
  | [], _ => true
  | i :: l, listed => (Region.ready md ops listed).contains i && Region.free md ops listed i && preOnly md ops l (listed.setIfInBounds i true)

theorem wpGo3_pre' (hs : Region.noSelect ops = true) (hQ : ∀ c a d v w, Q (.panic c) (Act.put a d v) w → Q (.panic c) a w) (fuel : Nat) : ∀ (p : List (Nat × Bool)), (∀ i ∈ p, i.2 = false → Waits3 md ops N i.1) → ∀ (listed : Array Bool) (a : Act) (w : World), Closed md ops listed → C w →
    preOnly md ops (p.map (·.1)) listed = true → wpPre3 P ops C (fun a' => wpGo3 P md ops C N Q fuel (listAll (p.map (·.1)) listed) a' w) p a → wpGo3 P md ops C N Q (p.length + fuel) listed a w
  | [], _, listed, a, w, hcl, hC, hB, h => by
    simp only [List.length_nil, Nat.zero_add]
    exact h
  | i :: p, hW, listed, a, w, hcl, hC, hB, h => by
    simp only [List.map_cons, preOnly, Bool.and_eq_true] at hB
    obtain ⟨⟨hr, hf⟩, hB'⟩ := hB
    obtain ⟨o, v, ho, hy, hK⟩ := h
    have e : (i :: p).length + fuel = (p.length + fuel) + 1 := by simp; omega
    have hr' : i.1 ∈ Region.ready md ops listed := by simpa using hr
    rw [e]
    exact wpGo3_first i.2 ho (Region.noSelect_spec hs) (hW i (by simp)) (fun c a w => hQ c a _ _ w) _ listed a w hcl (fun _ => hC) (Region.free_spec ho hf) hr' hy
      (wpGo3_pre' hs hQ fuel p (fun k hk => hW k (by simp [hk])) _ _ w (hcl.step hr') hC hB' hK)

theorem wp_region4 {id : Nat} {a : Act} {w : World} (C : World → Prop) (p : List (Nat × Bool)) (fuel : Nat) (hm : P.follows .mixedOrders = true) (hB : (Region.noSelect ops && (p.length + fuel == ops.size) && preOnly .any ops (p.map (·.1)) (Array.replicate ops.size false)) = true)
    (hQ : ∀ c a d v w, Q (.panic c) (Act.put a d v) w → Q (.panic c) a w) (hC : C w.drew)
    (h : wpPre3 P ops C (fun a' => wpGo3 P .any ops C (needB3 .any ops p) Q fuel (listAll (p.map (·.1)) (Array.replicate ops.size false)) a' w.drew) p a) : (Code.region id ops true).wp P Q a w := by
  simp only [Bool.and_eq_true, beq_iff_eq] at hB
  obtain ⟨⟨hs, hl⟩, hB⟩ := hB
  refine wp_region_any hm (wpAny_of_go3 (C := C) (N := needB3 .any ops p) _ _ _ _ ?_)
  have hW : ∀ i ∈ p, i.2 = false → Waits3 .any ops (needB3 .any ops p) i.1 := fun i hi h2 j hj => by
    unfold needB3 at hj
    simp only [Bool.not_eq_false'] at hj
    have := List.all_eq_true.1 hj i hi
    rw [h2] at this
    simpa using this
  have hg := wpGo3_pre' hs hQ fuel p hW _ a w.drew closed_start hC hB h
  rw [hl] at hg
  exact hg

/-- One operation, whatever comes behind it. -/
def OpTo (P : Program) (ops : Array Oper) (C : World → Prop) (Q : Exit → Act → World → Prop) (i : Nat) (a : Act) (w : World) (K : Act → World → Prop) : Prop :=
  ∃ o, ops.toList[i]? = some o ∧ o.guard = none ∧ ∀ K' : Act → World → Prop, (∀ a' w', (C w → C w') ∧ K a' w' → K' a' w') → o.wp P a w K' Q

theorem OpTo.wpOp {i : Nat} {a : Act} {w : World} {K : Act → World → Prop} (h : OpTo P ops C Q i a w K) : wpOp P ops Q i (fun a' w' => (N i = true → C w → C w') ∧ K a' w') a w := by
  obtain ⟨o, ho, hg, h⟩ := h
  have ho' : ops[i]? = some o := by simpa using ho
  unfold Go.wpOp
  simp only [ho']
  rw [if_pos (by simp [Region.wanted, hg])]
  exact .inl (h _ (fun _ _ h => ⟨fun _ => h.1, h.2⟩))

theorem OpTo.mk {i : Nat} {a : Act} {w : World} {K : Act → World → Prop} {o : Oper} (ho : ops.toList[i]? = some o) (hg : o.guard = none) (h : ∀ K' : Act → World → Prop, (∀ a' w', (C w → C w') ∧ K a' w' → K' a' w') → o.wp P a w K' Q) : OpTo P ops C Q i a w K := ⟨o, ho, hg, h⟩

theorem wpGo3_nil {listed : Array Bool} {a : Act} {w : World} (hr : Region.ready md ops listed = []) (h : Q .normal a w) : wpGo3 P md ops C N Q 0 listed a w := ⟨hr, h⟩
theorem wpGo3_one {fuel : Nat} {listed : Array Bool} {a : Act} {w : World} (i : Nat) (hr : Region.ready md ops listed = [i]) (h : OpTo P ops C Q i a w (wpGo3 P md ops C N Q fuel (listed.setIfInBounds i true))) : wpGo3 P md ops C N Q (fuel + 1) listed a w :=
  ⟨fun h0 => (by rw [h0] at hr; cases hr), fun k hk => by
    rw [hr] at hk
    simp only [List.mem_cons, List.not_mem_nil, or_false] at hk
    subst hk
    exact h.wpOp⟩
theorem wpGo3_two {fuel : Nat} {listed : Array Bool} {a : Act} {w : World} (i j : Nat) (hr : Region.ready md ops listed = [i, j]) (h : OpTo P ops C Q i a w (wpGo3 P md ops C N Q fuel (listed.setIfInBounds i true))) (h' : OpTo P ops C Q j a w (wpGo3 P md ops C N Q fuel (listed.setIfInBounds j true))) : wpGo3 P md ops C N Q (fuel + 1) listed a w :=
  ⟨fun h0 => (by rw [h0] at hr; cases hr), fun k hk => by
    rw [hr] at hk
    simp only [List.mem_cons, List.not_mem_nil, or_false] at hk
    rcases hk with rfl | rfl
    · exact h.wpOp
    · exact h'.wpOp⟩
end
end Go.Proofs.YtdpfohgkikjeaaaGreat
/- Rows of acts. -/
namespace Go.Proofs.YtdpfohgkikjeaaaGreat
open Go.RowKit
set_option linter.unusedVariables false
set_option linter.unusedSimpArgs false

abbrev PAct.val (a : PAct) : Value := .agg #[.int .i64 (a.kind : Int), .int .i64 (a.at_ : Int), .string ⟨a.data.toArray⟩]
def actCells (a : PAct) : List Value := [.int .i64 (a.kind : Int), .int .i64 (a.at_ : Int), .string ⟨a.data.toArray⟩]
def actsCells (l : List PAct) : List Value := (l.map actCells).flatten
theorem actsCells_length (l : List PAct) : (actsCells l).length = l.length * 3 := by
  induction l with
  | nil => rfl
  | cons a l ih =>
    have e : actsCells (a :: l) = actCells a ++ actsCells l := rfl
    rw [e, List.length_append, ih]; simp [actCells]; omega
theorem actsCells_append (a b : List PAct) : actsCells (a ++ b) = actsCells a ++ actsCells b := by simp [actsCells]
theorem actsCells_one (l : List PAct) : ∀ u ∈ actsCells l, u.oneCell' = true := by
  intro u hu
  simp only [actsCells, List.mem_flatten, List.mem_map] at hu
  obtain ⟨_, ⟨a, _, rfl⟩, hu⟩ := hu
  simp only [actCells, List.mem_cons, List.not_mem_nil, or_false] at hu
  rcases hu with rfl | rfl | rfl <;> rfl

abbrev actT : TypeId := 80
theorem tyA : SliceTy Tryz.prog 97 actT 3 32 := SliceTy.mk' (z := .agg #[.int .i64 0, .int .i64 0, .string ⟨#[]⟩]) (by kernel_rfl) (by kernel_rfl) rfl (by decide)

/-- A slice that owns these acts. -/
abbrev ActsRow (w : World) (v : Value) (l : List PAct) : Prop := Row w actT 3 v l.length (actsCells l)
theorem ActsRow.nil (w : World) : ActsRow w (.slice none 0 0) [] := ⟨rfl, .inl ⟨rfl, rfl⟩⟩

theorem wpList_acts {w : World} {ops : Array Oper} {rest : List Oper} {o : Oper} {a : Act} {Q : Exit → Act → World → Prop} (hgd : o.guard = none) (s x : Operand) (ho : o.op = .call { callee := .builtin .append, args := #[s, x], argTypes := #[97, 97] })
    (v : Value) (l : List PAct) (hs : a.eval s = v) (hown : ActsRow w v l) (g m c : Nat) (news : List PAct) (hx : a.eval x = .slice (some ⟨g, 0, none⟩) m c) (hl : news.length = m) (hg : w.heap[g]? = some (.cells (actsCells news).toArray actT (0, 0))) (hn : l.length + m ≤ 1000000)
    (h : ∀ v' w', ActsRow w' v' (l ++ news) → Grew w w' v v' → wpList Tryz.prog ops Q rest (a.put o.dst v') w') : wpList Tryz.prog ops Q (o :: rest) a w := by
  refine wpList_app hgd s x 97 ho tyA v l.length (actsCells l) hs hown g 0 m c (actsCells news) hx (by rw [actsCells_length, hl]) (fun j u hj => ?_) (actsCells_one _) (by omega) (by omega) (fun v' w' hr hg => h v' w' ?_ hg)
  · rw [cells_of' hg]; simpa using hj
  · show Row w' actT 3 v' (l ++ news).length (actsCells (l ++ news))
    rw [List.length_append, hl, actsCells_append]; exact hr

theorem wp_acts {w : World} {o : Oper} {a : Act} {Q : Exit → Act → World → Prop} {K : Act → World → Prop} (s x : Operand) (ho : o.op = .call { callee := .builtin .append, args := #[s, x], argTypes := #[97, 97] })
    (v : Value) (l : List PAct) (hs : a.eval s = v) (hown : ActsRow w v l) (g m c : Nat) (news : List PAct) (hx : a.eval x = .slice (some ⟨g, 0, none⟩) m c) (hl : news.length = m) (hg : w.heap[g]? = some (.cells (actsCells news).toArray actT (0, 0))) (hn : l.length + m ≤ 1000000)
    (h : ∀ v' w', ActsRow w' v' (l ++ news) → Grew w w' v v' → K (a.put o.dst v') w') : o.wp Tryz.prog a w K Q := by
  obtain ⟨v', w', hr, h2, h3, _⟩ := run_app tyA o.type w v l.length (actsCells l) hown g 0 m c (actsCells news) (by rw [actsCells_length, hl]) (fun j u hj => by rw [cells_of' hg]; simpa using hj) (actsCells_one _) (by omega) (by omega)
  unfold Oper.wp execOp
  simp only [ho, resolve, invoke, builtin, Sem.run_bind, Sem.run_pure, Result.andThen_ok, List.map_toArray, List.map_cons, List.map_nil, hs, hx, hr]
  refine h v' w' ?_ h3
  show Row w' actT 3 v' (l ++ news).length (actsCells (l ++ news))
  rw [List.length_append, hl, actsCells_append]; exact h2

theorem pad_full {l : Str} (h : l.length = 64) : pad l = l := by simp [pad, h, zs]

theorem settle_act (w : World) : Calls Tryz.prog 117 #[] w fun e w' => e = .returned pSettle.val ∧ Kept no w w' := settle_any w
theorem write_act (p : Nat) (pI : Int) (hp : pI = (p : Int)) (s : Str) (w : World) (hs : s.length ≤ 64) : Calls Tryz.prog 119 #[.int .i64 pI, .string ⟨s.toArray⟩] w fun e w' => e = .returned (pWrite p s).val ∧ Kept no w w' := by
  subst hp
  refine (write_any p ⟨s.toArray⟩ w (by simpa [ByteArray.size] using hs)).mono ?_
  rintro e w' ⟨rfl, hk⟩
  exact ⟨rfl, hk⟩
theorem blot_act (h : Nat) (hI : Int) (hh : hI = (h : Int)) (w : World) (h1 : h ≤ 1) : Calls Tryz.prog 118 #[.int .i64 hI] w fun e w' => e = .returned (pWrite (40 * h) []).val ∧ Kept no w w' := by
  subst hh
  refine (blot_any h w (by omega) (by omega)).mono ?_
  rintro e w' ⟨rfl, hk⟩
  refine ⟨?_, hk⟩
  have e : (h : Int) * 40 = ((40 * h : Nat) : Int) := by omega
  rw [e]; rfl
end Go.Proofs.YtdpfohgkikjeaaaGreat
/- Acts: the walk. -/
namespace Go.Proofs.YtdpfohgkikjeaaaGreat
open Go.RowKit
set_option linter.unusedVariables false
set_option linter.unusedSimpArgs false

/-- In the midst of Acts: what was there is as it was; the slice owns these acts, and is new. -/
structure AS (w1 wx : World) (v : Value) (l : List PAct) : Prop where
  kept : Kept no w1 wx
  row : ActsRow wx v l
  fresh : ∀ x ∈ fpv v, w1.heap.size ≤ x

theorem AS.call {w1 wx wy v l} (a : AS w1 wx v l) (k : Kept no wx wy) : AS w1 wy v l := ⟨a.kept.step k, a.row.kept k (fun _ _ h => h), a.fresh⟩
theorem AS.alloc {w1 wx v l} (a : AS w1 wx v l) (o : Obj) : AS w1 (wx.alloc o) v l := a.call ((Kept.refl _ _).alloc o)
theorem AS.app {w1 wx wy v v' l news} (a : AS w1 wx v l) (h : ActsRow wy v' (l ++ news)) (g : Grew wx wy v v') : AS w1 wy v' (l ++ news) :=
  ⟨a.kept.step' g.1 (fun x hx hlt => by have := a.fresh x hx; omega), h, fun x hx => (g.2 x hx).elim (a.fresh x) (fun h => Nat.le_trans a.kept.size h)⟩
theorem AS.nil (w1 : World) : AS w1 w1 (.slice none 0 0) [] := ⟨Kept.refl _ _, ActsRow.nil _, by simp [fpv_nil]⟩

/-- The writer's four cells. -/
structure WrAt (w : World) (b o : Nat) (wr : Wr) : Prop where
  c0 : w.cell? ⟨b, o, none⟩ = some (.bool wr.known)
  c1 : w.cell? ⟨b, o + 1, none⟩ = some (.bool wr.unsettled)
  c2 : w.cell? ⟨b, o + 2, none⟩ = some (.int .i64 (wr.half : Int))
  c3 : w.cell? ⟨b, o + 3, none⟩ = some (.int .u64 (wr.number : Int))

theorem WrAt.kept {S : Blocks} {w w' : World} {b o : Nat} {wr : Wr} (h : WrAt w b o wr) (k : Kept S w w') (hb : ¬ S b) : WrAt w' b o wr := by
  have hlt := World.block_lt_of_cell? _ _ h.c0
  have e : ∀ i, w'.cell? ⟨b, i, none⟩ = w.cell? ⟨b, i, none⟩ := fun i => World.cell?_of_block (w := w) (k.block b hlt hb)
  exact ⟨by rw [e]; exact h.c0, by rw [e]; exact h.c1, by rw [e]; exact h.c2, by rw [e]; exact h.c3⟩

theorem head_stored {W : World} {Hb : Nat} {T : TypeId} {c0 c1 c2 c3 c4 v0 v1 v2 v3 v4 : Value} (h : W.heap[Hb]? = some (.cells #[c0, c1, c2, c3, c4] T (0, 0))) :
    (((((W.setCell ⟨Hb, 0, none⟩ v0).setCell ⟨Hb, 1, none⟩ v1).setCell ⟨Hb, 2, none⟩ v2).setCell ⟨Hb, 3, none⟩ v3).setCell ⟨Hb, 4, none⟩ v4).heap[Hb]? = some (.cells #[v0, v1, v2, v3, v4] T (0, 0)) ∧
    Kept (fun x => x = Hb) W (((((W.setCell ⟨Hb, 0, none⟩ v0).setCell ⟨Hb, 1, none⟩ v1).setCell ⟨Hb, 2, none⟩ v2).setCell ⟨Hb, 3, none⟩ v3).setCell ⟨Hb, 4, none⟩ v4) := by
  have e1 := heap_set_same (o := 0) (v := v0) h
  have e2 := heap_set_same (o := 1) (v := v1) e1
  have e3 := heap_set_same (o := 2) (v := v2) e2
  have e4 := heap_set_same (o := 3) (v := v3) e3
  have e5 := heap_set_same (o := 4) (v := v4) e4
  exact ⟨by rw [e5]; simp, (((Kept.cell1.step Kept.cell1).step Kept.cell1).step Kept.cell1).step Kept.cell1⟩

theorem AS.made {w1 wx v l} (a : AS w1 wx v l) (o : Obj) : (wx.alloc o).heap[wx.heap.size]? = some o ∧ AS w1 (wx.alloc o) v l ∧ (∀ x ∈ fpv v, x ≠ wx.heap.size) ∧ w1.heap.size ≤ wx.heap.size :=
  ⟨heap_alloc_same, a.alloc o, fun x hx e => by have := a.row.lt x hx; omega, a.kept.size⟩

/-- A store into a block that is newer than the slice. -/
theorem AS.turned {w1 wx wy v l} {Hb : Nat} (a : AS w1 wx v l) (h : ∀ x ∈ fpv v, x ≠ Hb) (hge : w1.heap.size ≤ Hb) (k : Kept (fun x => x = Hb) wx wy) : AS w1 wy v l :=
  ⟨a.kept.step' k (fun x hx hlt => by omega), a.row.kept k (fun x hx e => h x hx e), a.fresh⟩

theorem hold {p : Prop} (h : Hid p) : p := h

set_option maxHeartbeats 2000000 in
set_option maxRecDepth 100000 in
theorem acts_any (b o : Nat) (wq : Wr) (t : Str) (file : Mark) (w : World) (hw : WrAt w b o wq) (hh : wq.half ≤ 1) (hn : wq.number < 18446744073709551616) (ht : t.length ≤ 2460) (hf : file.sum < 4294967296) (hl0 : -9223372036854775808 ≤ file.len) (hl1 : file.len < 9223372036854775808) :
    Calls Tryz.prog 86 #[.pointer (some ⟨b, o, none⟩), .string ⟨t.toArray⟩, .agg #[.int .i64 file.len, .int .u32 (file.sum : Int)]] w fun e w' => ∃ v, e = .returned v ∧ ActsRow w' v (wq.acts t file) ∧ Kept no w w' ∧ ∀ x ∈ fpv v, w.heap.size ≤ x := by
  go_enter Tryz.func86, Tryz.ntmps86
  go_wp2_with fail
  obtain ⟨hn1, hsz1, hk1⟩ := new1 w (Obj.cells #[.int .i64 file.len, .int .u32 (file.sum : Int)] 93)
  have hw1 := hw.kept hk1 (fun h => h)
  generalize hB : w.heap.size = B at hn1 hsz1 ⊢
  generalize w.alloc (Obj.cells #[.int .i64 file.len, .int .u32 (file.sum : Int)] 93) = w1 at hn1 hsz1 hk1 hw1 ⊢
  refine (next_any b o wq.half wq.number w1 hw1.c2 hw1.c3 (by omega) (by omega) hn).mono ?_
  rintro e w2 ⟨rfl, hnx⟩
  have hk12 : Kept no w1 w2 := by obtain ⟨j, rfl⟩ := hnx; exact (Kept.refl _ _).drewN j
  clear hnx
  have hA2 := (AS.nil w1).call hk12
  have hw2 := hw1.kept hk12 (fun h => h)
  have hh1 : (1 : Int) - (wq.half : Int) = ((1 - wq.half : Nat) : Int) := by omega
  rw [hh1]
  obtain ⟨hc0, hc1, hc2, hc3⟩ := hw2
  go_upto_if 21 with fail
  generalize Value.slice none 0 0 = v0 at hA2 ⊢
  go_cut [9] (fun s9 wx => AS w1 wx s9 (if wq.unsettled then [pSettle] else []))
  case first =>
    cases hu : wq.unsettled with
    | false =>
      rw [hu] at hc1
      go_wp2
      go_meet
      case rel => rw [if_neg (by simp [hu])]; exact hA2
    | true =>
      rw [hu] at hc1
      go_wp2_with fail
      refine (settle_act _).mono ?_
      rintro e w3 ⟨rfl, hk3⟩
      have hA3 := hA2.call hk3
      go_wp2_with (at_builtin; apply hold)
      delta Hid
      refine wpList_acts rfl _ _ rfl _ _ rfl (hA3.alloc _).row _ 1 1 [pSettle] rfl rfl (by rw [heap_alloc_same]; rfl) (by simp) (fun v' w' hr hg => ?_)
      have hA4 := (hA3.alloc _).app hr hg
      go_wp2
      go_meet
      case rel => rw [if_pos hu]; exact hA4
  case rest =>
    have hw2 : WrAt wc b o wq := hw1.kept hcut.kept (fun h => h)
    generalize hacts : (if wq.unsettled = true then [pSettle] else []) = l1 at hcut
    have HL1 : Hid ((if wq.unsettled = true then [pSettle] else []) = l1) := hacts
    have hL1 : l1.length ≤ 1 := by rw [← hacts]; split <;> simp
    clear hacts hA2 hc0 hc1 hc2 hc3
    obtain ⟨hc0, hc1, hc2, hc3⟩ := hw2
    go_wp2_with fail
    refine (blot_act (1 - wq.half) _ rfl _ (by omega)).mono ?_
    rintro e w3 ⟨rfl, hk3⟩
    have hA3 := hcut.call hk3
    go_wp2_with (at_builtin; apply hold)
    delta Hid
    refine wpList_acts rfl _ _ rfl _ _ rfl (hA3.alloc _).row _ 1 1 [pWrite (40 * (1 - wq.half)) []] rfl rfl (by rw [heap_alloc_same]; rfl) (by omega) (fun v4 w4 hr hg => ?_)
    have hA4 := (hA3.alloc _).app hr hg
    clear hr hg hA3
    have hw4 := hw1.kept hA4.kept (fun h => h)
    go_upto_if 32 with (go_at_call 58; refine (fresh_any b o wq.known w4 hw4.c0).mono ?_; rintro e w5 ⟨rfl, rfl⟩)
    go_cut [9] (fun s9 wx => AS w1 wx s9 (l1 ++ [pWrite (40 * (1 - wq.half)) []] ++ (if wq.known then [] else [pWrite (40 * wq.half) []])))
    case first =>
      cases hu : wq.known with
      | true =>
        go_wp2
        go_meet
        case rel => rw [if_pos hu, List.append_nil]; exact hA4
      | false =>
        have hh2 : (1 : Int) - (((1 - wq.half : Nat) : Int)) = ((wq.half : Nat) : Int) := by omega
        have hsub : IntKind.i64.wrap ((1 : Int) - (((1 - wq.half : Nat) : Int))) = ((wq.half : Nat) : Int) := by rw [IntKind.wrap_i64]; omega
        go_wp2_with fail
        refine (blot_act wq.half _ (by omega) _ hh).mono ?_
        rintro e w6 ⟨rfl, hk6⟩
        have hA6 := hA4.call hk6
        go_wp2_with (at_builtin; apply hold)
        delta Hid
        refine wpList_acts rfl _ _ rfl _ _ rfl (hA6.alloc _).row _ 1 1 [pWrite (40 * wq.half) []] rfl rfl (by rw [heap_alloc_same]; rfl) (by simp only [List.length_append, List.length_cons, List.length_nil]; omega) (fun v7 w7 hr hg => ?_)
        have hA7 := (hA6.alloc _).app hr hg
        go_wp2
        go_meet
        case rel => rw [if_neg (by simp [hu])]; exact hA7
    case rest =>
      clear hA4 hw4 hc0 hc1 hc2 hc3
      generalize hacts : l1 ++ [pWrite (40 * (1 - wq.half)) []] ++ (if wq.known = true then [] else [pWrite (40 * wq.half) []]) = l2 at hcut
      have HL2 : Hid (l1 ++ [pWrite (40 * (1 - wq.half)) []] ++ (if wq.known = true then [] else [pWrite (40 * wq.half) []]) = l2) := hacts
      have hL2 : l2.length ≤ 3 := by rw [← hacts]; simp only [List.length_append, List.length_cons, List.length_nil]; split <;> simp <;> omega
      clear hacts
      go_wp2_with fail
      refine (settle_act _).mono ?_
      rintro e w8 ⟨rfl, hk8⟩
      have hA8 := hcut.call hk8
      go_wp2_with (at_builtin; apply hold)
      delta Hid
      refine wpList_acts rfl _ _ rfl _ _ rfl (hA8.alloc _).row _ 1 1 [pSettle] rfl rfl (by rw [heap_alloc_same]; rfl) (by omega) (fun v9 w9 hr hg => ?_)
      have hA9 := (hA8.alloc _).app hr hg
      clear hr hg hA8
      go_wp2
      go_loopw [9, 10] (fun s9 s10 wx => ∃ j : Nat, j ≤ nPieces t ∧ s10 = .int .i64 ((64 * j : Nat) : Int) ∧ AS w1 wx s9 (l2 ++ [pSettle] ++ (bodyActs (1 - wq.half) t).take j)) (fun _ s10 _ => t.length + 64 - (intOf s10).toNat)
      case atStart => exact ⟨0, Nat.zero_le _, rfl, by simpa using hA9⟩
      case round =>
        obtain ⟨j, hj, rfl, hAj⟩ := hrel
        generalize hp : 64 * j = p
        have HP : Hid (64 * j = p) := hp
        by_cases hlt : p < t.length
        · have hjn : j < nPieces t := by unfold nPieces; omega
          have hlti : (p : Int) < (t.length : Int) := by omega
          have hdiv : (p : Int) / 64 = (j : Int) := by omega
          obtain ⟨m, hm⟩ : ∃ m, m = min (p + 64) t.length := ⟨_, rfl⟩
          have hmin : min ((p : Int) + 64) (t.length : Int) = (m : Int) := by omega
          have hm1 : p ≤ m := by omega
          have hm2 : m ≤ t.length := by omega
          have HM : Hid (m = min (p + 64) t.length) := hm
          clear hm hp
          have hj39 : j ≤ 39 := by unfold nPieces at hjn; omega
          have hcut' : ({ data := t.toArray } : ByteArray).extract p m = ⟨((t.drop p).take 64).toArray⟩ := by
            rw [extract_list]
            have e : ((t.toArray.toList.take m).drop p) = (t.drop p).take 64 := by
              show (t.take m).drop p = _
              rw [List.drop_take]
              rcases Nat.lt_or_ge t.length (p + 64) with h1 | h1
              · have : m - p = (t.drop p).length := by rw [List.length_drop, HM.out]; omega
                rw [this, List.take_length, List.take_of_length_le (by rw [List.length_drop]; omega)]
              · rw [HM.out, show min (p + 64) t.length - p = 64 by omega]
            rw [e]
          have HC : Hid (({ data := t.toArray } : ByteArray).extract p m = ⟨((t.drop p).take 64).toArray⟩) := hcut'
          clear hcut'
          go_wp2_with fail
          refine (bodyAt_any ((1 - wq.half : Nat) : Int) wr (by omega) (by omega)).mono ?_
          rintro e w10 ⟨rfl, hwe⟩
          rw [hwe, HC.out]
          clear hwe
          have hwa : IntKind.i64.wrap ((((1 - wq.half : Nat) : Int) * 40 + 1) + (j : Int)) = (((1 - wq.half : Nat) : Int) * 40 + 1) + (j : Int) := by rw [IntKind.wrap_i64]; omega
          go_wp2_with fail
          refine (write_act (40 * (1 - wq.half) + 1 + j) _ (by omega) ((t.drop p).take 64) _ (by rw [List.length_take]; omega)).mono ?_
          rintro e w11 ⟨rfl, hk11⟩
          have hA11 := hAj.call hk11
          have hllen : (l2 ++ [pSettle] ++ (bodyActs (1 - wq.half) t).take j).length ≤ 100 := by simp only [List.length_append, List.length_cons, List.length_nil, List.length_take]; omega
          go_wp2_with (at_builtin; apply hold)
          delta Hid
          refine wpList_acts rfl _ _ rfl _ _ rfl (hA11.alloc _).row _ 1 1 [pWrite (40 * (1 - wq.half) + 1 + j) ((t.drop p).take 64)] rfl rfl (by rw [heap_alloc_same]; rfl) (by omega) (fun v12 w12 hr hg => ?_)
          have hA12 := (hA11.alloc _).app hr hg
          clear hr hg hA11
          have hw64 : IntKind.i64.wrap ((p : Int) + 64) = (p : Int) + 64 := by rw [IntKind.wrap_i64]; omega
          go_wp2
          go_roundw
          case rel =>
            refine ⟨j + 1, hjn, by rw [← HP.out]; go_num, ?_⟩
            have hg := bodyActs_get (1 - wq.half) t hjn
            have e : (bodyActs (1 - wq.half) t).take (j + 1) = (bodyActs (1 - wq.half) t).take j ++ [pWrite (40 * (1 - wq.half) + 1 + j) ((t.drop p).take 64)] := by
              rw [List.take_add_one, hg, HP.out]; rfl
            rw [e, ← List.append_assoc]
            exact hA12
          case measure => simp [intOf]; omega
        · have hnlt : ¬ (p : Int) < (t.length : Int) := by omega
          have hjn : j = nPieces t := by unfold nPieces at *; omega
          clear hp
          go_wp2_with fail
          have hfull : (bodyActs (1 - wq.half) t).take j = bodyActs (1 - wq.half) t := List.take_of_length_le (by rw [bodyActs_length]; omega)
          rw [hfull] at hAj
          clear hfull hjn hnlt HP hA9
          generalize hacts : l2 ++ [pSettle] ++ bodyActs (1 - wq.half) t = l3 at hAj
          have HL3 : Hid (l2 ++ [pSettle] ++ bodyActs (1 - wq.half) t = l3) := hacts
          have hL3 : l3.length ≤ 60 := by rw [← hacts]; simp only [List.length_append, bodyActs_length, List.length_cons, List.length_nil]; unfold nPieces; omega
          clear hacts
          have hcB := hAj.kept.get hn1 (fun h => h)
          go_cut [12] (fun s12 wx => ∃ Hb, s12 = .pointer (some ⟨Hb, 0, none⟩) ∧ wx.heap[Hb]? = some (.cells (Head.cells (wq.head t file)) 164 (0, 0)) ∧ AS w1 wx u9 l3)
          case first =>
            refine wp_region4 (fun W => W.heap[B]? = some (.cells #[.int .i64 file.len, .int .u32 (file.sum : Int)] 93 (0, 0))) [(0, true), (1, true), (3, false)] 4 (by kernel_rfl) (by kernel_rfl) (fun _ _ d _ _ h => by cases d <;> exact h) hcB ?_
            repeat ((first | refine wpPre3_pure rfl rfl (fun W => (by go_simp; rfl)) ?_ | refine wpPre3_read rfl rfl (fun W hW => (by obtain ⟨hc, _⟩ := cells_of hW; go_simp; rfl)) ?_); simp only [Act.put, List.setIfInBounds_toArray, List.set])
            refine wpPre3_nil ?_
            refine wpGo3_two 2 5 (by kernel_rfl) (OpTo.mk rfl rfl (fun K hK => ?_)) (OpTo.mk rfl rfl (fun K hK => ?_))
            · go_wp2_with fail
              refine (markOf_any ⟨t.toArray⟩ _ (by simpa [ByteArray.size] using (by omega : t.length ≤ 140737488355328))).mono ?_
              rintro e Wm ⟨rfl, hkm⟩
              have hAm := hAj.call hkm.of_drew
              refine hK _ _ ⟨fun h => hkm.get h (fun h => h), ?_⟩
              clear hK
              refine wpGo3_two 4 5 (by kernel_rfl) (OpTo.mk rfl rfl (fun K hK => ?_)) (OpTo.mk rfl rfl (fun K hK => ?_))
              · go_wp2_with fail
                refine wpGo3_one 5 (by kernel_rfl) (OpTo.mk rfl rfl (fun K hK => ?_))
                go_wp2_with fail
                obtain ⟨hz, hA3, hHb, hge⟩ := hAm.made (Obj.cells #[.int .u64 0, .int .i64 0, .int .u32 0, .int .i64 0, .int .u32 0] 164)
                refine ⟨fun h => (heap_alloc_lt (lt_of_heap h)).trans h, ?_⟩
                generalize Wm.alloc (Obj.cells #[.int .u64 0, .int .i64 0, .int .u32 0, .int .i64 0, .int .u32 0] 164) = W3 at hz hA3 ⊢
                generalize Wm.heap.size = Hb at hz hHb hge ⊢
                obtain ⟨hcz, hfz⟩ := cells_of hz
                refine wpGo3_one 6 (by kernel_rfl) (OpTo.mk rfl rfl (fun K hK => ?_))
                go_wp2_with fail
                obtain ⟨hs1, hs2⟩ := head_stored (v0 := .int .u64 (((wq.number : Int) + 1) % 18446744073709551616)) (v1 := .int .i64 (t.length : Int)) (v2 := .int .u32 (crc t : Int)) (v3 := .int .i64 file.len) (v4 := .int .u32 (file.sum : Int)) hz
                refine ⟨fun h => hs2.get h (fun e => by omega), ?_⟩
                refine wpGo3_nil (by kernel_rfl) ?_
                go_wp2
                go_meet
                case rel => exact ⟨Hb, rfl, hs1, hA3.turned hHb hge hs2⟩

              · go_wp2_with fail
                obtain ⟨hz, hA3, hHb, hge⟩ := hAm.made (Obj.cells #[.int .u64 0, .int .i64 0, .int .u32 0, .int .i64 0, .int .u32 0] 164)
                refine ⟨fun h => (heap_alloc_lt (lt_of_heap h)).trans h, ?_⟩
                generalize Wm.alloc (Obj.cells #[.int .u64 0, .int .i64 0, .int .u32 0, .int .i64 0, .int .u32 0] 164) = W3 at hz hA3 ⊢
                generalize Wm.heap.size = Hb at hz hHb hge ⊢
                obtain ⟨hcz, hfz⟩ := cells_of hz
                refine wpGo3_one 4 (by kernel_rfl) (OpTo.mk rfl rfl (fun K hK => ?_))
                go_wp2_with fail
                refine ⟨fun h => h, ?_⟩
                refine wpGo3_one 6 (by kernel_rfl) (OpTo.mk rfl rfl (fun K hK => ?_))
                go_wp2_with fail
                obtain ⟨hs1, hs2⟩ := head_stored (v0 := .int .u64 (((wq.number : Int) + 1) % 18446744073709551616)) (v1 := .int .i64 (t.length : Int)) (v2 := .int .u32 (crc t : Int)) (v3 := .int .i64 file.len) (v4 := .int .u32 (file.sum : Int)) hz
                refine ⟨fun h => hs2.get h (fun e => by omega), ?_⟩
                refine wpGo3_nil (by kernel_rfl) ?_
                go_wp2
                go_meet
                case rel => exact ⟨Hb, rfl, hs1, hA3.turned hHb hge hs2⟩

            · go_wp2_with fail
              obtain ⟨hz', hA3', hHb, hge⟩ := hAj.made (Obj.cells #[.int .u64 0, .int .i64 0, .int .u32 0, .int .i64 0, .int .u32 0] 164)
              have hz0 : ((wr.alloc (Obj.cells #[.int .u64 0, .int .i64 0, .int .u32 0, .int .i64 0, .int .u32 0] 164)).drew).heap[wr.heap.size]? = some (Obj.cells #[.int .u64 0, .int .i64 0, .int .u32 0, .int .i64 0, .int .u32 0] 164) := hz'
              have hA30 : AS w1 ((wr.alloc (Obj.cells #[.int .u64 0, .int .i64 0, .int .u32 0, .int .i64 0, .int .u32 0] 164)).drew) u9 l3 := hA3'.call ((Kept.refl _ _).drew)
              refine ⟨fun h => (heap_alloc_lt (w := wr) (lt_of_heap (w := wr) h)).trans h, ?_⟩
              generalize (wr.alloc (Obj.cells #[.int .u64 0, .int .i64 0, .int .u32 0, .int .i64 0, .int .u32 0] 164)).drew = W3 at hz0 hA30 ⊢
              generalize wr.heap.size = Hb at hz0 hHb hge ⊢
              clear hz' hA3'
              refine wpGo3_one 2 (by kernel_rfl) (OpTo.mk rfl rfl (fun K hK => ?_))
              go_wp2_with fail
              refine (markOf_any ⟨t.toArray⟩ _ (by simpa [ByteArray.size] using (by omega : t.length ≤ 140737488355328))).mono ?_
              rintro e Wm ⟨rfl, hkm⟩
              have hA3 := hA30.call hkm
              have hz := hkm.get hz0 (fun h => h)
              refine hK _ _ ⟨fun h => hkm.get h (fun h => h), ?_⟩
              clear hK hz0 hA30
              obtain ⟨hcz, hfz⟩ := cells_of hz
              refine wpGo3_one 4 (by kernel_rfl) (OpTo.mk rfl rfl (fun K hK => ?_))
              go_wp2_with fail
              try refine ⟨fun h => h, ?_⟩
              refine wpGo3_one 6 (by kernel_rfl) (OpTo.mk rfl rfl (fun K hK => ?_))
              go_wp2_with fail
              obtain ⟨hs1, hs2⟩ := head_stored (v0 := .int .u64 (((wq.number : Int) + 1) % 18446744073709551616)) (v1 := .int .i64 (t.length : Int)) (v2 := .int .u32 (crc t : Int)) (v3 := .int .i64 file.len) (v4 := .int .u32 (file.sum : Int)) hz
              refine ⟨fun h => hs2.get h (fun e => by omega), ?_⟩
              refine wpGo3_nil (by kernel_rfl) ?_
              go_wp2
              go_meet
              case rel => exact ⟨Hb, rfl, hs1, hA3.turned hHb hge hs2⟩

          case rest =>
            obtain ⟨Hb, rfl, hcells, hA⟩ := hcut
            have hok : (wq.head t file).Ok := ⟨fits_next wq, crc_lt t, hf⟩
            have hacts : wq.acts t file = l3 ++ [pSettle, ⟨1, 40 * (1 - wq.half), headBytes (wq.head t file)⟩, pSettle] := by
              rw [acts_eq, ← HL3.out, ← HL2.out, ← HL1.out]
              simp [tail3, Wr.head]
            generalize wq.head t file = hd at hcells hok hacts
            have HA : Hid (wq.acts t file = l3 ++ [pSettle, ⟨1, 40 * (1 - wq.half), headBytes hd⟩, pSettle]) := hacts
            clear hacts
            simp only [Head.cells] at hcells
            go_wp2_with fail
            refine wp_region3 (fun W => W.heap[Hb]? = some (.cells #[.int .u64 hd.number, .int .i64 hd.text.len, .int .u32 hd.text.sum, .int .i64 hd.file.len, .int .u32 hd.file.sum] 164 (0, 0))) [(0, true), (2, true), (4, false)] [1, 3, 5, 6, 7, 8, 9, 10] (by kernel_rfl) (by kernel_rfl) (fun _ _ d _ _ h => by cases d <;> exact h) hcells ?_
            repeat ((first | refine wpPre3_pure rfl rfl (fun W => (by go_simp; rfl)) ?_ | refine wpPre3_read rfl rfl (fun W hW => (by obtain ⟨hc, _⟩ := cells_of hW; go_simp; rfl)) ?_); simp only [Act.put, List.setIfInBounds_toArray, List.set])
            refine wpPre3_nil ?_
            refine wpTail3_cons rfl rfl (fun K hK => ?_)
            go_wp2_with fail
            refine (settle_act _).mono ?_
            rintro e x1 ⟨rfl, hx1⟩
            have hB1 := hA.call hx1.of_drew
            refine hK _ _ ⟨fun h => hx1.get h (fun h => h), ?_⟩
            clear hK
            refine wpTail3_cons rfl rfl (fun K hK => ?_)
            go_wp2_with fail
            refine (headAt_any _ _ (by omega) (by omega)).mono ?_
            rintro e x1b ⟨rfl, hwe⟩
            rw [hwe]
            clear hwe
            refine hK _ _ ⟨fun h => h, ?_⟩
            clear hK
            refine wpTail3_last (by kernel_rfl) rfl rfl (fun K hK => ?_)
            go_wp2_with fail
            refine (sector_any hd _ hok).mono ?_
            rintro e x2 ⟨rfl, hx2⟩
            have hB2 := hB1.call hx2
            refine hK _ _ ?_
            clear hK
            refine wpTail3_last (by kernel_rfl) rfl rfl (fun K hK => ?_)
            go_wp2_with fail
            refine (write_act (40 * (1 - wq.half)) _ (by omega) (headBytes hd) _ (by rw [headBytes_length]; omega)).mono ?_
            rintro e x3 ⟨rfl, hx3⟩
            have hB3 := hB2.call hx3
            refine hK _ _ ?_
            clear hK
            refine wpTail3_last (by kernel_rfl) rfl rfl (fun K hK => ?_)
            go_wp2_with fail
            refine (settle_act _).mono ?_
            rintro e x4 ⟨rfl, hx4⟩
            have hB4 := hB3.call hx4
            refine hK _ _ ?_
            clear hK
            refine wpTail3_last (by kernel_rfl) rfl rfl (fun K hK => ?_)
            go_wp2_with fail
            have hpf : pWrite (40 * (1 - wq.half)) (headBytes hd) = ⟨1, 40 * (1 - wq.half), headBytes hd⟩ := by simp only [pWrite]; rw [pad_full (headBytes_length _)]
            rw [hpf]
            have hB5 := hB4.alloc (Obj.cells (actsCells [pSettle, ⟨1, 40 * (1 - wq.half), headBytes hd⟩, pSettle]).toArray actT)
            refine wpTail3_last (by kernel_rfl) rfl rfl (fun K hK => ?_)
            refine wp_acts _ _ rfl _ _ rfl hB5.row _ 3 3 [pSettle, ⟨1, 40 * (1 - wq.half), headBytes hd⟩, pSettle] rfl rfl heap_alloc_same (by omega) (fun v6 x6 hr hg => ?_)
            have hB6 := hB5.app hr hg
            refine hK _ _ ?_
            clear hK
            refine wpTail3_last (by kernel_rfl) rfl rfl (fun K hK => ?_)
            go_wp2_with fail
            refine wpTail3_nil ?_
            go_wp2
            go_ret
            refine ⟨v6, rfl, ?_, hk1.step hB6.kept, fun x hx => ?_⟩
            · rw [HA.out]; exact hB6.row
            · have := hB6.fresh x hx; omega
end Go.Proofs.YtdpfohgkikjeaaaGreat

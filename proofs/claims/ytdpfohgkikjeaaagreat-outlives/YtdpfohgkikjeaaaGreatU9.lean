/- Part 9 of the proof: see its parts. -/
import Derived.Test.YtdpfohgkikjeaaaGreatU2
import Derived.Test.YtdpfohgkikjeaaaGreatU3
import Derived.Test.YtdpfohgkikjeaaaGreatU6
import Derived.Test.YtdpfohgkikjeaaaGreatU8
/- nought, line, file, one. -/
namespace Go.Proofs.YtdpfohgkikjeaaaGreat
open Go.RowKit
set_option linter.unusedVariables false
set_option linter.unusedSimpArgs false

theorem infoU8 : (Tryz.prog.info? 5).map (fun i => (i.zero, i.size, i.bytes)) = some (some (.int .u8 0), 1, 1) := by kernel_rfl

theorem make_bytes (n : Nat) (h : n ≤ 1000) (u : World) : (Instr.makeSlice 56 (.int .i64 (n : Int)) (.int .i64 (n : Int))).run Tryz.prog u =
    .ok (.slice (some ⟨u.heap.size, 0, none⟩) n n) (u.alloc (.cells (bcells (zs n)).toArray 5)) := by
  obtain ⟨i0, hi, hz0, hz1, hz2⟩ := info_parts infoU8
  have h := run_make (P := Tryz.prog) u 56 5 i0 (.int .u8 0) Tryz.underlying56 hi hz0 .i64 .i64 (n : Int) (n : Int) (by omega) (Int.le_refl _) (by rw [hz2]; omega) (by omega)
  rw [h]
  have e : madeCells (Value.int IntKind.u8 0).cells ((n : Int).toNat * i0.size) = (bcells (zs n)).toArray := by
    rw [hz1, Nat.mul_one, Int.toNat_natCast]
    apply Array.toList_inj.1
    rw [show (Value.int IntKind.u8 0).cells = #[Value.int IntKind.u8 0] from rfl, toList_madeCells_one]
    simp [bcells, zs]
  rw [e]
  simp

theorem nought_any (w : World) : Calls Tryz.prog 60 #[] w fun e w' => e = .returned (sv blank) ∧ Kept no w w' := by
  obtain ⟨b, hb⟩ : ∃ b, b = blank := ⟨_, rfl⟩
  have hbl : b = zs 64 := by rw [hb]; rfl
  obtain ⟨C, hC⟩ : ∃ C, C = (bcells (zs 64)).toArray := ⟨_, rfl⟩
  have hmk : ∀ u : World, (Instr.makeSlice 56 (.int .i64 64) (.int .i64 64)).run Tryz.prog u = .ok (.slice (some ⟨u.heap.size, 0, none⟩) 64 64) (u.alloc (.cells C 5)) := fun u => by
    rw [hC]; exact make_bytes 64 (by decide) u
  have hcv : (convert 56 9 (.slice (some ⟨w.heap.size, 0, none⟩) 64 64)).run Tryz.prog (w.alloc (.cells C 5)) = .ok (sv b) (w.alloc (.cells C 5)) := by
    have hB : BytesAt (w.alloc (.cells C 5)) w.heap.size 0 b := by
      rw [hbl, hC]; exact BytesAt.of_row heap_alloc_same (fun j v h => by simpa using h)
    have := run_bytes_str (P := Tryz.prog) _ _ 9 _ _ _ 64 _ Tryz.underlying56 Tryz.underlying5 Tryz.underlying9 hB
    have hl : b.length = 64 := by rw [hbl]; exact zs_length 64
    rw [hl] at this
    exact this
  rw [← hb]
  clear hb hbl hC
  go_enter Tryz.func60, Tryz.ntmps60
  go_wp2_with fail
  go_ret
  exact ⟨rfl, (Kept.refl _ _).alloc _⟩

theorem tdiv_bd {c : Int} (hc : RawOk c) : -300000000000000000 ≤ c.tdiv 41 ∧ c.tdiv 41 ≤ 300000000000000000 := by
  obtain ⟨h1, h2⟩ := hc
  by_cases h : 0 ≤ c
  · rw [Int.tdiv_eq_ediv_of_nonneg h]; omega
  · have := Int.neg_tdiv (a := -c) (b := 41)
    rw [Int.neg_neg] at this
    rw [this, Int.tdiv_eq_ediv_of_nonneg (by omega)]; omega

/-- What stands in the row of a line that is being made. -/
def lineAt (c : Int) (k : Nat) : Str := ((List.range k).map (lineByte c)) ++ zs (pickN c 41 - k)
theorem lineAt_length (c : Int) {k : Nat} (h : k ≤ pickN c 41) : (lineAt c k).length = pickN c 41 := by simp [lineAt, zs]; omega
theorem lineAt_zero (c : Int) : lineAt c 0 = zs (pickN c 41) := by simp [lineAt]
theorem lineAt_end (c : Int) : lineAt c (pickN c 41) = lineN c := by simp [lineAt, lineN, zs]
theorem lineAt_set (c : Int) {k : Nat} (h : k < pickN c 41) : (lineAt c k).set k (lineByte c k) = lineAt c (k + 1) := by
  unfold lineAt
  rw [List.set_append_right _ _ (by simp)]
  have e : zs (pickN c 41 - k) = 0 :: zs (pickN c 41 - (k + 1)) := by
    rw [show pickN c 41 - k = (pickN c 41 - (k + 1)) + 1 by omega]; rfl
  rw [e, List.range_succ]
  simp
theorem bcells_set (l : Str) (k : Nat) (b : UInt8) : (bcells l).set k (.int .u8 (b.toNat : Int)) = bcells (l.set k b) := by simp [bcells, List.map_set]
theorem bcells_setIf (l : Str) (k : Nat) (b : UInt8) : (bcells l).toArray.setIfInBounds k (.int .u8 (b.toNat : Int)) = (bcells (l.set k b)).toArray := by
  rw [List.setIfInBounds_toArray, bcells_set]

set_option maxHeartbeats 1000000 in
theorem line_any (c : Int) (hc : RawOk c) (w : World) : Calls Tryz.prog 26 #[.int .i64 c] w fun e w' => e = .returned (sv (lineN c)) ∧ Kept no w w' := by
  have hn := pickN_lt c (n := 41) (by decide)
  have hpk := pick_keep c 41 41 rfl hc (by decide) (by decide)
  obtain ⟨hq1, hq2⟩ := tdiv_bd hc
  have h0 := lineAt_zero c
  have hend := lineAt_end c
  have hlen : ∀ k, k ≤ pickN c 41 → (lineAt c k).length = pickN c 41 := fun k hk => lineAt_length c hk
  have hset : ∀ k, k < pickN c 41 → (lineAt c k).set k (lineByte c k) = lineAt c (k + 1) := fun k hk => lineAt_set c hk
  have HS : Hid (∀ k, k < pickN c 41 → (lineAt c k).set k (lineByte c k) = lineAt c (k + 1)) := hset
  have HE : Hid (lineAt c (pickN c 41) = lineN c) := hend
  have HL : Hid (∀ k, k ≤ pickN c 41 → (lineAt c k).length = pickN c 41) := hlen
  have HC : Hid (RawOk c) := hc
  clear hset hend hlen hc
  generalize pickN c 41 = n at *
  have hmk := make_bytes n (by omega)
  rw [← h0] at hmk
  clear h0
  go_enter Tryz.func26, Tryz.ntmps26
  go_wp2_with fail
  refine (hpk w).mono ?_
  rintro e w1 ⟨rfl, hw⟩
  rw [hw]
  clear hw hpk
  go_wp2_with fail
  obtain ⟨hn1, hsz1, hk1⟩ := new1 w (Obj.cells (bcells (lineAt c 0)).toArray 5)
  generalize hG : w.heap.size = g at hn1 hsz1 ⊢
  generalize w.alloc (Obj.cells (bcells (lineAt c 0)).toArray 5) = w1 at hn1 hsz1 hk1 ⊢
  clear hmk
  go_loopw [5] (fun s5 wr => ∃ k : Nat, k ≤ n ∧ s5 = .int .i64 ((k : Nat) : Int) ∧ wr.heap[g]? = some (.cells (bcells (lineAt c k)).toArray 5 (0, 0)) ∧ Kept no w wr) (fun i _ => n - (intOf i).toNat)
  case atStart => exact ⟨0, Nat.zero_le _, rfl, hn1, hk1⟩
  case round =>
    obtain ⟨k, hk, rfl, hh, hkw⟩ := hrel
    have hll := HL.out k hk
    by_cases hlt : k < n
    · have hb : lineByte c k = if pickN (c.tdiv 41 + 7 * (k : Int)) 256 = 10 then 120 else UInt8.ofNat (pickN (c.tdiv 41 + 7 * (k : Int)) 256) := rfl
      have hpk := fun w => pick_keep (c.tdiv 41 + 7 * (k : Int)) 256 256 rfl ⟨by omega, by omega⟩ (by decide) (by decide) w
      have hp := pickN_lt (c.tdiv 41 + 7 * (k : Int)) (n := 256) (by decide)
      go_wp2_with fail
      refine (hpk wr).mono ?_
      rintro e w2 ⟨rfl, hw⟩
      rw [hw]
      clear hw hpk
      generalize pickN (c.tdiv 41 + 7 * (k : Int)) 256 = q at hb hp ⊢
      obtain ⟨hc, hf⟩ := cells_of hh
      obtain ⟨x0, hck⟩ : ∃ x, wr.cell? ⟨g, k, none⟩ = some x := by
        rw [hc, List.getElem?_toArray]
        exact ⟨_, List.getElem?_eq_getElem (by rw [bcells_length]; omega)⟩
      have hfk := hf k
      have hgw : w.heap.size ≤ g := by omega
      clear hc hf
      have HB : Hid (lineByte c k = if q = 10 then 120 else UInt8.ofNat q) := hb
      clear hb
      by_cases h10 : q = 10
      · subst h10
        go_wp2
        refine ⟨⟨k + 1, by omega, by go_num, ?_, ?_⟩, by simp [intOf]; omega⟩
        · have h1 := heap_set_same (o := k) (v := .int .u8 10) hh
          have h2 := heap_set_same (o := k) (v := .int .u8 120) h1
          rw [h2, ← HS.out k hlt, HB.out]
          have h3 := bcells_setIf (lineAt c k) k 120
          simp only [if_true]
          rw [← h3]
          simp
        · exact (hkw.setNew hgw _).setNew hgw _
      · have h10' : ¬ ((q : Int) = 10) := by omega
        go_wp2
        refine ⟨⟨k + 1, by omega, by go_num, ?_, ?_⟩, by simp [intOf]; omega⟩
        · have h1 := heap_set_same (o := k) (v := .int .u8 (q : Int)) hh
          rw [h1, ← HS.out k hlt, HB.out]
          have h3 := bcells_setIf (lineAt c k) k (UInt8.ofNat q)
          simp only [h10, if_false]
          rw [← h3]
          have e : ((UInt8.ofNat q).toNat : Int) = (q : Int) := by simp; omega
          rw [e]
        · exact hkw.setNew hgw _
    · obtain rfl : k = n := by omega
      have hB : BytesAt wr g 0 (lineAt c k) := BytesAt.of_row hh (fun j v h => by simpa using h)
      have hcv := run_bytes_str (P := Tryz.prog) wr 56 9 _ _ _ k _ Tryz.underlying56 Tryz.underlying5 Tryz.underlying9 hB
      rw [hll, HE.out] at hcv
      go_wp2
      go_ret
      exact ⟨rfl, hkw⟩
end Go.Proofs.YtdpfohgkikjeaaaGreat
/- file, one. -/
namespace Go.Proofs.YtdpfohgkikjeaaaGreat
open Go.RowKit
set_option linter.unusedVariables false
set_option linter.unusedSimpArgs false

theorem sv_append (a b : Str) : (⟨a.toArray⟩ : ByteArray) ++ (⟨b.toArray⟩ : ByteArray) = ⟨(a ++ b).toArray⟩ := by
  apply bytes_eq
  simp

set_option maxHeartbeats 1000000 in
theorem file_any {w : World} {B : Nat} {v : Value} {raw : List Int} (hr : IntsAt w B v raw) : Calls Tryz.prog 35 #[v] w fun e w' => e = .returned (sv (textOf (linesN raw))) ∧ Kept no w w' := by
  have hfew := hr.few
  have hfit := hr.fits
  obtain ⟨pv, n, cv, rfl, hn, hcell⟩ : ∃ pv n cv, v = .slice pv n cv ∧ n = raw.length ∧ ∀ W, Kept no w W → ∀ k (h : k < raw.length), ∃ b o, pv = some ⟨b, o, none⟩ ∧ W.cell? ⟨b, o + k, none⟩ = some (.int .i64 raw[k]) := by
    rcases hr.at_ with ⟨a, c, rfl, rfl⟩ | ⟨b, o, c, rfl, hb, hc⟩
    · exact ⟨_, _, _, rfl, rfl, fun W _ k h => by simp at h⟩
    · refine ⟨_, _, _, rfl, rfl, fun W hW k h => ⟨b, o, rfl, ?_⟩⟩
      have hlow := hr.low
      rw [World.cell?_of_block (w := w) (hW.block b (by omega) (fun h => h))]
      exact hc k raw[k] (by simp [h])
  clear hr
  have hsn : ∀ k (h : k < raw.length), (raw.take (k + 1)).map lineN = (raw.take k).map lineN ++ [lineN raw[k]] := fun k h => by
    rw [List.take_succ_eq_append_getElem h, List.map_append]; rfl
  have HS : Hid (∀ k (h : k < raw.length), (raw.take (k + 1)).map lineN = (raw.take k).map lineN ++ [lineN raw[k]]) := hsn
  clear hsn
  have hbd : ∀ k, k ≤ 60 → (textOf ((raw.take k).map lineN)).length ≤ 2460 := fun k hk => by
    have : TextOk ((raw.take k).map lineN) := ⟨by simp only [List.length_map, List.length_take]; omega, fun l hl => by
      simp only [List.mem_map] at hl; obtain ⟨c, _, rfl⟩ := hl; exact lineN_ok c⟩
    exact this.length
  have HN : Hid (n = raw.length) := hn
  have hn' : n ≤ 9223372036854775807 := by omega
  clear hn
  go_enter Tryz.func35, Tryz.ntmps35
  go_wp2_with fail
  go_loopw [3, 4] (fun s3 s4 wr => ∃ k : Nat, k ≤ 60 ∧ k ≤ n ∧ s4 = .int .i64 ((k : Nat) : Int) ∧ s3 = sv (textOf ((raw.take k).map lineN)) ∧ Kept no w wr) (fun _ i _ => 60 - (intOf i).toNat)
  case atStart => exact ⟨0, by omega, by omega, rfl, by simp [textOf], Kept.refl _ _⟩
  case round =>
    obtain ⟨k, hk, hkn, rfl, rfl, hkw⟩ := hrel
    have hbk := hbd k hk
    have hrn := HN.out
    by_cases h1 : k < n
    · by_cases h2 : k < 60
      · have hk2 : k < raw.length := by omega
        obtain ⟨b, o, rfl, hcl⟩ := hcell wr hkw k hk2
        have hok := hfit raw[k] (by simp)
        have hst := HS.out k hk2
        have hlk := (lineN_ok raw[k]).1
        generalize raw[k] = x at hcl hok hst hlk
        have HST : Hid ((raw.take (k + 1)).map lineN = (raw.take k).map lineN ++ [lineN x]) := hst
        clear hst hcell hrn
        go_wp2_with fail
        refine (line_any x hok wr).mono ?_
        rintro e w2 ⟨rfl, hk2⟩
        obtain ⟨t, ht⟩ : ∃ t, t = textOf ((raw.take k).map lineN) := ⟨_, rfl⟩
        rw [← ht] at hbk ⊢
        have HT : Hid (t = textOf ((raw.take k).map lineN)) := ht
        clear ht
        have e1 := sv_append t (lineN x)
        have e2 := sv_append (t ++ lineN x) [10]
        have e3 : (t ++ lineN x).length ≤ 3000 := by rw [List.length_append]; omega
        have e4 : (t ++ lineN x ++ [10]).length ≤ 3000 := by simp only [List.length_append, List.length_cons, List.length_nil]; omega
        clear hbd hfit
        go_wp2
        refine ⟨⟨k + 1, by omega, by omega, by go_num, ?_, hkw.step hk2⟩, by simp [intOf]; omega⟩
        rw [HST.out, textOf_append, ← HT.out]
        simp [textOf]
      · obtain rfl : k = 60 := by omega
        go_wp2
        go_ret
        exact ⟨by simp [linesN], hkw⟩
    · obtain rfl : k = n := by omega
      go_wp2
      go_ret
      refine ⟨?_, hkw⟩
      have e : linesN raw = (raw.take k).map lineN := by rw [linesN, HN.out, List.take_of_length_le (by omega), List.take_of_length_le (Nat.le_refl _)]
      simp [e]

set_option maxHeartbeats 1000000 in
theorem one_any {w : World} {pv : Option Addr} {n cv : Nat} (s : Str) (l : List Str) (hn : n = l.length) (hl : l.length ≤ 140737488355328) (t : Bool) (ht : t = true ↔ s ∈ l) (hr : ∀ k (h : k < l.length), ∃ b o, pv = some ⟨b, o, none⟩ ∧ w.cell? ⟨b, o + k, none⟩ = some (sv l[k])) :
    Calls Tryz.prog 37 #[sv s, .slice pv n cv] w fun e w' => e = .returned (.bool t) ∧ w' = w := by
  have hn' : n ≤ 140737488355328 := by omega
  have HN : Hid (n = l.length) := hn
  clear hn
  go_enter Tryz.func37, Tryz.ntmps37
  go_wp2_with fail
  go_loopw [5] (fun s5 wr => ∃ k : Nat, k ≤ n ∧ s5 = .int .i64 ((k : Nat) : Int) ∧ (∀ x ∈ l.take k, x ≠ s) ∧ wr = w) (fun i _ => n - (intOf i).toNat)
  case atStart => exact ⟨0, by omega, rfl, by simp, rfl⟩
  case round =>
    obtain ⟨k, hk, rfl, hno, rfl⟩ := hrel
    have hrn := HN.out
    by_cases h1 : k < n
    · obtain ⟨b, o, rfl, hcl⟩ := hr k (by omega)
      have hmem : l[k] ∈ l := by simp
      have htk : l.take (k + 1) = l.take k ++ [l[k]] := List.take_succ_eq_append_getElem _
      have HTK : Hid (l.take (k + 1) = l.take k ++ [l[k]]) := htk
      clear htk
      generalize l[k] = x at hcl hmem HTK
      clear hr hrn
      by_cases hx : x = s
      · have hin : Hid (t = true) := ht.2 (by rw [← hx]; exact hmem)
        clear ht
        subst hx
        go_wp2
        go_ret
        exact ⟨by rw [hin.out]; rfl, rfl⟩
      · have hne2 : (x == s) = false := by simpa using hx
        have hno' : ∀ y ∈ l.take (k + 1), y ≠ s := fun y hy => by
          rw [HTK.out] at hy
          rcases List.mem_append.1 hy with hy | hy
          · exact hno y hy
          · simp at hy; rw [hy]; exact hx
        have HX : Hid (x ≠ s) := hx
        have HNO : Hid (∀ y ∈ l.take (k + 1), y ≠ s) := hno'
        clear hx hno hno'
        go_wp2
        exact ⟨⟨k + 1, by omega, by go_num, HNO.out, trivial⟩, by simp [intOf]; omega⟩
    · have hin : Hid (t = false) := by
        show t = false
        cases t with
        | false => rfl
        | true => exact absurd rfl (hno s (by rw [List.take_of_length_le (by omega)]; exact ht.1 rfl))
      clear hno hr ht
      go_wp2
      go_ret
      exact ⟨by rw [hin.out]; rfl, rfl⟩
end Go.Proofs.YtdpfohgkikjeaaaGreat
/- What a tree's node is in memory. -/
namespace Go.Proofs.YtdpfohgkikjeaaaGreat
open Go.RowKit
set_option linter.unusedVariables false
set_option linter.unusedSimpArgs false

/-- A node: its block, how many items or kids it has itself, the items in it and below it, the blocks that it takes. -/
structure Kid where
  b : Nat
  n : Nat
  ls : List Str
  fp : List Nat

def Kid.ptr (k : Kid) : Value := .pointer (some ⟨k.b, 0, none⟩)
abbrev nilS : Value := .slice none 0 0
def Kid.count (k : Kid) : Value := .int .i64 (k.ls.length : Int)

/-- All items of some kids; all their blocks. -/
def itemsOf (ks : List Kid) : List Str := (ks.map Kid.ls).flatten
def blocksOf (ks : List Kid) : List Nat := (ks.map Kid.fp).flatten

/-- A leaf's own cells. -/
structure LeafR (w : World) (rest : List Value) (T : TypeId) (k : Kid) (v : Value) : Prop where
  cells : w.heap[k.b]? = some (.cells (v :: nilS :: k.count :: rest).toArray T (0, 0))
  row : Row w 9 1 v k.n (k.ls.map sv)
  fp : k.fp = k.b :: fpv v
  nodup : k.fp.Nodup

/-- A branch's own cells. -/
structure BranchR (w : World) (rest : List Value) (T : TypeId) (k : Kid) (v : Value) (ks : List Kid) : Prop where
  cells : w.heap[k.b]? = some (.cells (nilS :: v :: k.count :: rest).toArray T (0, 0))
  row : Row w 141 1 v k.n (ks.map Kid.ptr)
  ls : k.ls = itemsOf ks
  fp : k.fp = k.b :: (fpv v ++ blocksOf ks)
  nodup : k.fp.Nodup

/-- A node of height h. -/
def NodeR (w : World) : Nat → List Value → TypeId → Kid → Prop
  | 0, rest, T, k => ∃ v, LeafR w rest T k v
  | h + 1, rest, T, k => 0 < k.n ∧ ∃ v ks, BranchR w rest T k v ks ∧ ∀ c ∈ ks, NodeR w h [] 88 c ∧ 4 ≤ c.n ∧ c.n ≤ 8

theorem LeafR.len {w rest T k v} (h : LeafR w rest T k v) : k.ls.length = k.n := by simpa using h.row.len
theorem BranchR.len {w rest T k v ks} (h : BranchR w rest T k v ks) : ks.length = k.n := by simpa using h.row.len

theorem mem_blocksOf {ks : List Kid} {x : Nat} : x ∈ blocksOf ks ↔ ∃ c ∈ ks, x ∈ c.fp := by
  simp only [blocksOf, List.mem_flatten, List.mem_map]
  exact ⟨fun ⟨l, ⟨c, h1, h2⟩, h3⟩ => ⟨c, h1, h2 ▸ h3⟩, fun ⟨c, h1, h2⟩ => ⟨_, ⟨c, h1, rfl⟩, h2⟩⟩

theorem LeafR.kept {S : Blocks} {w w' : World} {rest T k v} (h : LeafR w rest T k v) (hk : Kept S w w') (hn : ∀ x ∈ k.fp, ¬ S x) : LeafR w' rest T k v :=
  ⟨hk.get h.cells (hn _ (by rw [h.fp]; simp)), h.row.kept hk (fun x hx => hn x (by rw [h.fp]; simp [hx])), h.fp, h.nodup⟩

theorem BranchR.kept {S : Blocks} {w w' : World} {rest T k v ks} (h : BranchR w rest T k v ks) (hk : Kept S w w') (hn : ∀ x ∈ k.fp, ¬ S x) : BranchR w' rest T k v ks :=
  ⟨hk.get h.cells (hn _ (by rw [h.fp]; simp)), h.row.kept hk (fun x hx => hn x (by rw [h.fp]; simp [hx])), h.ls, h.fp, h.nodup⟩

theorem BranchR.kid {w : World} {rest T k v ks} (h : BranchR w rest T k v ks) {c : Kid} (hc : c ∈ ks) : ∀ x ∈ c.fp, x ∈ k.fp := fun x hx => by
  rw [h.fp]; simp [mem_blocksOf]; exact .inr (.inr ⟨c, hc, hx⟩)

theorem NodeR.kept {S : Blocks} {w w' : World} (hk : Kept S w w') : ∀ (h : Nat) {rest T k}, NodeR w h rest T k → (∀ x ∈ k.fp, ¬ S x) → NodeR w' h rest T k
  | 0, _, _, _, ⟨v, hl⟩, hn => ⟨v, hl.kept hk hn⟩
  | h + 1, _, _, _, ⟨h0, v, ks, hb, hc⟩, hn => ⟨h0, v, ks, hb.kept hk hn, fun c hm => ⟨NodeR.kept hk h (hc c hm).1 (fun x hx => hn x (hb.kid hm x hx)), (hc c hm).2⟩⟩

theorem NodeR.lt {w : World} : ∀ (h : Nat) {rest T k}, NodeR w h rest T k → ∀ x ∈ k.fp, x < w.heap.size
  | 0, _, _, _, ⟨v, hl⟩, x, hx => by
    rw [hl.fp] at hx
    rcases List.mem_cons.1 hx with rfl | hx
    · exact lt_of_heap hl.cells
    · exact hl.row.lt x hx
  | h + 1, _, _, _, ⟨h0, v, ks, hb, hc⟩, x, hx => by
    rw [hb.fp] at hx
    rcases List.mem_cons.1 hx with rfl | hx
    · exact lt_of_heap hb.cells
    rcases List.mem_append.1 hx with hx | hx
    · exact hb.row.lt x hx
    · obtain ⟨c, hm, hx⟩ := mem_blocksOf.1 hx
      exact NodeR.lt h (hc c hm).1 x hx

/-- The count that stands in a node. -/
theorem NodeR.count {w : World} : ∀ (h : Nat) {rest T k}, NodeR w h rest T k → ∃ a b r, w.heap[k.b]? = some (.cells (a :: b :: k.count :: r).toArray T (0, 0))
  | 0, _, _, _, ⟨v, hl⟩ => ⟨_, _, _, hl.cells⟩
  | h + 1, _, _, _, ⟨h0, v, ks, hb, hc⟩ => ⟨_, _, _, hb.cells⟩

theorem NodeR.mem {w : World} : ∀ (h : Nat) {rest T k}, NodeR w h rest T k → k.b ∈ k.fp
  | 0, _, _, _, ⟨v, hl⟩ => by rw [hl.fp]; simp
  | h + 1, _, _, _, ⟨h0, v, ks, hb, hc⟩ => by rw [hb.fp]; simp

theorem NodeR.nodup {w : World} : ∀ (h : Nat) {rest T k}, NodeR w h rest T k → k.fp.Nodup
  | 0, _, _, _, ⟨v, hl⟩ => hl.nodup
  | h + 1, _, _, _, ⟨h0, v, ks, hb, hc⟩ => hb.nodup

/-- In which kid a place is, and where in it. The place behind all is the last kid's. -/
def seek : List Kid → Nat → Nat → Nat × Nat
  | [], i, at' => (i, at')
  | [c], i, at' => (i, at')
  | c :: d :: r, i, at' => if c.ls.length ≤ at' then seek (d :: r) (i + 1) (at' - c.ls.length) else (i, at')

theorem seek_spec : ∀ (ks : List Kid) (i at' : Nat), ks ≠ [] → at' ≤ (itemsOf ks).length → ∃ A c B, ks = A ++ c :: B ∧ (seek ks i at').1 = i + A.length ∧ (itemsOf A).length + (seek ks i at').2 = at' ∧ (seek ks i at').2 ≤ c.ls.length ∧ (at' < (itemsOf ks).length → (seek ks i at').2 < c.ls.length)
  | [c], i, at', _, h => ⟨[], c, [], rfl, rfl, by simp [itemsOf, seek], by simpa [itemsOf, seek] using h, by simp [itemsOf, seek]⟩
  | c :: d :: r, i, at', _, h => by
    unfold seek
    by_cases hc : c.ls.length ≤ at'
    · rw [if_pos hc]
      have hl : (itemsOf (c :: d :: r)).length = c.ls.length + (itemsOf (d :: r)).length := by simp [itemsOf]
      obtain ⟨A, e, B, h1, h2, h3, h4, h5⟩ := seek_spec (d :: r) (i + 1) (at' - c.ls.length) (by simp) (by omega)
      refine ⟨c :: A, e, B, by rw [h1]; rfl, by rw [h2]; simp; omega, ?_, h4, fun hh => h5 (by omega)⟩
      have : (itemsOf (c :: A)).length = c.ls.length + (itemsOf A).length := by simp [itemsOf]
      omega
    · rw [if_neg hc]
      exact ⟨[], c, d :: r, rfl, by simp, by simp [itemsOf], by simp; omega, fun _ => by simp; omega⟩
end Go.Proofs.YtdpfohgkikjeaaaGreat
/- find, tally. -/
namespace Go.Proofs.YtdpfohgkikjeaaaGreat
open Go.RowKit
set_option linter.unusedVariables false
set_option linter.unusedSimpArgs false

/-- Kids as find and tally see them: addresses in a row, a count behind each. -/
structure KidsAt (w : World) (v : Value) (ks : List Kid) : Prop where
  row : Row w 141 1 v ks.length (ks.map Kid.ptr)
  counts : ∀ c ∈ ks, ∃ a b r T, w.heap[c.b]? = some (.cells (a :: b :: c.count :: r).toArray T (0, 0))

theorem BranchR.kidsAt {w : World} {h : Nat} {rest T k v ks} (hb : BranchR w rest T k v ks) (hc : ∀ c ∈ ks, NodeR w h [] 88 c) : KidsAt w v ks :=
  ⟨hb.len.symm ▸ hb.row, fun c hm => by obtain ⟨a, b, r, hh⟩ := (hc c hm).count; exact ⟨a, b, r, _, hh⟩⟩

theorem KidsAt.at {w : World} {v : Value} {ks : List Kid} (h : KidsAt w v ks) {i : Nat} (hi : i < ks.length) : ∃ g c', v = .slice (some ⟨g, 0, none⟩) ks.length c' ∧ w.cell? ⟨g, i, none⟩ = some (Kid.ptr ks[i]) ∧ w.cell? ⟨(ks[i]).b, 2, none⟩ = some (Kid.count ks[i]) := by
  rcases h.row.shape with ⟨_, h0, _⟩ | ⟨g, c', rfl, _, _⟩
  · omega
  · obtain ⟨_, _, _, hcell⟩ := h.row.cell
    obtain ⟨a, b, r, T, hh⟩ := h.counts ks[i] (List.getElem_mem hi)
    refine ⟨g, c', rfl, hcell i _ (by simp [hi]), ?_⟩
    rw [cells_of' hh]; rfl

theorem seek_step (ks : List Kid) (i at' : Nat) (hi : i + 1 < ks.length) : seek (ks.drop i) i at' = if (ks[i]).ls.length ≤ at' then seek (ks.drop (i + 1)) (i + 1) (at' - (ks[i]).ls.length) else (i, at') := by
  have h1 : ks.drop i = ks[i] :: ks[i + 1] :: ks.drop (i + 2) := by rw [List.drop_eq_getElem_cons (by omega), List.drop_eq_getElem_cons (by omega)]
  have h2 : ks.drop (i + 1) = ks[i + 1] :: ks.drop (i + 2) := by rw [List.drop_eq_getElem_cons (by omega)]
  rw [h1, h2]; rfl

theorem seek_last (ks : List Kid) (i at' : Nat) (hi : i + 1 = ks.length) : seek (ks.drop i) i at' = (i, at') := by
  have h1 : ks.drop i = [ks[i]] := by rw [List.drop_eq_getElem_cons (by omega), List.drop_eq_nil_of_le (by omega)]
  rw [h1]; rfl

set_option maxHeartbeats 1000000 in
theorem find_any (b : Nat) (vi v cnt : Value) (rest : List Value) (T : TypeId) (ks : List Kid) (at' : Nat) (aI : Int) (haI : aI = (at' : Int)) (w : World) (hb : w.heap[b]? = some (.cells (vi :: v :: cnt :: rest).toArray T (0, 0))) (hk : KidsAt w v ks) (h0 : 0 < ks.length) (hn : ks.length ≤ 1000000) (hl : ∀ c ∈ ks, c.ls.length ≤ 1099511627776) (hat : at' ≤ 1099511627776) :
    Calls Tryz.prog 109 #[.pointer (some ⟨b, 0, none⟩), .int .i64 aI] w fun e w' => e = .returned (.tuple #[.int .i64 ((seek ks 0 at').1 : Int), .int .i64 ((seek ks 0 at').2 : Int)]) ∧ w' = w := by
  subst haI
  obtain ⟨hc, _⟩ := cells_of hb
  obtain ⟨g, c', rfl, _, _⟩ := hk.at (i := 0) h0
  go_enter Tryz.func109, Tryz.ntmps109
  go_wp2
  go_loop [1, 6] (fun a i => ∃ (j x : Nat), j < ks.length ∧ x ≤ at' ∧ seek ks 0 at' = seek (ks.drop j) j x ∧ a = .int .i64 x ∧ i = .int .i64 j) (fun _ i => ks.length - (intOf i).toNat)
  case atStart => exact ⟨0, at', h0, Nat.le_refl _, rfl, rfl, rfl⟩
  case round =>
    obtain ⟨j, x, hj, hx, hs, rfl, rfl⟩ := hrel
    have HS : Hid (seek ks 0 at' = seek (ks.drop j) j x) := hs
    clear hs
    obtain ⟨g', c'', he, hp, hcount⟩ := hk.at hj
    simp only [Value.slice.injEq, Option.some.injEq, Addr.mk.injEq, and_true, true_and] at he
    obtain ⟨⟨rfl, _⟩, rfl⟩ := he
    generalize hK : ks[j] = K at hp hcount
    have hKl : K.ls.length ≤ 1099511627776 := hl K (by rw [← hK]; exact List.getElem_mem hj)
    simp only [Kid.ptr, Kid.count] at hp hcount
    have hw1 : IntKind.i64.wrap ((ks.length : Int) - 1) = (ks.length : Int) - 1 := by rw [IntKind.wrap_i64]; omega
    have hw2 : IntKind.i64.wrap ((j : Int) + 1) = (j : Int) + 1 := by rw [IntKind.wrap_i64]; omega
    have hw3 : IntKind.i64.wrap ((x : Int) - (K.ls.length : Int)) = (x : Int) - (K.ls.length : Int) := by rw [IntKind.wrap_i64]; omega
    by_cases hlast : j + 1 < ks.length
    · have hg1 : (j : Int) < (ks.length : Int) - 1 := by omega
      by_cases hge : K.ls.length ≤ x
      · have hg2 : (K.ls.length : Int) ≤ (x : Int) := by omega
        go_wp2
        refine ⟨⟨j + 1, x - K.ls.length, hlast, by omega, ?_, by go_num, by go_num⟩, by simp [intOf]; omega⟩
        rw [HS.out, seek_step ks j x hlast, hK, if_pos hge]
      · have hg2 : ¬ (K.ls.length : Int) ≤ (x : Int) := by omega
        go_wp2
        go_ret2
        rw [HS.out, seek_step ks j x hlast, hK, if_neg hge]
        exact ⟨rfl, rfl⟩
    · have hg1 : ¬ (j : Int) < (ks.length : Int) - 1 := by omega
      go_wp2
      go_ret2
      rw [HS.out, seek_last ks j x (by omega)]
      exact ⟨rfl, rfl⟩

theorem Kept.cell1 {w : World} {b o : Nat} {u : Value} : Kept (fun k => k = b) w (w.setCell ⟨b, o, none⟩ u) := Kept.setCell (S := fun k => k = b) (Kept.refl _ _) (p := ⟨b, o, none⟩) (fun _ => rfl) _

theorem KidsAt.kept {S : Blocks} {w w' : World} {v : Value} {ks : List Kid} (h : KidsAt w v ks) (hk : Kept S w w') (h1 : ∀ x ∈ fpv v, ¬ S x) (h2 : ∀ c ∈ ks, ¬ S c.b) : KidsAt w' v ks :=
  ⟨h.row.kept hk h1, fun c hm => by obtain ⟨a, b, r, T, hh⟩ := h.counts c hm; exact ⟨a, b, r, T, hk.get hh (h2 c hm)⟩⟩

theorem itemsOf_append (A B : List Kid) : itemsOf (A ++ B) = itemsOf A ++ itemsOf B := by simp [itemsOf]
theorem itemsOf_one (c : Kid) : itemsOf [c] = c.ls := by simp [itemsOf]
theorem itemsOf_take (ks : List Kid) (j : Nat) (h : j < ks.length) : itemsOf (ks.take (j + 1)) = itemsOf (ks.take j) ++ (ks[j]).ls := by
  rw [List.take_succ_eq_append_getElem h, itemsOf_append, itemsOf_one]

set_option maxHeartbeats 1000000 in
/-- tally: the items of the node's own, and those of its kids. -/
theorem tally_any (b : Nat) (vi v cnt : Value) (rest : List Value) (T : TypeId) (ks : List Kid) (p : Option Addr) (m c : Nat) (hvi : vi = .slice p m c) (w : World) (hb : w.heap[b]? = some (.cells (vi :: v :: cnt :: rest).toArray T (0, 0))) (hk : KidsAt w v ks) (hne : ∀ k ∈ ks, k.b ≠ b) (hv : b ∉ fpv v) (hn : ks.length ≤ 1000000) (hl : (itemsOf ks).length ≤ 1099511627776) (hm : m ≤ 1000000) :
    Calls Tryz.prog 115 #[.pointer (some ⟨b, 0, none⟩)] w fun e w' => e = .returned (.tuple #[]) ∧ w'.heap[b]? = some (.cells (vi :: v :: .int .i64 ((m + (itemsOf ks).length : Nat) : Int) :: rest).toArray T (0, 0)) ∧ Kept (fun k => k = b) w w' := by
  obtain ⟨hc, hf⟩ := cells_of hb
  subst hvi
  obtain ⟨q, cv, rfl⟩ : ∃ q cv, v = .slice q ks.length cv := by
    rcases hk.row.shape with ⟨rfl, h0, _⟩ | ⟨g, cv, rfl, _, _⟩
    · exact ⟨none, 0, by rw [h0]⟩
    · exact ⟨_, cv, rfl⟩
  go_enter Tryz.func115, Tryz.ntmps115
  go_wp2
  go_loopw [3, 17] (fun k i wr => ∃ (j : Nat), j ≤ ks.length ∧ i = .int .i64 j ∧ wr.heap[b]? = some (.cells (.slice p m c :: .slice q ks.length cv :: .int .i64 ((m + (itemsOf (ks.take j)).length : Nat) : Int) :: rest).toArray T (0, 0)) ∧ Kept (fun k => k = b) w wr) (fun _ i _ => ks.length - (intOf i).toNat)
  case atStart =>
    refine ⟨0, Nat.zero_le _, rfl, ?_, Kept.cell1⟩
    rw [heap_set_same hb]; simp [itemsOf]
  case round =>
    obtain ⟨j, hj, rfl, hb1, hk1⟩ := hrel
    have hk2 := hk.kept hk1 (fun x hx e => hv (e ▸ hx)) hne
    obtain ⟨hc1, hf1⟩ := cells_of hb1
    by_cases hlt : j < ks.length
    · obtain ⟨g, c'', he, hp, hcount⟩ := hk2.at hlt
      simp only [Value.slice.injEq, true_and] at he
      obtain ⟨rfl, rfl⟩ := he
      have hit := itemsOf_take ks j hlt
      have hle : (itemsOf (ks.take (j + 1))).length ≤ 1099511627776 := by
        have e : itemsOf ks = itemsOf (ks.take (j + 1)) ++ itemsOf (ks.drop (j + 1)) := by rw [← itemsOf_append, List.take_append_drop]
        rw [e, List.length_append] at hl; omega
      generalize hK : ks[j] = K at hp hcount hit
      have HK : Hid (ks[j] = K) := hK
      clear hK
      rw [hit, List.length_append] at hle
      have HI := hit
      generalize hX : (itemsOf (ks.take j)).length = X at hb1 hc1 hle
      have HX : Hid ((itemsOf (ks.take j)).length = X) := hX
      clear hX hit
      simp only [Kid.ptr, Kid.count] at hp hcount
      have hw : IntKind.i64.wrap (((m : Int) + (X : Int)) + (K.ls.length : Int)) = (m : Int) + (X : Int) + (K.ls.length : Int) := by rw [IntKind.wrap_i64]; omega
      go_wp2
      go_region
      go_wp2
      refine ⟨⟨j + 1, hlt, by go_num, ?_, (hk1.step Kept.cell1).drew⟩, by simp [intOf]; omega⟩
      show (wr.setCell _ _).heap[b]? = _
      rw [heap_set_same hb1, HI, List.length_append, HX.out]
      simp [Int.add_assoc]
    · go_wp2
      go_end0
      have e : ks.take j = ks := List.take_of_length_le (by omega)
      rw [e] at hb1
      exact ⟨rfl, hb1, hk1⟩
end Go.Proofs.YtdpfohgkikjeaaaGreat
/- Regions that draw, once more: behind an operation that waits for all reads (a store at the end) the class need not hold. -/
namespace Go.Proofs.YtdpfohgkikjeaaaGreat
open Go.RowKit
set_option linter.unusedVariables false
set_option linter.unusedSimpArgs false

section
variable {P : Program} {ops : Array Oper} {Q : Exit → Act → World → Prop} {md : Region.Mode} {C : World → Prop} {N : Nat → Bool}

def wpGo2 (P : Program) (md : Region.Mode) (ops : Array Oper) (C : World → Prop) (N : Nat → Bool) (Q : Exit → Act → World → Prop) : Nat → Array Bool → Act → World → Prop
  | 0, listed, a, w => Region.ready md ops listed = [] ∧ Q .normal a w
  | fuel + 1, listed, a, w =>
    (Region.ready md ops listed = [] → Q .normal a w) ∧
    ∀ i ∈ Region.ready md ops listed, wpOp P ops Q i (fun a' w' => (N i = true → C w') ∧ wpGo2 P md ops C N Q fuel (listed.setIfInBounds i true) a' w') a w

theorem wpAny_of_go2 : ∀ (fuel : Nat) (listed : Array Bool) (a : Act) (w : World), wpGo2 P md ops C N Q fuel listed a w → wpAny P md ops Q fuel listed a w
  | 0, _, _, _, h => h
  | fuel + 1, _, _, _, h => ⟨h.1, fun i hi => wpOp_mono (fun a' w' h' => wpAny_of_go2 fuel _ a' w' h'.2) (h.2 i hi)⟩

/-- Whoever is not among N waits for i. -/
def Waits (md : Region.Mode) (ops : Array Oper) (N : Nat → Bool) (i : Nat) : Prop := ∀ j oj, ops[j]? = some oj → N j = false → ∃ e ∈ oj.after, Region.binds md e = true ∧ e.on = i

theorem Waits.need {i j : Nat} {listed : Array Bool} (h : Waits md ops N i) (hi : i ∈ Region.ready md ops listed) (hj : j ∈ Region.ready md ops listed) : N j = true := by
  by_cases hN : N j = true
  · exact hN
  · obtain ⟨hun, o, ho, hall⟩ := mem_ready.1 hj
    obtain ⟨e, he, hb, hei⟩ := h j o ho (by simpa using hN)
    have hiun := (mem_ready.1 hi).1
    have := hall e he hb
    rw [hei] at this
    by_cases hs : i < listed.size
    · rw [Array.getD_eq_getD_getElem?, Array.getElem?_eq_getElem hs] at this hiun
      simp only [Option.getD_some] at this hiun
      rw [this] at hiun; cases hiun
    · rw [Array.getD_eq_getD_getElem?, Array.getElem?_eq_none (by omega)] at this
      cases this

theorem wpGo2_first {i : Nat} {oi : Oper} {v : Value} (hi : ops[i]? = some oi) (hsel : ∀ (j : Nat) (o : Oper) cs b, ops[j]? = some o → o.op ≠ .select cs b) (hwt : Waits md ops N i)
    (hQ : ∀ c a w, Q (.panic c) (a.put oi.dst v) w → Q (.panic c) a w) :
    ∀ (fuel : Nat) (listed : Array Bool) (a : Act) (w : World), C w → Free md ops i oi listed → i ∈ Region.ready md ops listed → Reads P ops C oi v a →
      wpGo2 P md ops C N Q fuel (listed.setIfInBounds i true) (a.put oi.dst v) w → wpGo2 P md ops C N Q (fuel + 1) listed a w
  | 0, listed, a, w, hC, _, hr, hy, H => by
    refine ⟨fun h0 => (by rw [h0] at hr; cases hr), fun j hj => ?_⟩
    rcases Nat.decEq j i with hne | rfl
    · exact absurd (ready_mono hj hne) (by rw [H.1]; exact List.not_mem_nil)
    · exact hy.wpOp hi hC ⟨fun _ => hC, H⟩
  | n + 1, listed, a, w, hC, hf, hr, hy, H => by
    refine ⟨fun h0 => (by rw [h0] at hr; cases hr), fun j hj => ?_⟩
    rcases Nat.decEq j i with hne | rfl
    · obtain ⟨hjun, oj, hoj, _⟩ := mem_ready.1 hj
      have hput := reads_put hoj (hf.beside hr hj hoj hne) (fun cs b => hsel i oi cs b hi) (fun cs b => hsel j oj cs b hoj) hQ hy (H.2 j (ready_mono hj hne))
      refine wpOp_mono (fun a' w' hh => ⟨hh.2.1, ?_⟩) hput
      refine wpGo2_first hi hsel hwt hQ n _ a' w' (hh.2.1 (hwt.need hr hj)) (hf.step hjun) (ready_mono hr (Ne.symm hne)) hh.1 ?_
      rw [Array.setIfInBounds_comm _ _ hne]
      exact hh.2.2
    · exact hy.wpOp hi hC ⟨fun _ => hC, H⟩

/-- Does the operation j not wait for all of p? -/
def needB (md : Region.Mode) (ops : Array Oper) (p : List Nat) (j : Nat) : Bool :=
  !(p.all fun i => match ops[j]? with
    | some o => o.after.any fun e => Region.binds md e && e.on == i
    | none => false)

theorem waits_needB {p : List Nat} {i : Nat} (hi : i ∈ p) : Waits md ops (needB md ops p) i := fun j oj hj hn => by
  unfold needB at hn
  simp only [Bool.not_eq_false'] at hn
  have := List.all_eq_true.1 hn i hi
  rw [hj] at this
  simp only [Array.any_eq_true'] at this
  obtain ⟨e, he, h⟩ := this
  simp only [Bool.and_eq_true, beq_iff_eq] at h
  exact ⟨e, he, h.1, h.2⟩

/-- The rest, in its one order. -/
def wpTail2 (P : Program) (md : Region.Mode) (ops : Array Oper) (C : World → Prop) (N : Nat → Bool) (Q : Exit → Act → World → Prop) : List Nat → Act → World → Prop
  | [], a, w => Q .normal a w
  | i :: l, a, w => wpOp P ops Q i (fun a' w' => (N i = true → C w') ∧ wpTail2 P md ops C N Q l a' w') a w

theorem wpGo2_tail : ∀ (t : List Nat) (listed : Array Bool) (a : Act) (w : World), tailB md ops t listed = true → wpTail2 P md ops C N Q t a w → wpGo2 P md ops C N Q t.length listed a w
  | [], _, _, _, hB, h => ⟨by simpa [tailB] using hB, h⟩
  | i :: t, listed, a, w, hB, h => by
    simp only [tailB, Bool.and_eq_true, beq_iff_eq] at hB
    refine ⟨fun h0 => (by rw [hB.1] at h0; cases h0), fun j hj => ?_⟩
    rw [hB.1] at hj
    simp only [List.mem_cons, List.not_mem_nil, or_false] at hj
    subst hj
    exact wpOp_mono (fun a' w' h' => ⟨h'.1, wpGo2_tail t _ a' w' hB.2 h'.2⟩) h

theorem wpGo2_pre (hs : Region.noSelect ops = true) (hQ : ∀ c a d v w, Q (.panic c) (Act.put a d v) w → Q (.panic c) a w) (t : List Nat) : ∀ (p : List Nat), (∀ i ∈ p, Waits md ops N i) → ∀ (listed : Array Bool) (a : Act) (w : World), C w →
    preB md ops t p listed = true → wpPre P ops C (fun a' => wpTail2 P md ops C N Q t a' w) p a → wpGo2 P md ops C N Q (p.length + t.length) listed a w
  | [], _, listed, a, w, hC, hB, h => by
    simp only [List.length_nil, Nat.zero_add]
    exact wpGo2_tail t listed a w hB h
  | i :: p, hW, listed, a, w, hC, hB, h => by
    simp only [preB, Bool.and_eq_true] at hB
    obtain ⟨⟨hr, hf⟩, hB'⟩ := hB
    obtain ⟨o, v, ho, hy, hK⟩ := h
    have e : (i :: p).length + t.length = (p.length + t.length) + 1 := by simp; omega
    rw [e]
    exact wpGo2_first ho (Region.noSelect_spec hs) (hW i (by simp)) (fun c a w => hQ c a _ _ w) _ listed a w hC (Region.free_spec ho hf) (by simpa using hr) hy
      (wpGo2_pre hs hQ t p (fun k hk => hW k (by simp [hk])) _ _ w hC hB' hK)

theorem wp_region_last {id : Nat} {a : Act} {w : World} (C : World → Prop) (p t : List Nat) (hm : P.follows .mixedOrders = true) (hB : drawB ops p t = true)
    (hQ : ∀ c a d v w, Q (.panic c) (Act.put a d v) w → Q (.panic c) a w) (hC : C w.drew)
    (h : wpPre P ops C (fun a' => wpTail2 P .any ops C (needB .any ops p) Q t a' w.drew) p a) : (Code.region id ops true).wp P Q a w := by
  simp only [drawB, Bool.and_eq_true, beq_iff_eq] at hB
  obtain ⟨⟨hs, hl⟩, hB⟩ := hB
  refine wp_region_any hm (wpAny_of_go2 (C := C) (N := needB .any ops p) _ _ _ _ ?_)
  have hg := wpGo2_pre hs hQ t p (fun i hi => waits_needB hi) _ a w.drew hC hB h
  rw [hl] at hg
  exact hg

theorem wpTail2_nil {a : Act} {w : World} (h : Q .normal a w) : wpTail2 P md ops C N Q [] a w := h
/-- At an operation of the rest; the class holds behind it. -/
theorem wpTail2_cons {a : Act} {w : World} {i : Nat} {l : List Nat} {o : Oper} (ho : ops.toList[i]? = some o) (hg : o.guard = none)
    (h : ∀ K : Act → World → Prop, (∀ a w, C w ∧ wpTail2 P md ops C N Q l a w → K a w) → o.wp P a w K Q) : wpTail2 P md ops C N Q (i :: l) a w := by
  have ho' : ops[i]? = some o := by simpa using ho
  unfold wpTail2 wpOp
  simp only [ho']
  rw [if_pos (by simp [Region.wanted, hg])]
  exact .inl (h _ (fun _ _ h => ⟨fun _ => h.1, h.2⟩))
/-- One that waits for all reads. -/
theorem wpTail2_last {a : Act} {w : World} {i : Nat} {l : List Nat} {o : Oper} (hn : N i = false) (ho : ops.toList[i]? = some o) (hg : o.guard = none)
    (h : ∀ K : Act → World → Prop, (∀ a w, wpTail2 P md ops C N Q l a w → K a w) → o.wp P a w K Q) : wpTail2 P md ops C N Q (i :: l) a w := by
  have ho' : ops[i]? = some o := by simpa using ho
  unfold wpTail2 wpOp
  simp only [ho']
  rw [if_pos (by simp [Region.wanted, hg])]
  exact .inl (h _ (fun _ _ h => ⟨fun hh => (by rw [hn] at hh; cases hh), h⟩))
end
end Go.Proofs.YtdpfohgkikjeaaaGreat

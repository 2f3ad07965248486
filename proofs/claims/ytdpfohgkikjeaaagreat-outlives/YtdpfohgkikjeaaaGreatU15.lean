/- Part 15 of the proof: see its parts. -/
import Derived.RangeFuncKeeps
import Derived.RangeFuncFrom
import Derived.RangeFuncBound
import Derived.RangeFuncLeaves
import Derived.Shelf.Abstract
import Derived.OwnWalkIn
import Derived.TacticsInMore
import Derived.LoopNIn
import Derived.LoopIn
import Derived.Shelf.Strings.BuilderK
import Derived.RangeFuncNested
import Derived.RangeFuncCalls
import Derived.Test.YtdpfohgkikjeaaaGreatU4
import Derived.Test.YtdpfohgkikjeaaaGreatU6
import Derived.Test.YtdpfohgkikjeaaaGreatU14
/- The tree's own calls, on: Insert. -/
namespace Go.Proofs.YtdpfohgkikjeaaaGreat
open Go.RowKit
set_option linter.unusedVariables false
set_option linter.unusedSimpArgs false

set_option maxHeartbeats 2000000 in
theorem tinsert_any {w : World} {b : Nat} {ls : List Str} {rest : List Value} {T : TypeId} {fp : List Nat} (hT : TreeR w b rest T ls fp) (p : Nat) (pI : Int) (hpI : pI = (p : Int)) (hp : p ≤ ls.length) (hl : ls.length ≤ 900) (item : Str) :
    Calls Tryz.prog 85 #[.pointer (some ⟨b, 0, none⟩), .int .i64 pI, sv item] w fun e w' => e = .returned (.bool true) ∧ ∃ fp', TreeTo w w' b rest T fp (ls.take p ++ item :: ls.drop p) fp' := by
  subst hpI
  obtain ⟨vi, vk, hb⟩ := hT.count
  obtain ⟨h, n, hN, h2n, h8⟩ := hT.ex
  have h2 : decide ((p : Int) < 0) = false := by simp
  have h3 : ¬ ((ls.length : Int) < (p : Int)) := by omega
  have hs := insert_any item h w rest T ⟨b, n, ls, fp⟩ p _ hN h2n h8 rfl hp (by simp only; omega)
  have hbfp := hN.mem
  go_enter Tryz.func85, Tryz.ntmps85
  go_upto_if 16 with (go_at_call 46; refine (len_any hb).mono ?_; rintro e w ⟨rfl, rfl⟩)
  go_wp2_with fail
  refine hs.mono ?_
  rintro e w1 ⟨rfl, ⟨b', n', ls', fp'⟩, hL, hls, hn1, hn2⟩
  obtain ⟨hN1, hb1, hsub, hk1⟩ := hL
  simp only at hls hn1 hn2 hb1 hN1 hsub hk1 hbfp
  subst hb1
  have HL : Hid (ls' = ls.take p ++ item :: ls.drop p) := hls
  have hll : ls'.length ≤ 1000 := by rw [hls]; simp; omega
  clear hls hb
  have hfill := hN1.fill (by simp only; omega)
  have hgtr := gtr_full (N := n') (by omega)
  obtain ⟨ui, uk, h3c⟩ := hN1.three
  obtain ⟨ip, im, ic, rfl⟩ := h3c.items
  obtain ⟨kp, km, kc, rfl, _, _⟩ := h3c.kids
  have hcells := h3c.cells
  simp only [Kid.count, Kid.ptr] at hcells hfill
  obtain ⟨hc1, hf1⟩ := cells_of hcells
  by_cases hful : 8 < n'
  · rw [decide_eq_true hful] at hgtr
    have hfill2 := hfill.mono (R' := fun e w2 => e = .returned (.float .f64 (fillBits n')) ∧ Kept no w1 w2 ∧ Kept no w2 w1) (fun e w2 ⟨he, j, hw⟩ => ⟨he, by subst hw; exact (Kept.refl _ _).drewN j, by subst hw; exact ⟨rfl, rfl, rfl, Nat.le_refl _, fun _ _ _ => rfl⟩⟩)
    go_upto_if 27 with (go_at_call 113; refine hfill2.mono ?_; rintro e w2 ⟨rfl, hk12, hk21⟩)
    have hN2 := NodeR.kept hk12 h hN1 (fun _ _ h => h)
    have hcells2 := hk12.get hcells (fun h => h)
    have hmove := h3c.move
    clear hc1 hf1 hcells
    obtain ⟨hc2, hf2⟩ := cells_of hcells2
    go_wp2_with fail
    obtain ⟨hn3, hsz3, hk3⟩ := new1 w2 (Obj.cells #[.slice ip im ic, .slice kp km kc, .int .i64 (ls'.length : Int)] 88)
    have hb3 := hk3.get hcells2 (fun h => h)
    have hfp1 : ∀ x ∈ fp', x < w1.heap.size := hN1.lt
    have hs12 := hk12.size
    have hs01 := hk1.size
    obtain ⟨tl, htl⟩ := h3c.fp
    simp only at htl
    subst htl
    simp only [List.tail_cons] at hmove
    generalize hL : w2.heap.size = L at hn3 hsz3 hs12 ⊢
    generalize w2.alloc (Obj.cells #[.slice ip im ic, .slice kp km kc, .int .i64 (ls'.length : Int)] 88) = w3 at hn3 hsz3 hk3 hb3 ⊢
    have hLn : L ∉ tl := fun hh => by have := hfp1 L (by simp [hh]); omega
    have hN3 := hmove w3 no L [] nodeT (hk12.step hk3) (fun _ _ h => h) hn3 hLn
    have hbtl : b' ∉ tl := by have := hN1.nodup; simp only [List.nodup_cons] at this; exact this.1
    refine (split_node hN3 (by simp only; omega) (by simp only; omega) (by simp only; omega)).mono ?_
    rintro e w4 ⟨x1, x2, rfl, hx1, hx2, hx1b, hx1n, hx2n, hxl, hxnd, hxf, hk4⟩
    simp only at hx1b hx1n hx2n hxl hxf hk4
    rw [show x2.ptr = .pointer (some ⟨x2.b, 0, none⟩) from rfl]
    have hbL : b' < L := by have := lt_of_heap hcells2; omega
    have hb4 := hk4.get hb3 (fun hh => by
      rcases List.mem_cons.1 hh with h1 | h1
      · omega
      · exact hbtl h1)
    have hs4 := hk4.size
    clear hc2 hf2
    have HX : Hid (ls' = x1.ls ++ x2.ls) := hxl
    clear hxl
    have hb5l : b' < w4.heap.size := lt_of_heap hb4
    obtain ⟨hc4, hf4⟩ := cells_of hb4
    go_wp2_with fail
    generalize hK : w4.heap.size = K at hb5l hs4 ⊢
    obtain ⟨w6, hw6⟩ : ∃ w6, w6 = ((w4.setCell ⟨b', 0, none⟩ (.slice none 0 0)).setCell ⟨b', 1, none⟩ (.slice (some ⟨K, 0, none⟩) 2 2)).setCell ⟨b', 2, none⟩ (.int .i64 0) := ⟨_, rfl⟩
    have hb6 : w6.heap[b']? = some (.cells (nilS :: .slice (some ⟨K, 0, none⟩) 2 2 :: .int .i64 0 :: rest).toArray T (0, 0)) := by
      have e1 := heap_set_same (o := 0) (v := .slice none 0 0) hb4
      have e2 := heap_set_same (o := 1) (v := .slice (some ⟨K, 0, none⟩) 2 2) e1
      have e3 := heap_set_same (o := 2) (v := .int .i64 0) e2
      rw [hw6, e3]; simp
    have hk6 : Kept (fun x => x = b') w4 w6 := by rw [hw6]; exact (Kept.cell1.step Kept.cell1).step Kept.cell1
    have hs6 : w6.heap.size = K := by rw [hw6, ← hK]; simp
    rw [← hw6]
    clear hw6 hc4 hf4
    obtain ⟨hn7, hsz7, hk7⟩ := new1 w6 (Obj.cells #[.pointer (some ⟨L, 0, none⟩), .pointer (some ⟨x2.b, 0, none⟩)] 141)
    have hb7 := hk7.get hb6 (fun h => h)
    rw [hs6] at hn7
    have hk7' : Kept (fun x => x = b') w4 (w6.alloc (Obj.cells #[.pointer (some ⟨L, 0, none⟩), .pointer (some ⟨x2.b, 0, none⟩)] 141)) := hk6.step (hk7.mono (fun _ h _ => h.elim))
    generalize w6.alloc (Obj.cells #[.pointer (some ⟨L, 0, none⟩), .pointer (some ⟨x2.b, 0, none⟩)] 141) = w7 at hn7 hsz7 hk7 hk7' hb7 ⊢
    have hbx : b' ∉ x1.fp ++ x2.fp := fun hh => by
      rcases hxf b' hh with h1 | h1
      · rcases List.mem_cons.1 h1 with h2 | h2
        · omega
        · exact hbtl h2
      · omega
    have hfam : Fam w7 h [x1, x2] := ⟨fun c hc => by
      simp at hc
      rcases hc with rfl | rfl
      · exact NodeR.kept hk7' h hx1 (fun x hx e => hbx (e ▸ List.mem_append.2 (.inl hx)))
      · exact NodeR.kept hk7' h hx2 (fun x hx e => hbx (e ▸ List.mem_append.2 (.inr hx))), by simpa [blocksOf] using hxnd⟩
    have hlt4 : ∀ x ∈ x1.fp ++ x2.fp, x < K := fun x hx => by
      rw [← hK]
      rcases List.mem_append.1 hx with hx | hx
      · exact hx1.lt h x hx
      · exact hx2.lt h x hx
    have hrow : Row w7 141 1 (.slice (some ⟨K, 0, none⟩) 2 2) [x1, x2].length ([x1, x2].map Kid.ptr) := by
      have e : [x1, x2].map Kid.ptr = [Value.pointer (some ⟨L, 0, none⟩), .pointer (some ⟨x2.b, 0, none⟩)] := by simp [Kid.ptr, hx1b]
      rw [e]
      exact Row.of_block (cur := [.pointer (some ⟨L, 0, none⟩), .pointer (some ⟨x2.b, 0, none⟩)]) hn7 rfl rfl (Nat.le_refl _) (by decide)
    have hxm1 := hx1.mem
    have hxm2 := hx2.mem
    have hlsum : (itemsOf [x1, x2]).length = ls'.length := by rw [HX.out]; simp [itemsOf]
    refine (tally_any b' _ _ _ rest T [x1, x2] none 0 0 rfl w7 hb7 (hfam.kidsAt hrow) (fun c hc e => hbx ?_) (by rw [fpv_some]; simp; omega) (by simp) (by omega) (by omega)).mono ?_
    · simp at hc
      rcases hc with rfl | rfl
      · exact List.mem_append.2 (.inl (e ▸ hxm1))
      · exact List.mem_append.2 (.inr (e ▸ hxm2))
    rintro e w8 ⟨rfl, hb8, hk8⟩
    have hB8 : Brn w8 h rest T b' (.slice (some ⟨K, 0, none⟩) 2 2) (.int .i64 ((itemsOf [x1, x2]).length : Int)) [x1, x2] := by
      refine ⟨by simpa using hb8, hrow.kept hk8 (fun x hx e => by rw [fpv_some] at hx; simp at hx; omega), hfam.kept hk8 (fun x hx e => hbx (by simpa [blocksOf, e] using hx)), ?_⟩
      have e1 : blocksOf [x1, x2] = x1.fp ++ x2.fp := by simp [blocksOf]
      rw [e1, fpv_some]
      refine List.nodup_cons.2 ⟨fun hh => ?_, List.nodup_cons.2 ⟨fun hh => ?_, hxnd⟩⟩
      · rcases List.mem_cons.1 hh with h1 | h1
        · omega
        · exact hbx h1
      · have := hlt4 K hh; omega
    have hN8 := hB8.node rfl (by simp) (fun c hc => by
      simp at hc
      rcases hc with rfl | rfl
      · exact ⟨by omega, by omega⟩
      · exact ⟨by omega, by omega⟩)
    have hit : itemsOf [x1, x2] = ls.take p ++ item :: ls.drop p := by rw [← HL.out, HX.out]; simp [itemsOf]
    rw [hit] at hN8
    go_wp2
    go_ret
    refine ⟨rfl, _, ⟨h + 1, 2, hN8, fun _ => Nat.le_refl _, by omega⟩, fun x hx => ?_, ?_⟩
    · have e1 : blocksOf [x1, x2] = x1.fp ++ x2.fp := by simp [blocksOf]
      rw [e1, fpv_some] at hx
      rcases List.mem_cons.1 hx with rfl | hx
      · exact .inl hbfp
      · rcases List.mem_cons.1 hx with rfl | hx
        · exact .inr (by omega)
        · rcases hxf x hx with h1 | h1
          · rcases List.mem_cons.1 h1 with rfl | h1
            · exact .inr (by omega)
            · exact hsub x (by simp [h1])
          · exact .inr (by omega)
    · have hk03 : Kept (fun x => x ∈ fp) w w3 := (hk1.step (hk12.mono (fun _ h _ => h.elim))).step (hk3.mono (fun _ h _ => h.elim))
      refine ((hk03.step' hk4 (fun x hx hlt => ?_)).step' hk7' (fun x hx _ => hx ▸ hbfp)).step' hk8 (fun x hx _ => hx ▸ hbfp)
      rcases List.mem_cons.1 hx with rfl | hx
      · omega
      · rcases hsub x (by simp [hx]) with h1 | h1
        · exact h1
        · omega
  · rw [decide_eq_false hful] at hgtr
    go_upto_if 27 with (go_at_call 113; refine hfill.mono ?_; rintro e w2 ⟨rfl, j2, rfl⟩)
    go_wp2
    go_ret
    rw [← HL.out]
    exact ⟨rfl, fp', ⟨h, n', NodeR.kept (S := fun _ => False) ((Kept.refl _ w1).drewN j2) h hN1 (fun _ _ h => h), fun hh => by have := h2n hh; omega, by omega⟩, hsub, hk1.drewN j2⟩
end Go.Proofs.YtdpfohgkikjeaaaGreat
/- each: the items in their order, to whatever loop body. -/
namespace Go.Proofs.YtdpfohgkikjeaaaGreat
open Go.RowKit Go.Shelf
set_option linter.unusedVariables false
set_option linter.unusedSimpArgs false
attribute [local go_sem] Oper.semAt_some

theorem RoundIn.anyDepth {F : Fence} (hd : F.depth = none) {m m' : Nat} {P : Program} {l : Nat} {f : FuncId} {tmps : Array Value} {assign body : Code} {w : World} {R : Ending → World → Prop}
    (h : RoundIn F m P l f tmps assign body w R) : RoundIn F m' P l f tmps assign body w R := ⟨h.1, fun c cs _ => h.2 c cs (fun d h => by rw [hd] at h; cases h)⟩
theorem YieldAt.anyDepth {F : Fence} (hd : F.depth = none) {m : Nat} (m' : Nat) {P : Program} {l : Nat} {args : Array Value} {W : World} {R : Ending → World → Prop} (h : YieldAt F m P l args W R) : YieldAt F m' P l args W R := by
  obtain ⟨fn, tmps, assign, body, hy, hR⟩ := h
  exact ⟨fn, tmps, assign, body, hy, RoundIn.anyDepth hd hR⟩

theorem kept_of_belowN {n₀ : Nat} {W W' : World} (h : Below n₀ W W') : Kept (fun x => n₀ ≤ x) W W' := ⟨h.os, h.tape, h.output, h.size, fun k _ hn => h.block k (Nat.lt_of_not_le hn)⟩

set_option maxRecDepth 100000 in
set_option maxHeartbeats 2000000 in
theorem each_leaf (F : Fence) (hd : F.depth = none) (he : F.fn 81) (hro : F.round = none) (l n₀ : Nat) (Ls : List Str) (J Jx : List Str → World → Prop)
    (hY : ∀ m pre x W, J pre W → pre ++ [x] <+: Ls → YieldAt F m Tryz.prog l #[sv x] W fun e W' =>
      (e = .returned (.bool true) ∧ J (pre ++ [x]) W' ∧ Below n₀ W W') ∨ (e = .returned (.bool false) ∧ Jx (pre ++ [x]) W'))
    (n : Nat) (rest : List Value) (T : TypeId) (k : Kid) (pre : List Str) (W : World) (hN : NodeR W 0 rest T k) (hfp : ∀ x ∈ k.fp, x < n₀) (hJ : J pre W) (hlen : pre ++ k.ls <+: Ls) (hsm : k.ls.length ≤ 1000) :
      CallsIn F n Tryz.prog 81 #[.pointer (some ⟨k.b, 0, none⟩), .func (.yield l) #[] #[]] W fun e W' =>
        (e = .returned (.bool true) ∧ J (pre ++ k.ls) W' ∧ Below n₀ W W') ∨ (e = .returned (.bool false) ∧ ∃ q, q <+: k.ls ∧ Jx (pre ++ q) W') := by
  obtain ⟨v, hL⟩ := hN
  obtain ⟨b, nn, ls, fp⟩ := k
  obtain ⟨hb, hr, hfpe, hnd⟩ := hL
  simp only at hb hr hfpe hnd hfp hlen hsm
  simp only [Kid.count] at hb
  have hll : ls.length = nn := by simpa using hr.len
  subst hll
  have hdd : ∀ k : Nat, (F.depth.isSome = true → 1 ≤ k) := fun k h => by rw [hd] at h; cases h
  obtain ⟨pv, cv, rfl⟩ := hr.slice
  obtain ⟨hc, hf⟩ := cells_of hb
  refine callsIn_of_wp Tryz.func81 rfl he ?_ hro
  simp only [Tryz.ntmps81, List.size_toArray, List.length_cons, List.length_nil, Nat.reduceAdd, Nat.reduceSub, Array.replicate_succ, Array.replicate_zero, List.push_toArray, List.append_toArray, List.nil_append, List.cons_append]
  gi_wp2
  gi_loopw [14] (fun i wr => ∃ j : Nat, j ≤ ls.length ∧ i = .int .i64 j ∧ J (pre ++ ls.take j) wr ∧ Below n₀ W wr) (fun i _ => ls.length - (intOf i).toNat)
  case atStart => exact ⟨0, Nat.zero_le _, rfl, by simpa using hJ, Below.refl _ _⟩
  case round =>
    obtain ⟨j, hj, rfl, hJj, hbj⟩ := hrel
    have hkj := kept_of_belowN hbj
    have hbr := hkj.get hb (fun h => by have := hfp b (by rw [hfpe]; simp); omega)
    have hrr := hr.kept hkj (fun x hx h => by have := hfp x (by rw [hfpe]; simp [hx]); omega)
    obtain ⟨hcr, hfr⟩ := cells_of hbr
    by_cases hlt : j < ls.length
    · have hit : Hid (ls.take (j + 1) = ls.take j ++ [ls[j]]) := List.take_succ_eq_append_getElem hlt
      rcases hrr.shape with ⟨h0, h1, _⟩ | ⟨g, c', hv, _, _⟩
      · omega
      simp only [Value.slice.injEq, true_and] at hv
      obtain ⟨rfl, rfl⟩ := hv
      obtain ⟨_, _, _, hcell⟩ := hrr.cell
      have hcj := hcell j (sv ls[j]) (by simp [hlt])
      clear hcell
      obtain ⟨fn, tmps, assign, body, hy, hR⟩ := hY (n - 1) (pre ++ ls.take j) ls[j] wr hJj (by rw [List.append_assoc, ← hit.out]; exact ((List.prefix_append_right_inj _).2 (List.take_prefix _ _)).trans hlen)
      generalize ls[j] = x at hit hcj hy hR
      gi_wp2
      refine hR.mono ?_
      rintro e W3 (⟨rfl, hJ3, hk3⟩ | ⟨rfl, hJx3⟩)
      · gi_wp2
        go_roundw
        case rel => exact ⟨j + 1, hlt, by go_num, by rw [hit.out, ← List.append_assoc]; exact hJ3, hbj.trans hk3⟩
        case measure => simp [intOf]; omega
      · gi_wp2
        go_ret
        exact .inr ⟨rfl, ls.take (j + 1), List.take_prefix _ _, by rw [hit.out, ← List.append_assoc]; exact hJx3⟩
    · gi_wp2
      gi_loopw [28] (fun i wr2 => i = .int .i64 0 ∧ wr2 = wr) (fun _ _ => 0)
      case atStart => exact ⟨rfl, rfl⟩
      case round =>
        obtain ⟨rfl, rfl⟩ := hrel
        gi_wp2
        go_ret
        have e : ls.take j = ls := List.take_of_length_le (by omega)
        rw [e] at hJj
        exact .inl ⟨rfl, hJj, hbj⟩
end Go.Proofs.YtdpfohgkikjeaaaGreat
/- each over whole nodes; All. -/
namespace Go.Proofs.YtdpfohgkikjeaaaGreat
open Go.RowKit Go.Shelf
set_option linter.unusedVariables false
set_option linter.unusedSimpArgs false
attribute [local go_sem] Oper.semAt_some

set_option maxRecDepth 100000 in
set_option maxHeartbeats 2000000 in
theorem each_in (F : Fence) (hd : F.depth = none) (he : F.fn 81) (hro : F.round = none) (l n₀ : Nat) (Ls : List Str) (J Jx : List Str → World → Prop)
    (hY : ∀ m pre x W, J pre W → pre ++ [x] <+: Ls → YieldAt F m Tryz.prog l #[sv x] W fun e W' =>
      (e = .returned (.bool true) ∧ J (pre ++ [x]) W' ∧ Below n₀ W W') ∨ (e = .returned (.bool false) ∧ Jx (pre ++ [x]) W')) :
    ∀ (h n : Nat) (rest : List Value) (T : TypeId) (k : Kid) (pre : List Str) (W : World), NodeR W h rest T k → (∀ x ∈ k.fp, x < n₀) → J pre W → pre ++ k.ls <+: Ls → k.ls.length ≤ 1000 → k.n ≤ 1000 →
      CallsIn F n Tryz.prog 81 #[.pointer (some ⟨k.b, 0, none⟩), .func (.yield l) #[] #[]] W fun e W' =>
        (e = .returned (.bool true) ∧ J (pre ++ k.ls) W' ∧ Below n₀ W W') ∨ (e = .returned (.bool false) ∧ ∃ q, q <+: k.ls ∧ Jx (pre ++ q) W')
  | 0, n, rest, T, k, pre, W, hN, hfp, hJ, hlen, hsm, _ => each_leaf F hd he hro l n₀ Ls J Jx hY n rest T k pre W hN hfp hJ hlen hsm
  | h + 1, n, rest, T, k, pre, W, hN, hfp, hJ, hlen, hsm, hnn => by
    have IH := each_in F hd he hro l n₀ Ls J Jx hY h
    clear hY
    obtain ⟨v, ks, hB, hkl, hkf, hkn, h0, hok⟩ := Brn.of_node hN
    obtain ⟨b, nn, ls, fp⟩ := k
    simp only at hB hkl hkf hkn hfp hlen hsm h0 hnn
    subst hkl
    subst hkf
    subst hkn
    simp only [Kid.count] at hB
    have hdd : ∀ k : Nat, (F.depth.isSome = true → 1 ≤ k) := fun k h => by rw [hd] at h; cases h
    obtain ⟨pv, cv, rfl⟩ := hB.row.slice
    obtain ⟨hc, hf⟩ := cells_of hB.cells
    have hrow := hB.row
    have hfam := hB.fam
    refine callsIn_of_wp Tryz.func81 rfl he ?_ hro
    simp only [Tryz.ntmps81, List.size_toArray, List.length_cons, List.length_nil, Nat.reduceAdd, Nat.reduceSub, Array.replicate_succ, Array.replicate_zero, List.push_toArray, List.append_toArray, List.nil_append, List.cons_append]
    gi_wp2
    gi_loopw [14] (fun i wr2 => i = .int .i64 0 ∧ wr2 = W) (fun _ _ => 0)
    case atStart => exact ⟨rfl, rfl⟩
    case round =>
      obtain ⟨rfl, hwr⟩ := hrel
      rw [hwr]
      clear hwr
      gi_wp2
      gi_loopw [28] (fun i wr => ∃ j : Nat, j ≤ ks.length ∧ i = .int .i64 j ∧ J (pre ++ itemsOf (ks.take j)) wr ∧ Below n₀ W wr) (fun i _ => ks.length - (intOf i).toNat)
      case atStart => exact ⟨0, Nat.zero_le _, rfl, by simpa [itemsOf] using hJ, Below.refl _ _⟩
      case round =>
        obtain ⟨j, hj, rfl, hJj, hbj⟩ := hrel
        have hkj := kept_of_belowN hbj
        have hrr := hrow.kept hkj (fun x hx h => by have := hfp x (by simp [hx]); omega)
        have hfr := hfam.kept hkj (fun x hx h => by have := hfp x (by simp [hx]); omega)
        by_cases hlt : j < ks.length
        · have hit : Hid (itemsOf (ks.take (j + 1)) = itemsOf (ks.take j) ++ (ks[j]).ls) := itemsOf_take ks j hlt
          rcases hrr.shape with ⟨h0, h1, _⟩ | ⟨g, c', hv, _, _⟩
          · omega
          simp only [Value.slice.injEq, true_and] at hv
          obtain ⟨rfl, rfl⟩ := hv
          obtain ⟨_, _, _, hcell⟩ := hrr.cell
          have hcj := hcell j (ks[j]).ptr (by simp [hlt])
          clear hcell
          have hmem : ks[j] ∈ ks := List.getElem_mem hlt
          have hcl := itemsOf_mem hmem
          have hll : (itemsOf (ks.take j)).length + (ks[j]).ls.length ≤ (itemsOf ks).length := by
            have e : itemsOf ks = itemsOf (ks.take (j + 1)) ++ itemsOf (ks.drop (j + 1)) := by rw [← itemsOf_append, List.take_append_drop]
            rw [e, hit.out, List.length_append, List.length_append]; omega
          have hcf : ∀ x ∈ (ks[j]).fp, x < n₀ := fun x hx => hfp x (List.mem_cons_of_mem _ (List.mem_append.2 (.inr (mem_blocksOf.2 ⟨_, hmem, hx⟩))))
          have hcok := hok _ hmem
          have hcN := hfr.each _ hmem
          have hpre : Hid (itemsOf (ks.take j) ++ (ks[j]).ls <+: itemsOf ks) := by
            show _ <+: _
            rw [← hit.out]
            have e : itemsOf ks = itemsOf (ks.take (j + 1)) ++ itemsOf (ks.drop (j + 1)) := by rw [← itemsOf_append, List.take_append_drop]
            exact ⟨_, e.symm⟩
          have hIH := IH (n - 1) [] nodeT ks[j] (pre ++ itemsOf (ks.take j)) wr hcN hcf hJj (by rw [List.append_assoc]; exact ((List.prefix_append_right_inj _).2 hpre.out).trans hlen) (by omega) (by omega)
          generalize ks[j] = c at hit hcj hIH hpre hcl hll hcf hcok hcN hmem
          simp only [Kid.ptr] at hcj
          gi_wp2_with fail
          refine hIH.mono ?_
          rintro e W3 (⟨rfl, hJ3, hk3⟩ | ⟨rfl, q, hq, hJx3⟩)
          · gi_wp2
            go_roundw
            case rel => exact ⟨j + 1, hlt, by go_num, by rw [hit.out, ← List.append_assoc]; exact hJ3, hbj.trans hk3⟩
            case measure => simp [intOf]; omega
          · gi_wp2
            go_ret
            refine .inr ⟨rfl, itemsOf (ks.take j) ++ q, ?_, by rw [← List.append_assoc]; exact hJx3⟩
            exact ((List.prefix_append_right_inj _).2 hq).trans hpre.out
        · gi_wp2
          go_ret
          have e : ks.take j = ks := List.take_of_length_le (by omega)
          rw [e] at hJj
          exact .inl ⟨rfl, hJj, hbj⟩
end Go.Proofs.YtdpfohgkikjeaaaGreat
/- All; Text: the bytes of the lines. -/
namespace Go.Proofs.YtdpfohgkikjeaaaGreat
open Go.RowKit Go.Shelf
set_option linter.unusedVariables false
set_option linter.unusedSimpArgs false
attribute [local go_sem] Oper.semAt_some

theorem all_in (F : Fence) (n : Nat) (h : F.fn 49) (hro : F.round = none) (p0 : Option Addr) (w : World) :
    CallsIn F n Tryz.prog 49 #[.pointer p0] w fun e w' => e = .returned (.func (.func 80) #[] #[.pointer (some ⟨w.heap.size, 0, none⟩)]) ∧ w' = w.alloc (.cells #[.pointer p0] 134) := by
  refine callsIn_of_wp Tryz.func49 rfl h ?_ hro
  simp only [Tryz.ntmps49, List.size_toArray, List.length_cons, List.length_nil, Nat.reduceAdd, Nat.reduceSub, Array.replicate_succ, Array.replicate_zero, List.push_toArray, List.append_toArray, List.nil_append, List.cons_append]
  gi_wp2
  go_ret
  exact ⟨rfl, rfl⟩

/-- Item i of some. -/
def itemAt (ls : List Str) (i : Nat) : Str := (ls[i]?).getD []

set_option maxHeartbeats 1000000 in
theorem all1_in (F : Fence) (hd : F.depth = none) (n : Nat) (h5 : F.fn 80) (h6 : F.fn 81) (hro : F.round = none) (l Bt n₀ : Nat) (b : Nat) (rest : List Value) (T : TypeId) (ls : List Str) (fp : List Nat) (J Jx : List Nat → World → Prop)
    (hY : ∀ pre x W, J pre W → pre.length < ls.length → YieldAt F (n - 1) Tryz.prog l #[sv (itemAt ls x)] W fun e W' =>
      (e = .returned (.bool true) ∧ J (pre ++ [x]) W' ∧ Below n₀ W W') ∨ (e = .returned (.bool false) ∧ Jx (pre ++ [x]) W'))
    (W : World) (hBt : W.cell? ⟨Bt, 0, none⟩ = some (.pointer (some ⟨b, 0, none⟩))) (hT : TreeR W b rest T ls fp) (hfp : ∀ x ∈ fp, x < n₀) (hsm : ls.length ≤ 1000) (h0 : J [] W) :
    CallsIn F n Tryz.prog 80 #[.func (.yield l) #[] #[], .pointer (some ⟨Bt, 0, none⟩)] W fun e W' => (∃ v, e = .returned v) ∧
      ((∃ ys, ys = List.range ls.length ∧ J ys W') ∨ (∃ pre, True ∧ Jx pre W')) := by
  have hdd : ∀ k : Nat, (F.depth.isSome = true → 1 ≤ k) := fun k h => by rw [hd] at h; cases h
  obtain ⟨h, nn, hN, _, h8⟩ := hT.ex
  have hp := each_in F hd h6 hro l n₀ ls (fun ss W => J (List.range ss.length) W) (fun ss W => Jx (List.range ss.length) W) (fun m pre x W hj hl => by
    have hx : x = itemAt ls pre.length ∧ pre.length < ls.length := by
      obtain ⟨r, hr⟩ := hl
      subst hr
      refine ⟨?_, by simp⟩
      simp [itemAt]
    rw [hx.1]
    refine YieldAt.anyDepth hd m ((hY (List.range pre.length) pre.length W hj (by simpa using hx.2)).mono (fun e W' hh => ?_))
    rw [← List.range_succ] at hh
    simpa using hh) h (n - 1) rest T ⟨b, nn, ls, fp⟩ [] W hN hfp (by simpa using h0) (by simp) hsm (by simp only; omega)
  simp only at hp
  refine callsIn_of_wp Tryz.func80 rfl h5 ?_ hro
  simp only [Tryz.ntmps80, List.size_toArray, List.length_cons, List.length_nil, Nat.reduceAdd, Nat.reduceSub, Array.replicate_succ, Array.replicate_zero, List.push_toArray, List.append_toArray, List.nil_append, List.cons_append]
  gi_wp2_with ((try refine ⟨hdd _, ?_⟩); gi_at_call 81; refine hp.mono ?_; clear hp; rintro e W1 (⟨rfl, hJ1, _⟩ | ⟨rfl, q, hq, hx⟩))
  · go_end0
    exact ⟨⟨_, rfl⟩, .inl ⟨_, rfl, by simpa using hJ1⟩⟩
  · go_end0
    exact ⟨⟨_, rfl⟩, .inr ⟨_, trivial, hx⟩⟩

theorem all_stops (F : Fence) (hd : F.depth = none) (n : Nat) (h5 : F.fn 80) (h6 : F.fn 81) (hro : F.round = none) (Bt n₀ : Nat) (b : Nat) (rest : List Value) (T : TypeId) (ls : List Str) (fp : List Nat) (w : World) (hBt : Bt < w.heap.size) (hn₀ : n₀ ≤ w.heap.size)
    (hc : w.cell? ⟨Bt, 0, none⟩ = some (.pointer (some ⟨b, 0, none⟩))) (hT : TreeR w b rest T ls fp) (hfp : ∀ x ∈ fp, x < n₀) (hsm : ls.length ≤ 1000) :
    SeqStopsK F n Tryz.prog 80 #[.pointer (some ⟨Bt, 0, none⟩)] (fun x : Nat => #[sv (itemAt ls x)]) (Below n₀) (fun ys => ys = List.range ls.length) (fun _ => True) ls.length w := fun l J Jx W hW _ _ hY h0 =>
  all1_in F hd n h5 h6 hro l Bt n₀ b rest T ls fp J Jx hY W ((hW.cell (p := ⟨Bt, 0, none⟩) hBt).trans hc) (hT.kept (kept_of_belowN (hW.mono hn₀)) (fun x hx h => by have := hfp x hx; omega)) hfp hsm h0

/-- The items so far. -/
def itemsAt (ls : List Str) (pre : List Nat) : List Str := pre.map (itemAt ls)
theorem itemsAt_all (ls : List Str) : itemsAt ls (List.range ls.length) = ls := by
  unfold itemsAt itemAt
  refine List.ext_getElem (by simp) (fun i h1 h2 => ?_)
  simp at h1
  simp [h1]
theorem itemsAt_length {ls : List Str} (h : ∀ l ∈ ls, l.length ≤ 1000000) (pre : List Nat) : (textOf (itemsAt ls pre)).length ≤ 1000001 * pre.length := by
  induction pre with
  | nil => simp [itemsAt, textOf]
  | cons i pre ih =>
    have e : itemsAt ls (i :: pre) = itemAt ls i :: itemsAt ls pre := rfl
    rw [e, textOf_cons]
    have h1 : (itemAt ls i).length ≤ 1000000 := by
      unfold itemAt
      cases hh : ls[i]? with
      | none => simp
      | some x => exact h x (List.mem_of_getElem? hh)
    simp only [List.length_append, List.length_cons]
    omega

/-! ### A builder of this program's -/
def ρB : Ren := ⟨fun | 166 => 50 | 169 => 51 | 240 => 82 | 276 => 106 | n => n, fun | 0 => 0 | 3 => 3 | 4 => 4 | 5 => 5 | 9 => 9 | 20 => 20 | 37 => 56 | 70 => 104 | 72 => 106 | 75 => 111 | 80 => 53 | 127 => 140 | 164 => 170 | n => n, fun | n => n⟩
theorem lays166 : Lays.n166 Tryz.prog ρB := {
  mixed := by kernel_rfl
  f166 := Tryz.func50.trans (congrArg some (by kernel_rfl))
  f240 := Tryz.func82.trans (congrArg some (by kernel_rfl))
  f276 := Tryz.func106.trans (congrArg some (by kernel_rfl))
  t0 := Tryz.underlying0
  a0 := Tryz.isAgg0
  z0 := Tryz.sizeOf0
  v0 := Tryz.zeroValue0
  t3 := Tryz.underlying3
  a3 := Tryz.isAgg3
  z3 := Tryz.sizeOf3
  v3 := Tryz.zeroValue3
  t4 := Tryz.underlying4
  a4 := Tryz.isAgg4
  z4 := Tryz.sizeOf4
  v4 := Tryz.zeroValue4
  t9 := Tryz.underlying9
  a9 := Tryz.isAgg9
  z9 := Tryz.sizeOf9
  v9 := Tryz.zeroValue9
  t20 := Tryz.underlying20
  a20 := Tryz.isAgg20
  z20 := Tryz.sizeOf20
  v20 := Tryz.zeroValue20
  t37 := Tryz.underlying56
  a37 := Tryz.isAgg56
  z37 := Tryz.sizeOf56
  v37 := Tryz.zeroValue56
  t70 := Tryz.underlying104
  a70 := Tryz.isAgg104
  z70 := Tryz.sizeOf104
  v70 := Tryz.zeroValue104
  t72 := Tryz.underlying106
  a72 := Tryz.isAgg106
  z72 := Tryz.sizeOf106
  v72 := Tryz.zeroValue106
  t75 := Tryz.underlying111
  a75 := Tryz.isAgg111
  z75 := Tryz.sizeOf111
  v75 := Tryz.zeroValue111
  t164 := Tryz.underlying170
  a164 := Tryz.isAgg170
  z164 := Tryz.sizeOf170
  v164 := Tryz.zeroValue170 }
theorem lays169 : Lays.n169 Tryz.prog ρB := {
  mixed := by kernel_rfl
  f169 := Tryz.func51.trans (congrArg some (by kernel_rfl))
  t0 := Tryz.underlying0
  a0 := Tryz.isAgg0
  z0 := Tryz.sizeOf0
  v0 := Tryz.zeroValue0
  t3 := Tryz.underlying3
  a3 := Tryz.isAgg3
  z3 := Tryz.sizeOf3
  v3 := Tryz.zeroValue3
  t9 := Tryz.underlying9
  a9 := Tryz.isAgg9
  z9 := Tryz.sizeOf9
  v9 := Tryz.zeroValue9
  t37 := Tryz.underlying56
  a37 := Tryz.isAgg56
  z37 := Tryz.sizeOf56
  v37 := Tryz.zeroValue56
  t70 := Tryz.underlying104
  a70 := Tryz.isAgg104
  z70 := Tryz.sizeOf104
  v70 := Tryz.zeroValue104
  t72 := Tryz.underlying106
  a72 := Tryz.isAgg106
  z72 := Tryz.sizeOf106
  v72 := Tryz.zeroValue106
  t127 := Tryz.underlying140
  a127 := Tryz.isAgg140
  z127 := Tryz.sizeOf140
  v127 := Tryz.zeroValue140 }
theorem extraB : Builder.Extra Tryz.prog ρB := {
  sizeBuilder := by kernel_rfl
  liesBuilder := by kernel_rfl
  t5 := Tryz.underlying5
  a5 := Tryz.isAgg5
  z5 := Tryz.sizeOf5
  v5 := Tryz.zeroValue5
  infoByte := by kernel_rfl
  cellsByte := by kernel_rfl
  sizeByte := by kernel_rfl
  neB5 := by decide }

abbrev BuilderIs (b : Nat) (l : Str) (w : World) : Prop := Lib.IsBuilderF 106 5 b b (Lib.byteCells l) w

theorem writeString_any (b : Nat) (l : Str) (s : Str) (w : World) (h : BuilderIs b l w) (hlen : l.length + s.length ≤ 140737488355328) :
    Calls Tryz.prog 50 #[.pointer (some ⟨b, 0, none⟩), sv s] w fun e w' => e = .returned (.tuple #[.int .i64 s.length, .nilIface]) ∧ BuilderIs b (l ++ s) w' ∧ Below b w w' ∧ KeepsOthers w w' := by
  have hb : b ≤ w.heap.size := by
    rcases h with h | h
    · exact Nat.le_of_lt h.lt
    · exact Nat.le_of_lt h.lt
  have := Any.Builder_WriteString_k lays166 extraB b b (Lib.byteCells l) ⟨s.toArray⟩ w h (by rw [Lib.byteCells_length]; exact hlen) hb
  refine this.mono ?_
  rintro e w' ⟨rfl, h1, h2, h3⟩
  refine ⟨rfl, .inr ?_, h2, ⟨h2.size, fun k o hk ho => h3 k o hk ?_ (fun c fz e => by subst e; simp [Obj.isCells] at ho)⟩⟩
  · have e : Lib.byteCells l ++ Lib.strCells ⟨s.toArray⟩ = Lib.byteCells (l ++ s) := by simp [Lib.byteCells, Lib.strCells]
    rw [← e]; exact h1
  · intro e
    cases e
    rcases h with ⟨_, v, hb', _⟩ | ⟨_, v, hb', _⟩
    · rw [hb'] at hk; cases hk; simp [Obj.isCells] at ho
    · rw [hb'] at hk; cases hk; simp [Obj.isCells] at ho

theorem BuilderIs.others {b : Nat} {l : Str} {w w' : World} (h : BuilderIs b l w) (hs : w.heap.size ≤ w'.heap.size) (h3 : Lib.OthersKept 5 (some b) w w') : KeepsOthers w w' := by
  refine ⟨hs, fun k o hk ho => h3 k o hk ?_ (fun c fz e => by subst e; simp [Obj.isCells] at ho)⟩
  intro e
  cases e
  rcases h with ⟨_, v, hb', _⟩ | ⟨_, v, hb', _⟩
  · rw [hb'] at hk; cases hk; simp [Obj.isCells] at ho
  · rw [hb'] at hk; cases hk; simp [Obj.isCells] at ho

theorem string_any (b : Nat) (l : Str) (w : World) (h : BuilderIs b l w) :
    Calls Tryz.prog 51 #[.pointer (some ⟨b, 0, none⟩)] w fun e w' => e = .returned (sv l) ∧ Below b w w' ∧ KeepsOthers w w' := by
  have hb : b ≤ w.heap.size := by
    rcases h with h | h
    · exact Nat.le_of_lt h.lt
    · exact Nat.le_of_lt h.lt
  exact (Any.Builder_String_any_k lays169 extraB b b l w h hb).mono (fun e w' ⟨h1, _, h2, h3⟩ => ⟨h1, h2, BuilderIs.others h h2.size h3⟩)

theorem builder_kept {b : Nat} {l : Str} {w w' : World} {S : Blocks} (h : BuilderIs b l w) (hk : Kept S w w') (hS : ∀ k, S k → ∀ o, w.heap[k]? = some o → o.isCells = false) : BuilderIs b l w' := by
  have key : ∀ p, Lib.BuilderAtF 106 5 b b p (Lib.byteCells l) w → Lib.BuilderAtF 106 5 b b p (Lib.byteCells l) w' := fun p ⟨hB, v, hb, hown, hne⟩ => by
    refine ⟨hB, v, hk.get hb (fun hs => by have := hS b hs _ hb; simp [Obj.isCells] at this), ⟨hown.1, ?_⟩, hne⟩
    rcases hown.2 with h0 | ⟨g, cap, cur, fz, hv, hg, hh, r⟩
    · exact .inl h0
    · exact .inr ⟨g, cap, cur, fz, hv, hg, hk.get hh (fun hs => by have := hS g hs _ hh; simp [Obj.isCells] at this), r⟩
  exact h.elim (fun x => .inl (key _ x)) (fun x => .inr (key _ x))

theorem builder_new (w : World) : BuilderIs w.heap.size [] (w.alloc (.cells #[.pointer none, .slice none 0 0] 106)) :=
  .inl ⟨Nat.le_refl _, .slice none 0 0, heap_alloc_same, ⟨rfl, .inl ⟨rfl, rfl⟩⟩, by simp [Value.ownBlock]⟩
end Go.Proofs.YtdpfohgkikjeaaaGreat
/- Text: the walk. -/
namespace Go.Proofs.YtdpfohgkikjeaaaGreat
open Go.RowKit Go.Shelf
set_option linter.unusedVariables false
set_option linter.unusedSimpArgs false
attribute [local go_sem] Oper.semAt_some

set_option maxRecDepth 100000 in
set_option maxHeartbeats 2000000 in
theorem text_in (F : Fence) (hd : F.depth = none) (hro : F.round = none) (hfn : ∀ f, F.fn f) (HC : ∀ (f : FuncId) (args : Array Value) (w : World) (R : Ending → World → Prop) (n : Nat), Calls Tryz.prog f args w R → CallsIn F n Tryz.prog f args w R) {w : World} {b : Nat} {rest : List Value} {T : TypeId} {ls : List Str} {fp : List Nat} (hT : TreeR w b rest T ls fp) (hsm : ls.length ≤ 1000) (hlen : ∀ l ∈ ls, l.length ≤ 1000000) :
    CallsIn F 9 Tryz.prog 22 #[.pointer (some ⟨b, 0, none⟩)] w fun e w' => e = .returned (sv (textOf ls)) ∧ Kept no w w' := by
  have hfp := hT.lt
  have hdd : ∀ k : Nat, (F.depth.isSome = true → 1 ≤ k) := fun k h => by rw [hd] at h; cases h
  refine callsIn_of_wp_marks Tryz.func22 rfl (hfn _) ?_ hro
  simp only [Tryz.ntmps22, List.size_toArray, List.length_cons, List.length_nil, Nat.reduceAdd, Nat.reduceSub, Array.replicate_succ, Array.replicate_zero, List.push_toArray, List.append_toArray, List.nil_append, List.cons_append]
  gi_wp2_with (gi_at_call 49; refine (all_in F _ (hfn _) hro _ _).mono ?_; rintro e w' ⟨rfl, rfl⟩)
  have hbd := builder_new w
  obtain ⟨hn1, hsz1, hk1⟩ := new1 w (Obj.cells #[.pointer none, .slice none 0 0] 106)
  have hb1 := Below.heap_alloc
  generalize hB : w.heap.size = B at hbd hn1 hsz1 hfp ⊢
  generalize hw1 : w.alloc (Obj.cells #[.pointer none, .slice none 0 0] 106) = w1 at hbd hn1 hsz1 hk1 ⊢
  obtain ⟨hn2, hsz2, hk2⟩ := new1 w1 (Obj.cells #[.pointer (some ⟨b, 0, none⟩)] 134)
  have hbd2 := builder_kept hbd hk2 (fun _ h => h.elim)
  have hT2 := (hT.kept hk1 (fun _ _ h => h)).kept hk2 (fun _ _ h => h)
  have hk02 : Below B w (w1.alloc (Obj.cells #[.pointer (some ⟨b, 0, none⟩)] 134)) := by
    rw [← hw1, ← hB]; exact ((Below.refl _ w).alloc (Nat.le_refl _) _).alloc (by simp) _
  rw [hsz1] at hn2 hsz2
  generalize w1.alloc (Obj.cells #[.pointer (some ⟨b, 0, none⟩)] 134) = w2 at hn2 hsz2 hk2 hbd2 hT2 hk02 ⊢
  obtain ⟨hcb, hfb⟩ := cells_of hn2
  refine wpIn_rangeFunc_ownF hro (by decide) (gf := 80) (lb := #[.pointer (some ⟨B + 1, 0, none⟩)]) rfl (hfn _) (enters_of Tryz.func80 (by kernel_rfl) rfl)
    (all_stops F hd 8 (hfn _) (hfn _) hro (B + 1) B b rest T ls fp w2 (by omega) (by omega) (hcb 0) hT2 hfp hsm) belowK_t (belowK_b (by omega)) (Below.refl _ _) (fun _ => rfl)
    (fun pre W => BuilderIs B (textOf (itemsAt ls pre)) W ∧ Below B w W)
    (fun _ _ _ => False)
    ?hI
    (fun _ _ _ _ _ hs _ _ => hs)
    ⟨hbd2, hk02⟩
    (fun x => { tmps := #[.pointer (some ⟨b, 0, none⟩), undef, .string ⟨#[]⟩, .pointer (some ⟨B, 0, none⟩), sv (itemAt ls x), .pointer (some ⟨b, 0, none⟩), .pointer (some ⟨b, 0, none⟩), .pointer (some ⟨b, 0, none⟩), .func (.func 80) #[] #[.pointer (some ⟨B + 1, 0, none⟩)], sv (itemAt ls x), undef, undef, undef, undef], defers := [] }) ?assign ?body ?done ?stop
  case hI =>
    refine OwnFrom.and (fun s W W' row hs hg hr => builder_kept hs (Kept.of_grown (S := fun k => some k = row) hg (fun k e _ => e.symm)) (fun k e o ho => ?_)) (ownFrom_below (by omega) (by omega))
    obtain ⟨_, o', ho', hc'⟩ := hr k e.symm
    rw [ho'] at ho
    cases ho
    exact hc'
  case assign =>
    intro l x W K hK
    gi_wp2
    exact hK
  case body =>
    rintro l pre x W ⟨hbl, hbw⟩ hpl
    have hl1 := itemsAt_length hlen pre
    have hl2 := itemsAt_length hlen [x]
    have e2 : textOf (itemsAt ls [x]) = itemAt ls x ++ [10] := by simp [itemsAt, textOf]
    rw [e2] at hl2
    simp only [List.length_append, List.length_cons, List.length_nil] at hl2
    have e3 : textOf (itemsAt ls (pre ++ [x])) = textOf (itemsAt ls pre) ++ (itemAt ls x ++ [10]) := by rw [← e2, ← textOf_append]; simp [itemsAt]
    have E3 : Hid (textOf (itemsAt ls (pre ++ [x])) = textOf (itemsAt ls pre) ++ (itemAt ls x ++ [10])) := e3
    clear e2 e3
    have h5 : 1 ≤ 9 - 1 - 1 := by decide
    gi_wp2_with fail
    refine (CallsIn.inRound l (HC _ _ _ _ _ (writeString_any B _ _ W hbl (by omega)))).mono ?_
    rintro e W1 ⟨rfl, hbl1, hbw1, hko1⟩
    gi_wp2_with fail
    refine (CallsIn.inRound l (HC _ _ _ _ _ (writeString_any B _ [10] W1 hbl1 (by simp only [List.length_append, List.length_cons, List.length_nil]; omega)))).mono ?_
    rintro e W2 ⟨rfl, hbl2, hbw2, hko2⟩
    gi_wp2
    rw [List.append_assoc] at hbl2
    exact ⟨hko1.trans hko2, hbw1.trans hbw2, by rw [E3.out]; exact hbl2, hbw.trans (hbw1.trans hbw2)⟩
  case done =>
    rintro D ys W hD rfl ⟨hbl, hbw⟩ hK
    gi_wp2_with fail
    refine (HC _ _ _ _ _ (string_any B _ W hbl)).mono ?_
    rintro e W1 ⟨rfl, hb1, hko⟩
    have hK1 := hko.same D _ hK rfl
    rw [itemsAt_all]
    gi_wp2
    refine ⟨by simp, .inl ⟨_, _, rfl, run_takeDeferred hK1, ?_⟩⟩
    refine ⟨_, results_tmp rfl _ _ _, rfl, ?_⟩
    have hbf : Below B w W1 := hbw.trans hb1
    refine Kept.of_below ?_ no
    rw [hB]
    exact hbf.trans (belowK_b (w := w) (by omega) W1 D _ _ (by omega) hK1 rfl rfl)
  case stop =>
    rintro D c pre W _ _ h _
    exact h.elim

theorem text_any {w : World} {b : Nat} {rest : List Value} {T : TypeId} {ls : List Str} {fp : List Nat} (hT : TreeR w b rest T ls fp) (hsm : ls.length ≤ 1000) (hlen : ∀ l ∈ ls, l.length ≤ 1000000) :
    Calls Tryz.prog 22 #[.pointer (some ⟨b, 0, none⟩)] w fun e w' => e = .returned (sv (textOf ls)) ∧ Kept no w w' :=
  callsIn_wide.1 (text_in Fence.wide rfl rfl (fun _ => trivial) (fun _ _ _ _ _ h => callsIn_wide.2 h) hT hsm hlen)
end Go.Proofs.YtdpfohgkikjeaaaGreat

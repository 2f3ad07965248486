/- Part 6 of the proof: see its parts. -/
import Derived.Deep.LoopGhost
import Derived.RangeFuncKeeps
import Derived.RangeFuncFrom
import Derived.RangeFuncBound
import Derived.RangeFuncLeaves
import Derived.Shelf.Abstract
import Derived.OwnWalkIn
import Derived.TacticsInMore
import Derived.LoopNIn
import Derived.LoopIn
import Derived.Shelf.Strings.BuilderK
import Derived.RangeFuncNested
import Derived.RangeFuncCalls
import Derived.Test.YtdpfohgkikjeaaaW5
/- spot: where an item stands. -/
namespace Go.Proofs.Ytdpfohgkikjeaaa
set_option linter.unusedVariables false
set_option linter.unusedSimpArgs false
open Go.RowKit
set_option linter.unusedVariables false
set_option linter.unusedSimpArgs false
/-- The cell ⟨g, i⟩ holds item p of the node; another item may be written there. -/
structure SpotP (w : World) (h : Nat) (rest : List Value) (T : TypeId) (k : Kid) (p g i : Nat) : Prop where
  cell : ∀ s, k.ls[p]? = some s → w.cell? ⟨g, i, none⟩ = some (sv s)
  warm : w.frozen? ⟨g, i, none⟩ = false
  mem : g ∈ k.fp
  put : ∀ item, NodeR (w.setCell ⟨g, i, none⟩ (sv item)) h rest T ⟨k.b, k.n, k.ls.set p item, k.fp⟩

theorem spot_up {w : World} {h : Nat} {rest : List Value} {T : TypeId} {b : Nat} {v : Value} {A B : List Kid} {c : Kid} {q g i : Nat} (hB : Brn w h rest T b v (.int .i64 ((itemsOf (A ++ [c] ++ B)).length : Int)) (A ++ [c] ++ B)) (hok : ∀ z ∈ A ++ [c] ++ B, NOk z) (hq : q < c.ls.length) (hS : SpotP w h [] nodeT c q g i) :
    SpotP w (h + 1) rest T ⟨b, (A ++ [c] ++ B).length, itemsOf (A ++ [c] ++ B), b :: (fpv v ++ blocksOf (A ++ [c] ++ B))⟩ ((itemsOf A).length + q) g i := by
  have e : itemsOf (A ++ [c] ++ B) = itemsOf A ++ (c.ls ++ itemsOf B) := by simp [itemsOf]
  have hgm : g ∈ blocksOf (A ++ [c] ++ B) := mem_blocksOf.2 ⟨c, by simp, hS.mem⟩
  refine ⟨fun s hs => hS.cell s ?_, hS.warm, List.mem_cons_of_mem _ (List.mem_append.2 (.inr hgm)), fun item => ?_⟩
  · simp only [e] at hs
    rw [List.getElem?_append_right (by omega), show (itemsOf A).length + q - (itemsOf A).length = q by omega, List.getElem?_append_left hq] at hs
    exact hs
  · have hN := hS.put item
    obtain ⟨hB2, _⟩ := hB.turn (S := fun x => x = g) (M' := [⟨c.b, c.n, c.ls.set q item, c.fp⟩]) (Kept.cell1 (o := i) (u := sv item)) (fun x hx _ => by rw [blocksOf_one, hx]; exact hS.mem) (Fam.one hN) (fun x hx => by rw [blocksOf_one] at hx ⊢; exact .inl hx) (by simp [Kid.ptr])
    have e1 : itemsOf (A ++ [(⟨c.b, c.n, c.ls.set q item, c.fp⟩ : Kid)] ++ B) = (itemsOf (A ++ [c] ++ B)).set ((itemsOf A).length + q) item := by
      rw [e, List.set_append_right _ _ (by omega), show (itemsOf A).length + q - (itemsOf A).length = q by omega, List.set_append_left _ _ hq]
      simp [itemsOf]
    have e2 : (A ++ [(⟨c.b, c.n, c.ls.set q item, c.fp⟩ : Kid)] ++ B).length = (A ++ [c] ++ B).length := by simp
    have e3 : blocksOf (A ++ [(⟨c.b, c.n, c.ls.set q item, c.fp⟩ : Kid)] ++ B) = blocksOf (A ++ [c] ++ B) := by simp [blocksOf]
    have := hB2.node (by rw [e1, List.length_set]) (by simp; omega) (fun z hz => by
      simp only [List.mem_append, List.mem_cons, List.not_mem_nil, or_false] at hz
      rcases hz with (hz | rfl) | hz
      · exact hok z (by simp [hz])
      · exact hok c (by simp)
      · exact hok z (by simp [hz]))
    rw [e1, e2, e3] at this
    exact this

theorem spot_leaf {w : World} {rest : List Value} {T : TypeId} {k : Kid} {v : Value} {p : Nat} (hL : LeafR w rest T k v) (hp : p < k.ls.length) : ∃ g c, v = .slice (some ⟨g, 0, none⟩) k.n c ∧ SpotP w 0 rest T k p g p := by
  have hll := hL.len
  rcases hL.row.shape with ⟨rfl, h0, _⟩ | ⟨g, c, rfl, hnc, hcm⟩
  · omega
  obtain ⟨_, cur, hg, hcl, hct, _, _⟩ := hL.row.block
  have hbg : k.b ≠ g := fun e => by have := hL.nodup; rw [hL.fp, fpv_some, List.nodup_cons] at this; exact this.1 (by simp [e])
  refine ⟨g, c, rfl, fun s hs => ?_, (cells_of hg).2 p, by rw [hL.fp, fpv_some]; simp, fun item => ⟨_, ?_, ?_, hL.fp, hL.nodup⟩⟩
  · obtain ⟨_, _, _, hcell⟩ := hL.row.cell
    exact hcell p _ (by rw [List.getElem?_map, hs]; rfl)
  · have := heap_set_other (w := w) (b := g) (o := p) (k := k.b) (v := sv item) (fun e => hbg e.symm)
    rw [this]
    simpa [Kid.count] using hL.cells
  · refine Row.of_block (cur := cur.set p (sv item)) ?_ (by simpa using hcl) ?_ hnc hcm
    · rw [heap_set_same hg]; simp
    · rw [List.take_set, hct]; exact (List.map_set).symm

/-- The root of a tree. -/
structure TreeR (w : World) (b : Nat) (rest : List Value) (T : TypeId) (ls : List Str) (fp : List Nat) : Prop where
  ex : ∃ h n, NodeR w h rest T ⟨b, n, ls, fp⟩ ∧ (h ≠ 0 → 2 ≤ n) ∧ n ≤ 8

set_option maxHeartbeats 2000000 in
set_option maxRecDepth 100000 in
theorem spot_any {w : World} {h : Nat} {rest : List Value} {T : TypeId} {k : Kid} (hN : NodeR w h rest T k) (hk8 : k.n ≤ 8) (p : Nat) (pI : Int) (hpI : pI = (p : Int)) (hp : p < k.ls.length) (hl : k.ls.length ≤ 1000) :
    Calls Try.prog 40 #[.pointer (some ⟨k.b, 0, none⟩), .int .i64 pI] w fun e w' => ∃ g i, e = .returned (.pointer (some ⟨g, i, none⟩)) ∧ SpotP w h rest T k p g i ∧ w' = w := by
  subst hpI
  go_enter Try.func40, Try.ntmps40
  go_wp2
  go_loopg [0, 1] h (fun m s0 s1 wr => wr = w ∧ ∃ rest' T' k' p', s0 = .pointer (some ⟨k'.b, 0, none⟩) ∧ s1 = .int .i64 ((p' : Nat) : Int) ∧ NodeR w m rest' T' k' ∧ k'.n ≤ 8 ∧ p' < k'.ls.length ∧ k'.ls.length ≤ 1000 ∧ ∀ g i, SpotP w m rest' T' k' p' g i → SpotP w h rest T k p g i)
  case atStart => exact ⟨rfl, rest, T, k, p, rfl, rfl, hN, hk8, hp, hl, fun _ _ h => h⟩
  case round =>
    obtain ⟨rfl, rest', T', k', p', rfl, rfl, hN', hk8', hp', hl', hup⟩ := hrel
    cases gk with
    | zero =>
      obtain ⟨v, hL⟩ := hN'
      obtain ⟨g, c, rfl, hS⟩ := spot_leaf hL hp'
      have hll := hL.len
      have hi1 : (p' : Int) < (k'.n : Int) := by omega
      obtain ⟨hc, hf⟩ := cells_of hL.cells
      clear hll
      go_wp2_with (go_at_call 51; refine (leaf_calls hL.cells rfl true rfl).mono ?_; rintro e w1b ⟨rfl, rfl⟩)
      go_ret
      exact ⟨g, p', rfl, hup _ _ hS, rfl⟩
    | succ m =>
      obtain ⟨v, ks, hB, hkl, hkf, hkn, h0, hok⟩ := Brn.of_node hN'
      obtain ⟨b, n, ls, fp⟩ := k'
      simp only at hB hkl hkf hkn hk8' hp' hl' h0
      subst hkl
      subst hkf
      subst hkn
      simp only [Kid.count] at hB
      obtain ⟨A, c, B, hE, hs1, hs2, hs3, hs4⟩ := seek_spec ks 0 p' (by intro e; subst e; simp at h0) (by omega)
      replace hs4 := hs4 hp'
      obtain ⟨g, cv, hv, hcell⟩ := (hE ▸ hB.kidsAt : KidsAt wr v (A ++ c :: B)).mid
      rw [← hE] at hv
      subst hv
      have hAl : A.length < ks.length := by rw [hE]; simp
      have HE : Hid (ks = A ++ [c] ++ B) := by show ks = A ++ [c] ++ B; rw [hE]; simp
      have hcok := hok c (by rw [hE]; simp)
      have hcl : c.ls.length ≤ 1000 := by have := itemsOf_mem (ks := ks) (c := c) (by rw [hE]; simp); omega
      have HS : Hid ((seek ks 0 p').1 = A.length) := by show (seek ks 0 p').1 = A.length; omega
      have HP : Hid ((itemsOf A).length + (seek ks 0 p').2 = p') := hs2
      clear hE hs1 hs2
      obtain ⟨hc, hf⟩ := cells_of hB.cells
      go_wp2_with fail
      refine (leaf_calls hB.cells rfl false (by rw [decide_eq_false]; omega)).mono ?_
      rintro e w1b ⟨rfl, hw1⟩
      rw [hw1]
      clear hw1
      go_wp2_with fail
      refine (find_any b _ _ _ rest' T' ks p' _ rfl wr hB.cells hB.kidsAt (by omega) (by omega) (fun z hz => by have := itemsOf_mem hz; omega) (by omega)).mono ?_
      rintro e w1b ⟨rfl, hw1⟩
      rw [hw1, HS.out]
      clear hw1 HS
      generalize hq : (seek ks 0 p').2 = q at HP hs3 hs4 ⊢
      clear hq
      simp only [Kid.ptr] at hcell
      have hcN := hB.fam.each c (by rw [HE.out]; simp)
      go_wp2
      go_roundg m
      case measure => omega
      case rel =>
        refine ⟨rfl, [], nodeT, c, q, rfl, rfl, hcN, hcok.2, hs4, hcl, fun g' i' hS => hup g' i' ?_⟩
        have hE := HE.out
        have hP := HP.out
        subst hE
        subst hP
        exact spot_up hB hok hs4 hS
end Go.Proofs.Ytdpfohgkikjeaaa
/- The tree's own calls: Len, At, Set, Insert, Delete. -/
namespace Go.Proofs.Ytdpfohgkikjeaaa
set_option linter.unusedVariables false
set_option linter.unusedSimpArgs false
open Go.RowKit
set_option linter.unusedVariables false
set_option linter.unusedSimpArgs false
/-- A node's three cells; and the node where they are laid elsewhere. -/
structure Cells3 (w : World) (h : Nat) (rest : List Value) (T : TypeId) (k : Kid) (vi vk : Value) : Prop where
  cells : w.heap[k.b]? = some (.cells (vi :: vk :: k.count :: rest).toArray T (0, 0))
  items : ∃ p m c, vi = .slice p m c
  kids : ∃ p m c, vk = .slice p m c ∧ (h = 0 → m = 0) ∧ (h ≠ 0 → m = k.n)
  fp : ∃ tl, k.fp = k.b :: tl
  move : ∀ (w' : World) (S : Blocks) (L : Nat) (rest' : List Value) (T' : TypeId), Kept S w w' → (∀ x ∈ k.fp.tail, ¬ S x) → w'.heap[L]? = some (.cells (vi :: vk :: k.count :: rest').toArray T' (0, 0)) → L ∉ k.fp.tail → NodeR w' h rest' T' ⟨L, k.n, k.ls, L :: k.fp.tail⟩

theorem NodeR.three {w : World} {h : Nat} {rest : List Value} {T : TypeId} {k : Kid} (hN : NodeR w h rest T k) : ∃ vi vk, Cells3 w h rest T k vi vk := by
  cases h with
  | zero =>
    obtain ⟨v, hL⟩ := hN
    obtain ⟨p, c, hv⟩ := hL.row.slice
    refine ⟨v, nilS, hL.cells, ⟨p, _, c, hv⟩, ⟨none, 0, 0, rfl, fun _ => rfl, fun h => absurd rfl h⟩, ⟨_, hL.fp⟩, fun w' S L rest' T' hk hS hb hL' => ?_⟩
    have ht : k.fp.tail = fpv v := by rw [hL.fp]; rfl
    refine ⟨v, hb, hL.row.kept hk (fun x hx => hS x (by rw [ht]; exact hx)), by show L :: k.fp.tail = _; rw [ht], ?_⟩
    show (L :: k.fp.tail).Nodup
    rw [ht] at hL' ⊢
    exact List.nodup_cons.2 ⟨hL', fpv_nodup _⟩
  | succ h =>
    obtain ⟨h0, v, ks, hB, hc⟩ := hN
    obtain ⟨p, c, hv⟩ := hB.row.slice
    refine ⟨nilS, v, hB.cells, ⟨none, 0, 0, rfl⟩, ⟨p, _, c, hv, fun h => absurd h (by omega), fun _ => rfl⟩, ⟨_, hB.fp⟩, fun w' S L rest' T' hk hS hb hL' => ?_⟩
    have ht : k.fp.tail = fpv v ++ blocksOf ks := by rw [hB.fp]; rfl
    have hnd := hB.nodup
    rw [hB.fp, List.nodup_cons] at hnd
    refine ⟨h0, v, ks, ⟨hb, hB.row.kept hk (fun x hx => hS x (by rw [ht]; simp [hx])), hB.ls, by show L :: k.fp.tail = _; rw [ht], ?_⟩, fun c' hm => ⟨NodeR.kept hk h (hc c' hm).1 (fun x hx => hS x (by rw [ht]; exact List.mem_append.2 (.inr (mem_blocksOf.2 ⟨c', hm, hx⟩)))), (hc c' hm).2⟩⟩
    show (L :: k.fp.tail).Nodup
    rw [ht] at hL' ⊢
    exact List.nodup_cons.2 ⟨hL', hnd.2⟩

theorem TreeR.count {w b rest T ls fp} (h : TreeR w b rest T ls fp) : ∃ vi vk, w.heap[b]? = some (.cells (vi :: vk :: .int .i64 (ls.length : Int) :: rest).toArray T (0, 0)) := by
  obtain ⟨_, _, hN, _⟩ := h.ex
  obtain ⟨vi, vk, h3⟩ := hN.three
  exact ⟨vi, vk, h3.cells⟩

theorem TreeR.lt {w b rest T ls fp} (h : TreeR w b rest T ls fp) : ∀ x ∈ fp, x < w.heap.size := by
  obtain ⟨hh, _, hN, _⟩ := h.ex
  exact hN.lt

theorem TreeR.mem {w b rest T ls fp} (h : TreeR w b rest T ls fp) : b ∈ fp := by
  obtain ⟨hh, _, hN, _⟩ := h.ex
  exact hN.mem

theorem TreeR.kept {S : Blocks} {w w' b rest T ls fp} (h : TreeR w b rest T ls fp) (hk : Kept S w w') (hn : ∀ x ∈ fp, ¬ S x) : TreeR w' b rest T ls fp := by
  obtain ⟨hh, n, hN, h1⟩ := h.ex
  exact ⟨hh, n, NodeR.kept hk hh hN hn, h1⟩

theorem len_any {w : World} {b : Nat} {vi vk : Value} {n : Int} {rest : List Value} {T : TypeId} (hb : w.heap[b]? = some (.cells (vi :: vk :: .int .i64 n :: rest).toArray T (0, 0))) :
    Calls Try.prog 18 #[.pointer (some ⟨b, 0, none⟩)] w fun e w' => e = .returned (.int .i64 n) ∧ w' = w := by
  obtain ⟨hc, _⟩ := cells_of hb
  go_enter Try.func18, Try.ntmps18
  go_wp2
  go_ret
  exact ⟨rfl, rfl⟩

end Go.Proofs.Ytdpfohgkikjeaaa
/- The tree's own calls, on: Set, Delete. -/
namespace Go.Proofs.Ytdpfohgkikjeaaa
set_option linter.unusedVariables false
set_option linter.unusedSimpArgs false
open Go.RowKit
set_option linter.unusedVariables false
set_option linter.unusedSimpArgs false
/-- What a call leaves of a tree. -/
structure TreeTo (w w' : World) (b : Nat) (rest : List Value) (T : TypeId) (fp : List Nat) (ls' : List Str) (fp' : List Nat) : Prop where
  tree : TreeR w' b rest T ls' fp'
  sub : ∀ x ∈ fp', x ∈ fp ∨ w.heap.size ≤ x
  kept : Kept (fun x => x ∈ fp) w w'

theorem tset_any {w : World} {b : Nat} {ls : List Str} {rest : List Value} {T : TypeId} {fp : List Nat} (hT : TreeR w b rest T ls fp) (p : Nat) (pI : Int) (hpI : pI = (p : Int)) (hp : p < ls.length) (hl : ls.length ≤ 1000) (item : Str) :
    Calls Try.prog 20 #[.pointer (some ⟨b, 0, none⟩), .int .i64 pI, sv item] w fun e w' => e = .returned (.bool true) ∧ ∃ fp', TreeTo w w' b rest T fp (ls.set p item) fp' := by
  subst hpI
  obtain ⟨vi, vk, hb⟩ := hT.count
  obtain ⟨h, n, hN, h2n, h8⟩ := hT.ex
  have h2 : decide ((p : Int) < 0) = false := by simp
  have h3 : ¬ ((ls.length : Int) ≤ (p : Int)) := by omega
  have hs := spot_any hN h8 p _ rfl hp hl
  go_enter Try.func20, Try.ntmps20
  go_wp2_with (first | (go_at_call 18; refine (len_any hb).mono ?_; rintro e w1 ⟨rfl, rfl⟩) | (go_at_call 40; refine hs.mono ?_; rintro e w1 ⟨g, i, rfl, hS, rfl⟩; have hcell := hS.cell _ (List.getElem?_eq_getElem hp); have hwarm := hS.warm))
  go_ret
  exact ⟨rfl, fp, ⟨h, n, hS.put item, h2n, h8⟩, fun x hx => .inl hx, Kept.setCell (S := fun x => x ∈ fp) (Kept.refl _ _) (p := ⟨g, i, none⟩) (fun _ => hS.mem) _⟩

end Go.Proofs.Ytdpfohgkikjeaaa
/- The tree's own calls, on: Insert. -/
namespace Go.Proofs.Ytdpfohgkikjeaaa
set_option linter.unusedVariables false
set_option linter.unusedSimpArgs false
open Go.RowKit
set_option linter.unusedVariables false
set_option linter.unusedSimpArgs false
set_option maxHeartbeats 2000000 in
theorem tinsert_any {w : World} {b : Nat} {ls : List Str} {rest : List Value} {T : TypeId} {fp : List Nat} (hT : TreeR w b rest T ls fp) (p : Nat) (pI : Int) (hpI : pI = (p : Int)) (hp : p ≤ ls.length) (hl : ls.length ≤ 900) (item : Str) :
    Calls Try.prog 42 #[.pointer (some ⟨b, 0, none⟩), .int .i64 pI, sv item] w fun e w' => e = .returned (.bool true) ∧ ∃ fp', TreeTo w w' b rest T fp (ls.take p ++ item :: ls.drop p) fp' := by
  subst hpI
  obtain ⟨vi, vk, hb⟩ := hT.count
  obtain ⟨h, n, hN, h2n, h8⟩ := hT.ex
  have h2 : decide ((p : Int) < 0) = false := by simp
  have h3 : ¬ ((ls.length : Int) < (p : Int)) := by omega
  have hs := insert_any item h w rest T ⟨b, n, ls, fp⟩ p _ hN h2n h8 rfl hp (by simp only; omega)
  have hbfp := hN.mem
  go_enter Try.func42, Try.ntmps42
  go_upto_if 16 with (go_at_call 18; refine (len_any hb).mono ?_; rintro e w ⟨rfl, rfl⟩)
  go_wp2_with fail
  refine hs.mono ?_
  rintro e w1 ⟨rfl, ⟨b', n', ls', fp'⟩, hL, hls, hn1, hn2⟩
  obtain ⟨hN1, hb1, hsub, hk1⟩ := hL
  simp only at hls hn1 hn2 hb1 hN1 hsub hk1 hbfp
  subst hb1
  have HL : Hid (ls' = ls.take p ++ item :: ls.drop p) := hls
  have hll : ls'.length ≤ 1000 := by rw [hls]; simp; omega
  clear hls hb
  have hfill := hN1.fill (by simp only; omega)
  have hgtr := gtr_full (N := n') (by omega)
  obtain ⟨ui, uk, h3c⟩ := hN1.three
  obtain ⟨ip, im, ic, rfl⟩ := h3c.items
  obtain ⟨kp, km, kc, rfl, _, _⟩ := h3c.kids
  have hcells := h3c.cells
  simp only [Kid.count, Kid.ptr] at hcells hfill
  obtain ⟨hc1, hf1⟩ := cells_of hcells
  by_cases hful : 8 < n'
  · rw [decide_eq_true hful] at hgtr
    have hfill2 := hfill.mono (R' := fun e w2 => e = .returned (.float .f64 (fillBits n')) ∧ Kept no w1 w2 ∧ Kept no w2 w1) (fun e w2 ⟨he, j, hw⟩ => ⟨he, by subst hw; exact (Kept.refl _ _).drewN j, by subst hw; exact ⟨rfl, rfl, rfl, Nat.le_refl _, fun _ _ _ => rfl⟩⟩)
    go_upto_if 27 with (go_at_call 54; refine hfill2.mono ?_; rintro e w2 ⟨rfl, hk12, hk21⟩)
    have hN2 := NodeR.kept hk12 h hN1 (fun _ _ h => h)
    have hcells2 := hk12.get hcells (fun h => h)
    have hmove := h3c.move
    clear hc1 hf1 hcells
    obtain ⟨hc2, hf2⟩ := cells_of hcells2
    go_wp2_with fail
    obtain ⟨hn3, hsz3, hk3⟩ := new1 w2 (Obj.cells #[.slice ip im ic, .slice kp km kc, .int .i64 (ls'.length : Int)] 53)
    have hb3 := hk3.get hcells2 (fun h => h)
    have hfp1 : ∀ x ∈ fp', x < w1.heap.size := hN1.lt
    have hs12 := hk12.size
    have hs01 := hk1.size
    obtain ⟨tl, htl⟩ := h3c.fp
    simp only at htl
    subst htl
    simp only [List.tail_cons] at hmove
    generalize hL : w2.heap.size = L at hn3 hsz3 hs12 ⊢
    generalize w2.alloc (Obj.cells #[.slice ip im ic, .slice kp km kc, .int .i64 (ls'.length : Int)] 53) = w3 at hn3 hsz3 hk3 hb3 ⊢
    have hLn : L ∉ tl := fun hh => by have := hfp1 L (by simp [hh]); omega
    have hN3 := hmove w3 no L [] nodeT (hk12.step hk3) (fun _ _ h => h) hn3 hLn
    have hbtl : b' ∉ tl := by have := hN1.nodup; simp only [List.nodup_cons] at this; exact this.1
    refine (split_node hN3 (by simp only; omega) (by simp only; omega) (by simp only; omega)).mono ?_
    rintro e w4 ⟨x1, x2, rfl, hx1, hx2, hx1b, hx1n, hx2n, hxl, hxnd, hxf, hk4⟩
    simp only at hx1b hx1n hx2n hxl hxf hk4
    rw [show x2.ptr = .pointer (some ⟨x2.b, 0, none⟩) from rfl]
    have hbL : b' < L := by have := lt_of_heap hcells2; omega
    have hb4 := hk4.get hb3 (fun hh => by
      rcases List.mem_cons.1 hh with h1 | h1
      · omega
      · exact hbtl h1)
    have hs4 := hk4.size
    clear hc2 hf2
    have HX : Hid (ls' = x1.ls ++ x2.ls) := hxl
    clear hxl
    have hb5l : b' < w4.heap.size := lt_of_heap hb4
    obtain ⟨hc4, hf4⟩ := cells_of hb4
    go_wp2_with fail
    generalize hK : w4.heap.size = K at hb5l hs4 ⊢
    obtain ⟨w6, hw6⟩ : ∃ w6, w6 = ((w4.setCell ⟨b', 0, none⟩ (.slice none 0 0)).setCell ⟨b', 1, none⟩ (.slice (some ⟨K, 0, none⟩) 2 2)).setCell ⟨b', 2, none⟩ (.int .i64 0) := ⟨_, rfl⟩
    have hb6 : w6.heap[b']? = some (.cells (nilS :: .slice (some ⟨K, 0, none⟩) 2 2 :: .int .i64 0 :: rest).toArray T (0, 0)) := by
      have e1 := heap_set_same (o := 0) (v := .slice none 0 0) hb4
      have e2 := heap_set_same (o := 1) (v := .slice (some ⟨K, 0, none⟩) 2 2) e1
      have e3 := heap_set_same (o := 2) (v := .int .i64 0) e2
      rw [hw6, e3]; simp
    have hk6 : Kept (fun x => x = b') w4 w6 := by rw [hw6]; exact (Kept.cell1.step Kept.cell1).step Kept.cell1
    have hs6 : w6.heap.size = K := by rw [hw6, ← hK]; simp
    rw [← hw6]
    clear hw6 hc4 hf4
    obtain ⟨hn7, hsz7, hk7⟩ := new1 w6 (Obj.cells #[.pointer (some ⟨L, 0, none⟩), .pointer (some ⟨x2.b, 0, none⟩)] 108)
    have hb7 := hk7.get hb6 (fun h => h)
    rw [hs6] at hn7
    have hk7' : Kept (fun x => x = b') w4 (w6.alloc (Obj.cells #[.pointer (some ⟨L, 0, none⟩), .pointer (some ⟨x2.b, 0, none⟩)] 108)) := hk6.step (hk7.mono (fun _ h _ => h.elim))
    generalize w6.alloc (Obj.cells #[.pointer (some ⟨L, 0, none⟩), .pointer (some ⟨x2.b, 0, none⟩)] 108) = w7 at hn7 hsz7 hk7 hk7' hb7 ⊢
    have hbx : b' ∉ x1.fp ++ x2.fp := fun hh => by
      rcases hxf b' hh with h1 | h1
      · rcases List.mem_cons.1 h1 with h2 | h2
        · omega
        · exact hbtl h2
      · omega
    have hfam : Fam w7 h [x1, x2] := ⟨fun c hc => by
      simp at hc
      rcases hc with rfl | rfl
      · exact NodeR.kept hk7' h hx1 (fun x hx e => hbx (e ▸ List.mem_append.2 (.inl hx)))
      · exact NodeR.kept hk7' h hx2 (fun x hx e => hbx (e ▸ List.mem_append.2 (.inr hx))), by simpa [blocksOf] using hxnd⟩
    have hlt4 : ∀ x ∈ x1.fp ++ x2.fp, x < K := fun x hx => by
      rw [← hK]
      rcases List.mem_append.1 hx with hx | hx
      · exact hx1.lt h x hx
      · exact hx2.lt h x hx
    have hrow : Row w7 108 1 (.slice (some ⟨K, 0, none⟩) 2 2) [x1, x2].length ([x1, x2].map Kid.ptr) := by
      have e : [x1, x2].map Kid.ptr = [Value.pointer (some ⟨L, 0, none⟩), .pointer (some ⟨x2.b, 0, none⟩)] := by simp [Kid.ptr, hx1b]
      rw [e]
      exact Row.of_block (cur := [.pointer (some ⟨L, 0, none⟩), .pointer (some ⟨x2.b, 0, none⟩)]) hn7 rfl rfl (Nat.le_refl _) (by decide)
    have hxm1 := hx1.mem
    have hxm2 := hx2.mem
    have hlsum : (itemsOf [x1, x2]).length = ls'.length := by rw [HX.out]; simp [itemsOf]
    refine (tally_any b' _ _ _ rest T [x1, x2] none 0 0 rfl w7 hb7 (hfam.kidsAt hrow) (fun c hc e => hbx ?_) (by rw [fpv_some]; simp; omega) (by simp) (by omega) (by omega)).mono ?_
    · simp at hc
      rcases hc with rfl | rfl
      · exact List.mem_append.2 (.inl (e ▸ hxm1))
      · exact List.mem_append.2 (.inr (e ▸ hxm2))
    rintro e w8 ⟨rfl, hb8, hk8⟩
    have hB8 : Brn w8 h rest T b' (.slice (some ⟨K, 0, none⟩) 2 2) (.int .i64 ((itemsOf [x1, x2]).length : Int)) [x1, x2] := by
      refine ⟨by simpa using hb8, hrow.kept hk8 (fun x hx e => by rw [fpv_some] at hx; simp at hx; omega), hfam.kept hk8 (fun x hx e => hbx (by simpa [blocksOf, e] using hx)), ?_⟩
      have e1 : blocksOf [x1, x2] = x1.fp ++ x2.fp := by simp [blocksOf]
      rw [e1, fpv_some]
      refine List.nodup_cons.2 ⟨fun hh => ?_, List.nodup_cons.2 ⟨fun hh => ?_, hxnd⟩⟩
      · rcases List.mem_cons.1 hh with h1 | h1
        · omega
        · exact hbx h1
      · have := hlt4 K hh; omega
    have hN8 := hB8.node rfl (by simp) (fun c hc => by
      simp at hc
      rcases hc with rfl | rfl
      · exact ⟨by omega, by omega⟩
      · exact ⟨by omega, by omega⟩)
    have hit : itemsOf [x1, x2] = ls.take p ++ item :: ls.drop p := by rw [← HL.out, HX.out]; simp [itemsOf]
    rw [hit] at hN8
    go_wp2
    go_ret
    refine ⟨rfl, _, ⟨h + 1, 2, hN8, fun _ => Nat.le_refl _, by omega⟩, fun x hx => ?_, ?_⟩
    · have e1 : blocksOf [x1, x2] = x1.fp ++ x2.fp := by simp [blocksOf]
      rw [e1, fpv_some] at hx
      rcases List.mem_cons.1 hx with rfl | hx
      · exact .inl hbfp
      · rcases List.mem_cons.1 hx with rfl | hx
        · exact .inr (by omega)
        · rcases hxf x hx with h1 | h1
          · rcases List.mem_cons.1 h1 with rfl | h1
            · exact .inr (by omega)
            · exact hsub x (by simp [h1])
          · exact .inr (by omega)
    · have hk03 : Kept (fun x => x ∈ fp) w w3 := (hk1.step (hk12.mono (fun _ h _ => h.elim))).step (hk3.mono (fun _ h _ => h.elim))
      refine ((hk03.step' hk4 (fun x hx hlt => ?_)).step' hk7' (fun x hx _ => hx ▸ hbfp)).step' hk8 (fun x hx _ => hx ▸ hbfp)
      rcases List.mem_cons.1 hx with rfl | hx
      · omega
      · rcases hsub x (by simp [hx]) with h1 | h1
        · exact h1
        · omega
  · rw [decide_eq_false hful] at hgtr
    go_upto_if 27 with (go_at_call 54; refine hfill.mono ?_; rintro e w2 ⟨rfl, j2, rfl⟩)
    go_wp2
    go_ret
    rw [← HL.out]
    exact ⟨rfl, fp', ⟨h, n', NodeR.kept (S := fun _ => False) ((Kept.refl _ w1).drewN j2) h hN1 (fun _ _ h => h), fun hh => by have := h2n hh; omega, by omega⟩, hsub, hk1.drewN j2⟩
end Go.Proofs.Ytdpfohgkikjeaaa
/- each: the items in their order, to whatever loop body. -/
namespace Go.Proofs.Ytdpfohgkikjeaaa
set_option linter.unusedVariables false
set_option linter.unusedSimpArgs false
open Go.RowKit Go.Shelf
set_option linter.unusedVariables false
set_option linter.unusedSimpArgs false
attribute [local go_sem] Oper.semAt_some
theorem RoundIn.anyDepth {F : Fence} (hd : F.depth = none) {m m' : Nat} {P : Program} {l : Nat} {f : FuncId} {tmps : Array Value} {assign body : Code} {w : World} {R : Ending → World → Prop}
    (h : RoundIn F m P l f tmps assign body w R) : RoundIn F m' P l f tmps assign body w R := ⟨h.1, fun c cs _ => h.2 c cs (fun d h => by rw [hd] at h; cases h)⟩
theorem YieldAt.anyDepth {F : Fence} (hd : F.depth = none) {m : Nat} (m' : Nat) {P : Program} {l : Nat} {args : Array Value} {W : World} {R : Ending → World → Prop} (h : YieldAt F m P l args W R) : YieldAt F m' P l args W R := by
  obtain ⟨fn, tmps, assign, body, hy, hR⟩ := h
  exact ⟨fn, tmps, assign, body, hy, RoundIn.anyDepth hd hR⟩

theorem kept_of_belowN {n₀ : Nat} {W W' : World} (h : Below n₀ W W') : Kept (fun x => n₀ ≤ x) W W' := ⟨h.os, h.tape, h.output, h.size, fun k _ hn => h.block k (Nat.lt_of_not_le hn)⟩

set_option maxRecDepth 100000 in
set_option maxHeartbeats 2000000 in
theorem each_leaf (F : Fence) (hd : F.depth = none) (he : F.fn 44) (hro : F.round = none) (l n₀ : Nat) (Ls : List Str) (J Jx : List Str → World → Prop)
    (hY : ∀ m pre x W, J pre W → pre ++ [x] <+: Ls → YieldAt F m Try.prog l #[sv x] W fun e W' =>
      (e = .returned (.bool true) ∧ J (pre ++ [x]) W' ∧ Below n₀ W W') ∨ (e = .returned (.bool false) ∧ Jx (pre ++ [x]) W'))
    (n : Nat) (rest : List Value) (T : TypeId) (k : Kid) (pre : List Str) (W : World) (hN : NodeR W 0 rest T k) (hfp : ∀ x ∈ k.fp, x < n₀) (hJ : J pre W) (hlen : pre ++ k.ls <+: Ls) (hsm : k.ls.length ≤ 1000) :
      CallsIn F n Try.prog 44 #[.pointer (some ⟨k.b, 0, none⟩), .func (.yield l) #[] #[]] W fun e W' =>
        (e = .returned (.bool true) ∧ J (pre ++ k.ls) W' ∧ Below n₀ W W') ∨ (e = .returned (.bool false) ∧ ∃ q, q <+: k.ls ∧ Jx (pre ++ q) W') := by
  obtain ⟨v, hL⟩ := hN
  obtain ⟨b, nn, ls, fp⟩ := k
  obtain ⟨hb, hr, hfpe, hnd⟩ := hL
  simp only at hb hr hfpe hnd hfp hlen hsm
  simp only [Kid.count] at hb
  have hll : ls.length = nn := by simpa using hr.len
  subst hll
  have hdd : ∀ k : Nat, (F.depth.isSome = true → 1 ≤ k) := fun k h => by rw [hd] at h; cases h
  obtain ⟨pv, cv, rfl⟩ := hr.slice
  obtain ⟨hc, hf⟩ := cells_of hb
  refine callsIn_of_wp Try.func44 rfl he ?_ hro
  simp only [Try.ntmps44, List.size_toArray, List.length_cons, List.length_nil, Nat.reduceAdd, Nat.reduceSub, Array.replicate_succ, Array.replicate_zero, List.push_toArray, List.append_toArray, List.nil_append, List.cons_append]
  gi_wp2
  gi_loopw [14] (fun i wr => ∃ j : Nat, j ≤ ls.length ∧ i = .int .i64 j ∧ J (pre ++ ls.take j) wr ∧ Below n₀ W wr) (fun i _ => ls.length - (intOf i).toNat)
  case atStart => exact ⟨0, Nat.zero_le _, rfl, by simpa using hJ, Below.refl _ _⟩
  case round =>
    obtain ⟨j, hj, rfl, hJj, hbj⟩ := hrel
    have hkj := kept_of_belowN hbj
    have hbr := hkj.get hb (fun h => by have := hfp b (by rw [hfpe]; simp); omega)
    have hrr := hr.kept hkj (fun x hx h => by have := hfp x (by rw [hfpe]; simp [hx]); omega)
    obtain ⟨hcr, hfr⟩ := cells_of hbr
    by_cases hlt : j < ls.length
    · have hit : Hid (ls.take (j + 1) = ls.take j ++ [ls[j]]) := List.take_succ_eq_append_getElem hlt
      rcases hrr.shape with ⟨h0, h1, _⟩ | ⟨g, c', hv, _, _⟩
      · omega
      simp only [Value.slice.injEq, true_and] at hv
      obtain ⟨rfl, rfl⟩ := hv
      obtain ⟨_, _, _, hcell⟩ := hrr.cell
      have hcj := hcell j (sv ls[j]) (by simp [hlt])
      clear hcell
      obtain ⟨fn, tmps, assign, body, hy, hR⟩ := hY (n - 1) (pre ++ ls.take j) ls[j] wr hJj (by rw [List.append_assoc, ← hit.out]; exact ((List.prefix_append_right_inj _).2 (List.take_prefix _ _)).trans hlen)
      generalize ls[j] = x at hit hcj hy hR
      gi_wp2
      refine hR.mono ?_
      rintro e W3 (⟨rfl, hJ3, hk3⟩ | ⟨rfl, hJx3⟩)
      · gi_wp2
        go_roundw
        case rel => exact ⟨j + 1, hlt, by go_num, by rw [hit.out, ← List.append_assoc]; exact hJ3, hbj.trans hk3⟩
        case measure => simp [intOf]; omega
      · gi_wp2
        go_ret
        exact .inr ⟨rfl, ls.take (j + 1), List.take_prefix _ _, by rw [hit.out, ← List.append_assoc]; exact hJx3⟩
    · gi_wp2
      gi_loopw [28] (fun i wr2 => i = .int .i64 0 ∧ wr2 = wr) (fun _ _ => 0)
      case atStart => exact ⟨rfl, rfl⟩
      case round =>
        obtain ⟨rfl, rfl⟩ := hrel
        gi_wp2
        go_ret
        have e : ls.take j = ls := List.take_of_length_le (by omega)
        rw [e] at hJj
        exact .inl ⟨rfl, hJj, hbj⟩
end Go.Proofs.Ytdpfohgkikjeaaa
/- each over whole nodes; All. -/
namespace Go.Proofs.Ytdpfohgkikjeaaa
set_option linter.unusedVariables false
set_option linter.unusedSimpArgs false
open Go.RowKit Go.Shelf
set_option linter.unusedVariables false
set_option linter.unusedSimpArgs false
attribute [local go_sem] Oper.semAt_some
set_option maxRecDepth 100000 in
set_option maxHeartbeats 2000000 in
theorem each_in (F : Fence) (hd : F.depth = none) (he : F.fn 44) (hro : F.round = none) (l n₀ : Nat) (Ls : List Str) (J Jx : List Str → World → Prop)
    (hY : ∀ m pre x W, J pre W → pre ++ [x] <+: Ls → YieldAt F m Try.prog l #[sv x] W fun e W' =>
      (e = .returned (.bool true) ∧ J (pre ++ [x]) W' ∧ Below n₀ W W') ∨ (e = .returned (.bool false) ∧ Jx (pre ++ [x]) W')) :
    ∀ (h n : Nat) (rest : List Value) (T : TypeId) (k : Kid) (pre : List Str) (W : World), NodeR W h rest T k → (∀ x ∈ k.fp, x < n₀) → J pre W → pre ++ k.ls <+: Ls → k.ls.length ≤ 1000 → k.n ≤ 1000 →
      CallsIn F n Try.prog 44 #[.pointer (some ⟨k.b, 0, none⟩), .func (.yield l) #[] #[]] W fun e W' =>
        (e = .returned (.bool true) ∧ J (pre ++ k.ls) W' ∧ Below n₀ W W') ∨ (e = .returned (.bool false) ∧ ∃ q, q <+: k.ls ∧ Jx (pre ++ q) W')
  | 0, n, rest, T, k, pre, W, hN, hfp, hJ, hlen, hsm, _ => each_leaf F hd he hro l n₀ Ls J Jx hY n rest T k pre W hN hfp hJ hlen hsm
  | h + 1, n, rest, T, k, pre, W, hN, hfp, hJ, hlen, hsm, hnn => by
    have IH := each_in F hd he hro l n₀ Ls J Jx hY h
    clear hY
    obtain ⟨v, ks, hB, hkl, hkf, hkn, h0, hok⟩ := Brn.of_node hN
    obtain ⟨b, nn, ls, fp⟩ := k
    simp only at hB hkl hkf hkn hfp hlen hsm h0 hnn
    subst hkl
    subst hkf
    subst hkn
    simp only [Kid.count] at hB
    have hdd : ∀ k : Nat, (F.depth.isSome = true → 1 ≤ k) := fun k h => by rw [hd] at h; cases h
    obtain ⟨pv, cv, rfl⟩ := hB.row.slice
    obtain ⟨hc, hf⟩ := cells_of hB.cells
    have hrow := hB.row
    have hfam := hB.fam
    refine callsIn_of_wp Try.func44 rfl he ?_ hro
    simp only [Try.ntmps44, List.size_toArray, List.length_cons, List.length_nil, Nat.reduceAdd, Nat.reduceSub, Array.replicate_succ, Array.replicate_zero, List.push_toArray, List.append_toArray, List.nil_append, List.cons_append]
    gi_wp2
    gi_loopw [14] (fun i wr2 => i = .int .i64 0 ∧ wr2 = W) (fun _ _ => 0)
    case atStart => exact ⟨rfl, rfl⟩
    case round =>
      obtain ⟨rfl, hwr⟩ := hrel
      rw [hwr]
      clear hwr
      gi_wp2
      gi_loopw [28] (fun i wr => ∃ j : Nat, j ≤ ks.length ∧ i = .int .i64 j ∧ J (pre ++ itemsOf (ks.take j)) wr ∧ Below n₀ W wr) (fun i _ => ks.length - (intOf i).toNat)
      case atStart => exact ⟨0, Nat.zero_le _, rfl, by simpa [itemsOf] using hJ, Below.refl _ _⟩
      case round =>
        obtain ⟨j, hj, rfl, hJj, hbj⟩ := hrel
        have hkj := kept_of_belowN hbj
        have hrr := hrow.kept hkj (fun x hx h => by have := hfp x (by simp [hx]); omega)
        have hfr := hfam.kept hkj (fun x hx h => by have := hfp x (by simp [hx]); omega)
        by_cases hlt : j < ks.length
        · have hit : Hid (itemsOf (ks.take (j + 1)) = itemsOf (ks.take j) ++ (ks[j]).ls) := itemsOf_take ks j hlt
          rcases hrr.shape with ⟨h0, h1, _⟩ | ⟨g, c', hv, _, _⟩
          · omega
          simp only [Value.slice.injEq, true_and] at hv
          obtain ⟨rfl, rfl⟩ := hv
          obtain ⟨_, _, _, hcell⟩ := hrr.cell
          have hcj := hcell j (ks[j]).ptr (by simp [hlt])
          clear hcell
          have hmem : ks[j] ∈ ks := List.getElem_mem hlt
          have hcl := itemsOf_mem hmem
          have hll : (itemsOf (ks.take j)).length + (ks[j]).ls.length ≤ (itemsOf ks).length := by
            have e : itemsOf ks = itemsOf (ks.take (j + 1)) ++ itemsOf (ks.drop (j + 1)) := by rw [← itemsOf_append, List.take_append_drop]
            rw [e, hit.out, List.length_append, List.length_append]; omega
          have hcf : ∀ x ∈ (ks[j]).fp, x < n₀ := fun x hx => hfp x (List.mem_cons_of_mem _ (List.mem_append.2 (.inr (mem_blocksOf.2 ⟨_, hmem, hx⟩))))
          have hcok := hok _ hmem
          have hcN := hfr.each _ hmem
          have hpre : Hid (itemsOf (ks.take j) ++ (ks[j]).ls <+: itemsOf ks) := by
            show _ <+: _
            rw [← hit.out]
            have e : itemsOf ks = itemsOf (ks.take (j + 1)) ++ itemsOf (ks.drop (j + 1)) := by rw [← itemsOf_append, List.take_append_drop]
            exact ⟨_, e.symm⟩
          have hIH := IH (n - 1) [] nodeT ks[j] (pre ++ itemsOf (ks.take j)) wr hcN hcf hJj (by rw [List.append_assoc]; exact ((List.prefix_append_right_inj _).2 hpre.out).trans hlen) (by omega) (by omega)
          generalize ks[j] = c at hit hcj hIH hpre hcl hll hcf hcok hcN hmem
          simp only [Kid.ptr] at hcj
          gi_wp2_with fail
          refine hIH.mono ?_
          rintro e W3 (⟨rfl, hJ3, hk3⟩ | ⟨rfl, q, hq, hJx3⟩)
          · gi_wp2
            go_roundw
            case rel => exact ⟨j + 1, hlt, by go_num, by rw [hit.out, ← List.append_assoc]; exact hJ3, hbj.trans hk3⟩
            case measure => simp [intOf]; omega
          · gi_wp2
            go_ret
            refine .inr ⟨rfl, itemsOf (ks.take j) ++ q, ?_, by rw [← List.append_assoc]; exact hJx3⟩
            exact ((List.prefix_append_right_inj _).2 hq).trans hpre.out
        · gi_wp2
          go_ret
          have e : ks.take j = ks := List.take_of_length_le (by omega)
          rw [e] at hJj
          exact .inl ⟨rfl, hJj, hbj⟩
end Go.Proofs.Ytdpfohgkikjeaaa
/- All; Text: the bytes of the lines. -/
namespace Go.Proofs.Ytdpfohgkikjeaaa
set_option linter.unusedVariables false
set_option linter.unusedSimpArgs false
open Go.RowKit Go.Shelf
set_option linter.unusedVariables false
set_option linter.unusedSimpArgs false
attribute [local go_sem] Oper.semAt_some
theorem all_in (F : Fence) (n : Nat) (h : F.fn 24) (hro : F.round = none) (p0 : Option Addr) (w : World) :
    CallsIn F n Try.prog 24 #[.pointer p0] w fun e w' => e = .returned (.func (.func 43) #[] #[.pointer (some ⟨w.heap.size, 0, none⟩)]) ∧ w' = w.alloc (.cells #[.pointer p0] 96) := by
  refine callsIn_of_wp Try.func24 rfl h ?_ hro
  simp only [Try.ntmps24, List.size_toArray, List.length_cons, List.length_nil, Nat.reduceAdd, Nat.reduceSub, Array.replicate_succ, Array.replicate_zero, List.push_toArray, List.append_toArray, List.nil_append, List.cons_append]
  gi_wp2
  go_ret
  exact ⟨rfl, rfl⟩

/-- Item i of some. -/
def itemAt (ls : List Str) (i : Nat) : Str := (ls[i]?).getD []

set_option maxHeartbeats 1000000 in
theorem all1_in (F : Fence) (hd : F.depth = none) (n : Nat) (h5 : F.fn 43) (h6 : F.fn 44) (hro : F.round = none) (l Bt n₀ : Nat) (b : Nat) (rest : List Value) (T : TypeId) (ls : List Str) (fp : List Nat) (J Jx : List Nat → World → Prop)
    (hY : ∀ pre x W, J pre W → pre.length < ls.length → YieldAt F (n - 1) Try.prog l #[sv (itemAt ls x)] W fun e W' =>
      (e = .returned (.bool true) ∧ J (pre ++ [x]) W' ∧ Below n₀ W W') ∨ (e = .returned (.bool false) ∧ Jx (pre ++ [x]) W'))
    (W : World) (hBt : W.cell? ⟨Bt, 0, none⟩ = some (.pointer (some ⟨b, 0, none⟩))) (hT : TreeR W b rest T ls fp) (hfp : ∀ x ∈ fp, x < n₀) (hsm : ls.length ≤ 1000) (h0 : J [] W) :
    CallsIn F n Try.prog 43 #[.func (.yield l) #[] #[], .pointer (some ⟨Bt, 0, none⟩)] W fun e W' => (∃ v, e = .returned v) ∧
      ((∃ ys, ys = List.range ls.length ∧ J ys W') ∨ (∃ pre, True ∧ Jx pre W')) := by
  have hdd : ∀ k : Nat, (F.depth.isSome = true → 1 ≤ k) := fun k h => by rw [hd] at h; cases h
  obtain ⟨h, nn, hN, _, h8⟩ := hT.ex
  have hp := each_in F hd h6 hro l n₀ ls (fun ss W => J (List.range ss.length) W) (fun ss W => Jx (List.range ss.length) W) (fun m pre x W hj hl => by
    have hx : x = itemAt ls pre.length ∧ pre.length < ls.length := by
      obtain ⟨r, hr⟩ := hl
      subst hr
      refine ⟨?_, by simp⟩
      simp [itemAt]
    rw [hx.1]
    refine YieldAt.anyDepth hd m ((hY (List.range pre.length) pre.length W hj (by simpa using hx.2)).mono (fun e W' hh => ?_))
    rw [← List.range_succ] at hh
    simpa using hh) h (n - 1) rest T ⟨b, nn, ls, fp⟩ [] W hN hfp (by simpa using h0) (by simp) hsm (by simp only; omega)
  simp only at hp
  refine callsIn_of_wp Try.func43 rfl h5 ?_ hro
  simp only [Try.ntmps43, List.size_toArray, List.length_cons, List.length_nil, Nat.reduceAdd, Nat.reduceSub, Array.replicate_succ, Array.replicate_zero, List.push_toArray, List.append_toArray, List.nil_append, List.cons_append]
  gi_wp2_with ((try refine ⟨hdd _, ?_⟩); gi_at_call 44; refine hp.mono ?_; clear hp; rintro e W1 (⟨rfl, hJ1, _⟩ | ⟨rfl, q, hq, hx⟩))
  · go_end0
    exact ⟨⟨_, rfl⟩, .inl ⟨_, rfl, by simpa using hJ1⟩⟩
  · go_end0
    exact ⟨⟨_, rfl⟩, .inr ⟨_, trivial, hx⟩⟩

theorem all_stops (F : Fence) (hd : F.depth = none) (n : Nat) (h5 : F.fn 43) (h6 : F.fn 44) (hro : F.round = none) (Bt n₀ : Nat) (b : Nat) (rest : List Value) (T : TypeId) (ls : List Str) (fp : List Nat) (w : World) (hBt : Bt < w.heap.size) (hn₀ : n₀ ≤ w.heap.size)
    (hc : w.cell? ⟨Bt, 0, none⟩ = some (.pointer (some ⟨b, 0, none⟩))) (hT : TreeR w b rest T ls fp) (hfp : ∀ x ∈ fp, x < n₀) (hsm : ls.length ≤ 1000) :
    SeqStopsK F n Try.prog 43 #[.pointer (some ⟨Bt, 0, none⟩)] (fun x : Nat => #[sv (itemAt ls x)]) (Below n₀) (fun ys => ys = List.range ls.length) (fun _ => True) ls.length w := fun l J Jx W hW _ _ hY h0 =>
  all1_in F hd n h5 h6 hro l Bt n₀ b rest T ls fp J Jx hY W ((hW.cell (p := ⟨Bt, 0, none⟩) hBt).trans hc) (hT.kept (kept_of_belowN (hW.mono hn₀)) (fun x hx h => by have := hfp x hx; omega)) hfp hsm h0

/-- The items so far. -/
def itemsAt (ls : List Str) (pre : List Nat) : List Str := pre.map (itemAt ls)
theorem itemsAt_all (ls : List Str) : itemsAt ls (List.range ls.length) = ls := by
  unfold itemsAt itemAt
  refine List.ext_getElem (by simp) (fun i h1 h2 => ?_)
  simp at h1
  simp [h1]
theorem itemsAt_length {ls : List Str} (h : ∀ l ∈ ls, l.length ≤ 1000000) (pre : List Nat) : (textOf (itemsAt ls pre)).length ≤ 1000001 * pre.length := by
  induction pre with
  | nil => simp [itemsAt, textOf]
  | cons i pre ih =>
    have e : itemsAt ls (i :: pre) = itemAt ls i :: itemsAt ls pre := rfl
    rw [e, textOf_cons]
    have h1 : (itemAt ls i).length ≤ 1000000 := by
      unfold itemAt
      cases hh : ls[i]? with
      | none => simp
      | some x => exact h x (List.mem_of_getElem? hh)
    simp only [List.length_append, List.length_cons]
    omega

/-! ### A builder of this program's -/
def ρB : Ren := ⟨fun | 166 => 25 | 169 => 26 | 240 => 45 | 276 => 57 | n => n, fun | 0 => 0 | 3 => 3 | 4 => 4 | 5 => 5 | 9 => 9 | 20 => 20 | 37 => 71 | 70 => 73 | 72 => 75 | 75 => 80 | 80 => 37 | 127 => 101 | 164 => 114 | n => n, fun | n => n⟩
theorem lays166 : Lays.n166 Try.prog ρB := {
  mixed := by kernel_rfl
  f166 := Try.func25.trans (congrArg some (by kernel_rfl))
  f240 := Try.func45.trans (congrArg some (by kernel_rfl))
  f276 := Try.func57.trans (congrArg some (by kernel_rfl))
  t0 := Try.underlying0
  a0 := Try.isAgg0
  z0 := Try.sizeOf0
  v0 := Try.zeroValue0
  t3 := Try.underlying3
  a3 := Try.isAgg3
  z3 := Try.sizeOf3
  v3 := Try.zeroValue3
  t4 := Try.underlying4
  a4 := Try.isAgg4
  z4 := Try.sizeOf4
  v4 := Try.zeroValue4
  t9 := Try.underlying9
  a9 := Try.isAgg9
  z9 := Try.sizeOf9
  v9 := Try.zeroValue9
  t20 := Try.underlying20
  a20 := Try.isAgg20
  z20 := Try.sizeOf20
  v20 := Try.zeroValue20
  t37 := Try.underlying71
  a37 := Try.isAgg71
  z37 := Try.sizeOf71
  v37 := Try.zeroValue71
  t70 := Try.underlying73
  a70 := Try.isAgg73
  z70 := Try.sizeOf73
  v70 := Try.zeroValue73
  t72 := Try.underlying75
  a72 := Try.isAgg75
  z72 := Try.sizeOf75
  v72 := Try.zeroValue75
  t75 := Try.underlying80
  a75 := Try.isAgg80
  z75 := Try.sizeOf80
  v75 := Try.zeroValue80
  t164 := Try.underlying114
  a164 := Try.isAgg114
  z164 := Try.sizeOf114
  v164 := Try.zeroValue114 }
theorem lays169 : Lays.n169 Try.prog ρB := {
  mixed := by kernel_rfl
  f169 := Try.func26.trans (congrArg some (by kernel_rfl))
  t0 := Try.underlying0
  a0 := Try.isAgg0
  z0 := Try.sizeOf0
  v0 := Try.zeroValue0
  t3 := Try.underlying3
  a3 := Try.isAgg3
  z3 := Try.sizeOf3
  v3 := Try.zeroValue3
  t9 := Try.underlying9
  a9 := Try.isAgg9
  z9 := Try.sizeOf9
  v9 := Try.zeroValue9
  t37 := Try.underlying71
  a37 := Try.isAgg71
  z37 := Try.sizeOf71
  v37 := Try.zeroValue71
  t70 := Try.underlying73
  a70 := Try.isAgg73
  z70 := Try.sizeOf73
  v70 := Try.zeroValue73
  t72 := Try.underlying75
  a72 := Try.isAgg75
  z72 := Try.sizeOf75
  v72 := Try.zeroValue75
  t127 := Try.underlying101
  a127 := Try.isAgg101
  z127 := Try.sizeOf101
  v127 := Try.zeroValue101 }
theorem extraB : Builder.Extra Try.prog ρB := {
  sizeBuilder := by kernel_rfl
  liesBuilder := by kernel_rfl
  t5 := Try.underlying5
  a5 := Try.isAgg5
  z5 := Try.sizeOf5
  v5 := Try.zeroValue5
  infoByte := by kernel_rfl
  cellsByte := by kernel_rfl
  sizeByte := by kernel_rfl
  neB5 := by decide }

abbrev BuilderIs (b : Nat) (l : Str) (w : World) : Prop := Lib.IsBuilderF 75 5 b b (Lib.byteCells l) w

theorem writeString_any (b : Nat) (l : Str) (s : Str) (w : World) (h : BuilderIs b l w) (hlen : l.length + s.length ≤ 140737488355328) :
    Calls Try.prog 25 #[.pointer (some ⟨b, 0, none⟩), sv s] w fun e w' => e = .returned (.tuple #[.int .i64 s.length, .nilIface]) ∧ BuilderIs b (l ++ s) w' ∧ Below b w w' ∧ KeepsOthers w w' := by
  have hb : b ≤ w.heap.size := by
    rcases h with h | h
    · exact Nat.le_of_lt h.lt
    · exact Nat.le_of_lt h.lt
  have := Any.Builder_WriteString_k lays166 extraB b b (Lib.byteCells l) ⟨s.toArray⟩ w h (by rw [Lib.byteCells_length]; exact hlen) hb
  refine this.mono ?_
  rintro e w' ⟨rfl, h1, h2, h3⟩
  refine ⟨rfl, .inr ?_, h2, ⟨h2.size, fun k o hk ho => h3 k o hk ?_ (fun c fz e => by subst e; simp [Obj.isCells] at ho)⟩⟩
  · have e : Lib.byteCells l ++ Lib.strCells ⟨s.toArray⟩ = Lib.byteCells (l ++ s) := by simp [Lib.byteCells, Lib.strCells]
    rw [← e]; exact h1
  · intro e
    cases e
    rcases h with ⟨_, v, hb', _⟩ | ⟨_, v, hb', _⟩
    · rw [hb'] at hk; cases hk; simp [Obj.isCells] at ho
    · rw [hb'] at hk; cases hk; simp [Obj.isCells] at ho

theorem BuilderIs.others {b : Nat} {l : Str} {w w' : World} (h : BuilderIs b l w) (hs : w.heap.size ≤ w'.heap.size) (h3 : Lib.OthersKept 5 (some b) w w') : KeepsOthers w w' := by
  refine ⟨hs, fun k o hk ho => h3 k o hk ?_ (fun c fz e => by subst e; simp [Obj.isCells] at ho)⟩
  intro e
  cases e
  rcases h with ⟨_, v, hb', _⟩ | ⟨_, v, hb', _⟩
  · rw [hb'] at hk; cases hk; simp [Obj.isCells] at ho
  · rw [hb'] at hk; cases hk; simp [Obj.isCells] at ho

theorem string_any (b : Nat) (l : Str) (w : World) (h : BuilderIs b l w) :
    Calls Try.prog 26 #[.pointer (some ⟨b, 0, none⟩)] w fun e w' => e = .returned (sv l) ∧ Below b w w' ∧ KeepsOthers w w' := by
  have hb : b ≤ w.heap.size := by
    rcases h with h | h
    · exact Nat.le_of_lt h.lt
    · exact Nat.le_of_lt h.lt
  exact (Any.Builder_String_any_k lays169 extraB b b l w h hb).mono (fun e w' ⟨h1, _, h2, h3⟩ => ⟨h1, h2, BuilderIs.others h h2.size h3⟩)

theorem builder_kept {b : Nat} {l : Str} {w w' : World} {S : Blocks} (h : BuilderIs b l w) (hk : Kept S w w') (hS : ∀ k, S k → ∀ o, w.heap[k]? = some o → o.isCells = false) : BuilderIs b l w' := by
  have key : ∀ p, Lib.BuilderAtF 75 5 b b p (Lib.byteCells l) w → Lib.BuilderAtF 75 5 b b p (Lib.byteCells l) w' := fun p ⟨hB, v, hb, hown, hne⟩ => by
    refine ⟨hB, v, hk.get hb (fun hs => by have := hS b hs _ hb; simp [Obj.isCells] at this), ⟨hown.1, ?_⟩, hne⟩
    rcases hown.2 with h0 | ⟨g, cap, cur, fz, hv, hg, hh, r⟩
    · exact .inl h0
    · exact .inr ⟨g, cap, cur, fz, hv, hg, hk.get hh (fun hs => by have := hS g hs _ hh; simp [Obj.isCells] at this), r⟩
  exact h.elim (fun x => .inl (key _ x)) (fun x => .inr (key _ x))

theorem builder_new (w : World) : BuilderIs w.heap.size [] (w.alloc (.cells #[.pointer none, .slice none 0 0] 75)) :=
  .inl ⟨Nat.le_refl _, .slice none 0 0, heap_alloc_same, ⟨rfl, .inl ⟨rfl, rfl⟩⟩, by simp [Value.ownBlock]⟩
end Go.Proofs.Ytdpfohgkikjeaaa
/- Text: the walk. -/
namespace Go.Proofs.Ytdpfohgkikjeaaa
set_option linter.unusedVariables false
set_option linter.unusedSimpArgs false
open Go.RowKit Go.Shelf
set_option linter.unusedVariables false
set_option linter.unusedSimpArgs false
attribute [local go_sem] Oper.semAt_some
set_option maxRecDepth 100000 in
set_option maxHeartbeats 2000000 in
theorem text_in (F : Fence) (hd : F.depth = none) (hro : F.round = none) (hfn : ∀ f, F.fn f) (HC : ∀ (f : FuncId) (args : Array Value) (w : World) (R : Ending → World → Prop) (n : Nat), Calls Try.prog f args w R → CallsIn F n Try.prog f args w R) {w : World} {b : Nat} {rest : List Value} {T : TypeId} {ls : List Str} {fp : List Nat} (hT : TreeR w b rest T ls fp) (hsm : ls.length ≤ 1000) (hlen : ∀ l ∈ ls, l.length ≤ 1000000) :
    CallsIn F 9 Try.prog 8 #[.pointer (some ⟨b, 0, none⟩)] w fun e w' => e = .returned (sv (textOf ls)) ∧ Kept no w w' := by
  have hfp := hT.lt
  have hdd : ∀ k : Nat, (F.depth.isSome = true → 1 ≤ k) := fun k h => by rw [hd] at h; cases h
  refine callsIn_of_wp_marks Try.func8 rfl (hfn _) ?_ hro
  simp only [Try.ntmps8, List.size_toArray, List.length_cons, List.length_nil, Nat.reduceAdd, Nat.reduceSub, Array.replicate_succ, Array.replicate_zero, List.push_toArray, List.append_toArray, List.nil_append, List.cons_append]
  gi_wp2_with (gi_at_call 24; refine (all_in F _ (hfn _) hro _ _).mono ?_; rintro e w' ⟨rfl, rfl⟩)
  have hbd := builder_new w
  obtain ⟨hn1, hsz1, hk1⟩ := new1 w (Obj.cells #[.pointer none, .slice none 0 0] 75)
  have hb1 := Below.heap_alloc
  generalize hB : w.heap.size = B at hbd hn1 hsz1 hfp ⊢
  generalize hw1 : w.alloc (Obj.cells #[.pointer none, .slice none 0 0] 75) = w1 at hbd hn1 hsz1 hk1 ⊢
  obtain ⟨hn2, hsz2, hk2⟩ := new1 w1 (Obj.cells #[.pointer (some ⟨b, 0, none⟩)] 96)
  have hbd2 := builder_kept hbd hk2 (fun _ h => h.elim)
  have hT2 := (hT.kept hk1 (fun _ _ h => h)).kept hk2 (fun _ _ h => h)
  have hk02 : Below B w (w1.alloc (Obj.cells #[.pointer (some ⟨b, 0, none⟩)] 96)) := by
    rw [← hw1, ← hB]; exact ((Below.refl _ w).alloc (Nat.le_refl _) _).alloc (by simp) _
  rw [hsz1] at hn2 hsz2
  generalize w1.alloc (Obj.cells #[.pointer (some ⟨b, 0, none⟩)] 96) = w2 at hn2 hsz2 hk2 hbd2 hT2 hk02 ⊢
  obtain ⟨hcb, hfb⟩ := cells_of hn2
  refine wpIn_rangeFunc_ownF hro (by decide) (gf := 43) (lb := #[.pointer (some ⟨B + 1, 0, none⟩)]) rfl (hfn _) (enters_of Try.func43 (by kernel_rfl) rfl)
    (all_stops F hd 8 (hfn _) (hfn _) hro (B + 1) B b rest T ls fp w2 (by omega) (by omega) (hcb 0) hT2 hfp hsm) belowK_t (belowK_b (by omega)) (Below.refl _ _) (fun _ => rfl)
    (fun pre W => BuilderIs B (textOf (itemsAt ls pre)) W ∧ Below B w W)
    (fun _ _ _ => False)
    ?hI
    (fun _ _ _ _ _ hs _ _ => hs)
    ⟨hbd2, hk02⟩
    (fun x => { tmps := #[.pointer (some ⟨b, 0, none⟩), undef, .string ⟨#[]⟩, .pointer (some ⟨B, 0, none⟩), sv (itemAt ls x), .pointer (some ⟨b, 0, none⟩), .pointer (some ⟨b, 0, none⟩), .pointer (some ⟨b, 0, none⟩), .func (.func 43) #[] #[.pointer (some ⟨B + 1, 0, none⟩)], sv (itemAt ls x), undef, undef, undef, undef], defers := [] }) ?assign ?body ?done ?stop
  case hI =>
    refine OwnFrom.and (fun s W W' row hs hg hr => builder_kept hs (Kept.of_grown (S := fun k => some k = row) hg (fun k e _ => e.symm)) (fun k e o ho => ?_)) (ownFrom_below (by omega) (by omega))
    obtain ⟨_, o', ho', hc'⟩ := hr k e.symm
    rw [ho'] at ho
    cases ho
    exact hc'
  case assign =>
    intro l x W K hK
    gi_wp2
    exact hK
  case body =>
    rintro l pre x W ⟨hbl, hbw⟩ hpl
    have hl1 := itemsAt_length hlen pre
    have hl2 := itemsAt_length hlen [x]
    have e2 : textOf (itemsAt ls [x]) = itemAt ls x ++ [10] := by simp [itemsAt, textOf]
    rw [e2] at hl2
    simp only [List.length_append, List.length_cons, List.length_nil] at hl2
    have e3 : textOf (itemsAt ls (pre ++ [x])) = textOf (itemsAt ls pre) ++ (itemAt ls x ++ [10]) := by rw [← e2, ← textOf_append]; simp [itemsAt]
    have E3 : Hid (textOf (itemsAt ls (pre ++ [x])) = textOf (itemsAt ls pre) ++ (itemAt ls x ++ [10])) := e3
    clear e2 e3
    have h5 : 1 ≤ 9 - 1 - 1 := by decide
    gi_wp2_with fail
    refine (CallsIn.inRound l (HC _ _ _ _ _ (writeString_any B _ _ W hbl (by omega)))).mono ?_
    rintro e W1 ⟨rfl, hbl1, hbw1, hko1⟩
    gi_wp2_with fail
    refine (CallsIn.inRound l (HC _ _ _ _ _ (writeString_any B _ [10] W1 hbl1 (by simp only [List.length_append, List.length_cons, List.length_nil]; omega)))).mono ?_
    rintro e W2 ⟨rfl, hbl2, hbw2, hko2⟩
    gi_wp2
    rw [List.append_assoc] at hbl2
    exact ⟨hko1.trans hko2, hbw1.trans hbw2, by rw [E3.out]; exact hbl2, hbw.trans (hbw1.trans hbw2)⟩
  case done =>
    rintro D ys W hD rfl ⟨hbl, hbw⟩ hK
    gi_wp2_with fail
    refine (HC _ _ _ _ _ (string_any B _ W hbl)).mono ?_
    rintro e W1 ⟨rfl, hb1, hko⟩
    have hK1 := hko.same D _ hK rfl
    rw [itemsAt_all]
    gi_wp2
    refine ⟨by simp, .inl ⟨_, _, rfl, run_takeDeferred hK1, ?_⟩⟩
    refine ⟨_, results_tmp rfl _ _ _, rfl, ?_⟩
    have hbf : Below B w W1 := hbw.trans hb1
    refine Kept.of_below ?_ no
    rw [hB]
    exact hbf.trans (belowK_b (w := w) (by omega) W1 D _ _ (by omega) hK1 rfl rfl)
  case stop =>
    rintro D c pre W _ _ h _
    exact h.elim

theorem text_any {w : World} {b : Nat} {rest : List Value} {T : TypeId} {ls : List Str} {fp : List Nat} (hT : TreeR w b rest T ls fp) (hsm : ls.length ≤ 1000) (hlen : ∀ l ∈ ls, l.length ≤ 1000000) :
    Calls Try.prog 8 #[.pointer (some ⟨b, 0, none⟩)] w fun e w' => e = .returned (sv (textOf ls)) ∧ Kept no w w' :=
  callsIn_wide.1 (text_in Fence.wide rfl rfl (fun _ => trivial) (fun _ _ _ _ _ h => callsIn_wide.2 h) hT hsm hlen)
end Go.Proofs.Ytdpfohgkikjeaaa
/- The document in memory. -/
namespace Go.Proofs.Ytdpfohgkikjeaaa
set_option linter.unusedVariables false
set_option linter.unusedSimpArgs false
open Go.RowKit
set_option linter.unusedVariables false
set_option linter.unusedSimpArgs false
abbrev docT : TypeId := 66

/-- The cells of a document behind those of its tree. -/
abbrev docRest (d : DocS) (va : Value) : List Value :=
  [.int .i64 d.file.len, .int .u32 (d.file.sum : Int), .int .i64 (d.every : Int), .int .i64 (d.edits : Int), .int .i64 (d.counted : Int), .bool d.wr.known, .bool d.wr.unsettled, .int .i64 (d.wr.half : Int), .int .u64 (d.wr.number : Int), .int .i64 (d.kind : Int), va]

/-- Acts that are read: in a row, from some place on. -/
def ActsAt (w : World) (va : Value) (acts : List PAct) (afp : List Nat) : Prop :=
  (va = .slice none 0 0 ∧ acts = [] ∧ afp = []) ∨
  (∃ g o c, va = .slice (some ⟨g, o, none⟩) acts.length c ∧ afp = [g] ∧ g < w.heap.size ∧ acts.length ≤ c ∧ c ≤ maxLen ∧ ∀ j u, (actsCells acts)[j]? = some u → w.cell? ⟨g, o + j, none⟩ = some u)

theorem ActsAt.kept {S : Blocks} {w w' : World} {va acts afp} (h : ActsAt w va acts afp) (k : Kept S w w') (hn : ∀ x ∈ afp, ¬ S x) : ActsAt w' va acts afp := by
  rcases h with h | ⟨g, o, c, hv, hf, hg, h1, h2, hc⟩
  · exact .inl h
  · refine .inr ⟨g, o, c, hv, hf, Nat.lt_of_lt_of_le hg k.size, h1, h2, fun j u hu => ?_⟩
    rw [World.cell?_of_block (w := w) (k.block g hg (hn g (by simp [hf])))]
    exact hc j u hu

theorem ActsAt.lt {w : World} {va acts afp} (h : ActsAt w va acts afp) : ∀ x ∈ afp, x < w.heap.size := fun x hx => by
  rcases h with ⟨_, _, h⟩ | ⟨g, o, c, hv, hf, hg, _⟩
  · rw [h] at hx; cases hx
  · rw [hf] at hx; simp at hx; omega

theorem ActsRow.acts {w : World} {v : Value} {l : List PAct} (h : ActsRow w v l) : ActsAt w v l (fpv v) := by
  have hlt := h.lt
  rcases h.2 with ⟨h0, h1⟩ | ⟨g, cap, cur, hv, _, hg, h1, h2, h3, h4⟩
  · exact .inl ⟨h0, List.eq_nil_of_length_eq_zero h1, by rw [h0]; rfl⟩
  · subst hv
    refine .inr ⟨g, 0, cap, rfl, fpv_some, hlt g (by simp [fpv_some]), h1, h2, fun j u hu => ?_⟩
    rw [cells_of' hg, Nat.zero_add]
    rw [← h4, List.getElem?_take] at hu
    split at hu
    · simpa using hu
    · cases hu

structure DocAt (w : World) (b : Nat) (d : DocS) (va : Value) (tfp afp : List Nat) : Prop where
  tree : TreeR w b (docRest d va) docT d.lines tfp
  acts : ActsAt w va d.acts afp
  apart : ∀ x ∈ afp, x ∉ tfp
  ok : d.Ok

/-- The document d lies at b; its blocks are fp. -/
def DocR (w : World) (b : Nat) (d : DocS) (fp : List Nat) : Prop := ∃ va tfp afp, DocAt w b d va tfp afp ∧ fp = tfp ++ afp

theorem DocR.kept {S : Blocks} {w w' : World} {b d fp} (h : DocR w b d fp) (k : Kept S w w') (hn : ∀ x ∈ fp, ¬ S x) : DocR w' b d fp := by
  obtain ⟨va, tfp, afp, ⟨ht, ha, hp, hok⟩, rfl⟩ := h
  exact ⟨va, tfp, afp, ⟨ht.kept k (fun x hx => hn x (by simp [hx])), ha.kept k (fun x hx => hn x (by simp [hx])), hp, hok⟩, rfl⟩

theorem DocR.lt {w : World} {b d fp} (h : DocR w b d fp) : ∀ x ∈ fp, x < w.heap.size := fun x hx => by
  obtain ⟨va, tfp, afp, ⟨ht, ha, hp, hok⟩, rfl⟩ := h
  rcases List.mem_append.1 hx with hx | hx
  · exact ht.lt x hx
  · exact ha.lt x hx

theorem DocR.ok {w : World} {b d fp} (h : DocR w b d fp) : d.Ok := by
  obtain ⟨va, tfp, afp, h, _⟩ := h; exact h.ok

theorem DocR.mem {w : World} {b d fp} (h : DocR w b d fp) : b ∈ fp := by
  obtain ⟨va, tfp, afp, h, rfl⟩ := h
  exact List.mem_append.2 (.inl h.tree.mem)

/-- What a call leaves of a document. -/
structure DocTo (w w' : World) (b : Nat) (fp : List Nat) (d' : DocS) : Prop where
  ex : ∃ fp', DocR w' b d' fp' ∧ ∀ x ∈ fp', x ∈ fp ∨ w.heap.size ≤ x
  kept : Kept (fun x => x ∈ fp) w w'

/-- The same tree, with other cells behind it. -/
theorem TreeR.store {w w' : World} {b : Nat} {rest rest' : List Value} {T : TypeId} {ls : List Str} {fp : List Nat} (h : TreeR w b rest T ls fp) (hk : Kept (fun x => x = b) w w')
    (hc : ∀ vi vk cnt, w.heap[b]? = some (.cells (vi :: vk :: cnt :: rest).toArray T (0, 0)) → w'.heap[b]? = some (.cells (vi :: vk :: cnt :: rest').toArray T (0, 0))) : TreeR w' b rest' T ls fp := by
  obtain ⟨hh, n, hN, h1, h2⟩ := h.ex
  obtain ⟨vi, vk, h3⟩ := hN.three
  obtain ⟨tl, htl⟩ := h3.fp
  have hnd := hN.nodup
  have hlt := hN.lt
  simp only at htl
  subst htl
  simp only [List.nodup_cons] at hnd
  have := h3.move w' (fun x => x = b) b rest' T hk (fun x hx e => hnd.1 (e ▸ hx)) (hc _ _ _ h3.cells) hnd.1
  exact ⟨hh, n, this, h1, h2⟩

theorem DocAt.cells {w b d va tfp afp} (h : DocAt w b d va tfp afp) : ∃ vi vk, w.heap[b]? = some (.cells (vi :: vk :: .int .i64 (d.lines.length : Int) :: docRest d va).toArray docT (0, 0)) := h.tree.count

theorem stored3 {W : World} {Hb : Nat} {T : TypeId} {c0 c1 c2 v0 v1 v2 : Value} (h : W.heap[Hb]? = some (.cells #[c0, c1, c2] T (0, 0))) :
    (((W.setCell ⟨Hb, 0, none⟩ v0).setCell ⟨Hb, 1, none⟩ v1).setCell ⟨Hb, 2, none⟩ v2).heap[Hb]? = some (.cells #[v0, v1, v2] T (0, 0)) ∧
    Kept (fun x => x = Hb) W (((W.setCell ⟨Hb, 0, none⟩ v0).setCell ⟨Hb, 1, none⟩ v1).setCell ⟨Hb, 2, none⟩ v2) := by
  have e1 := heap_set_same (o := 0) (v := v0) h
  have e2 := heap_set_same (o := 1) (v := v1) e1
  have e3 := heap_set_same (o := 2) (v := v2) e2
  exact ⟨by rw [e3]; simp, (Kept.cell1.step Kept.cell1).step Kept.cell1⟩

theorem busy_any {w b d va tfp afp} (h : DocAt w b d va tfp afp) : Calls Try.prog 17 #[.pointer (some ⟨b, 0, none⟩)] w fun e w' => e = .returned (.bool (decide (d.kind ≠ 0))) ∧ w' = w := by
  obtain ⟨vi, vk, hb⟩ := h.cells
  obtain ⟨hc, _⟩ := cells_of hb
  go_enter Try.func17, Try.ntmps17
  go_wp2
  go_ret
  refine ⟨?_, rfl⟩
  show Ending.returned (.bool ((d.kind : Int) != 0)) = _
  congr 2
  rw [Bool.eq_iff_iff]; simp

theorem look_any {w b d va tfp afp} (h : DocAt w b d va tfp afp) : Calls Try.prog 12 #[.pointer (some ⟨b, 0, none⟩)] w fun e w' => e = .returned (.agg #[.int .i64 (d.lines.length : Int), .int .i64 (d.edits : Int), .int .i64 (d.kind : Int)]) ∧ Kept no w w' := by
  obtain ⟨vi, vk, hb⟩ := h.cells
  go_enter Try.func12, Try.ntmps12
  go_wp2_with fail
  obtain ⟨hn1, hsz1, hk1⟩ := new1 w (Obj.cells #[.int .i64 0, .int .i64 0, .int .i64 0] 42)
  have hb1 := hk1.get hb (fun h => h)
  generalize hB : w.heap.size = B at hn1 hsz1 ⊢
  generalize w.alloc (Obj.cells #[.int .i64 0, .int .i64 0, .int .i64 0] 42) = w1 at hn1 hsz1 hk1 hb1 ⊢
  refine wp_region3 (fun W => W.heap[b]? = some (.cells (vi :: vk :: .int .i64 (d.lines.length : Int) :: docRest d va).toArray docT (0, 0))) [(0, true), (1, true), (2, true), (4, true), (5, true), (6, true), (7, false), (8, true), (9, true), (10, true), (11, true), (12, false)] [3, 13, 14] (by kernel_rfl) (by kernel_rfl) (fun _ _ d _ _ h => by cases d <;> exact h) hb1 ?_
  repeat ((first | refine wpPre3_pure rfl rfl (fun W => (by go_simp; rfl)) ?_ | refine wpPre3_read rfl rfl (fun W hW => (by obtain ⟨hc, _⟩ := cells_of hW; go_simp; rfl)) ?_); simp only [Act.put, List.setIfInBounds_toArray, List.set])
  refine wpPre3_nil ?_
  refine wpTail3_cons rfl rfl (fun K hK => ?_)
  go_wp2_with fail
  refine (len_any (w := w1.drew) hb1).mono ?_
  rintro e w2 ⟨rfl, hw⟩
  rw [hw]
  clear hw
  refine hK _ _ ⟨fun h => h, ?_⟩
  clear hK
  refine wpTail3_last (by kernel_rfl) rfl rfl (fun K hK => ?_)
  go_wp2_with fail
  obtain ⟨hcz, hfz⟩ := cells_of hn1
  refine wpTail3_last (by kernel_rfl) rfl rfl (fun K hK => ?_)
  go_wp2_with fail
  refine wpTail3_nil ?_
  obtain ⟨hs1, hs2⟩ := stored3 (v0 := .int .i64 (d.lines.length : Int)) (v1 := .int .i64 (d.edits : Int)) (v2 := .int .i64 (d.kind : Int)) hn1
  have hk3 : Kept no w (((w1.setCell ⟨B, 0, none⟩ (.int .i64 (d.lines.length : Int))).setCell ⟨B, 1, none⟩ (.int .i64 (d.edits : Int))).setCell ⟨B, 2, none⟩ (.int .i64 (d.kind : Int))) := hk1.step' hs2 (fun x hx hlt => by omega)
  generalize ((w1.setCell ⟨B, 0, none⟩ (.int .i64 (d.lines.length : Int))).setCell ⟨B, 1, none⟩ (.int .i64 (d.edits : Int))).setCell ⟨B, 2, none⟩ (.int .i64 (d.kind : Int)) = w3 at hs1 hk3 ⊢
  clear hcz hfz
  have hs1' : w3.drew.heap[B]? = some (.cells #[.int .i64 (d.lines.length : Int), .int .i64 (d.edits : Int), .int .i64 (d.kind : Int)] 42 (0, 0)) := hs1
  obtain ⟨hcr, _⟩ := cells_of hs1'
  go_wp2
  exact bodyPost_ret (v := .agg #[.int .i64 (d.lines.length : Int), .int .i64 (d.edits : Int), .int .i64 (d.kind : Int)]) (by simp [results, Try.results12, go_sem, hcr]) rfl ⟨rfl, hk3.drew⟩
end Go.Proofs.Ytdpfohgkikjeaaa
/- Lines; put; a sync is begun. -/
namespace Go.Proofs.Ytdpfohgkikjeaaa
set_option linter.unusedVariables false
set_option linter.unusedSimpArgs false
open Go.RowKit
set_option linter.unusedVariables false
set_option linter.unusedSimpArgs false
theorem size_mk (l : Str) : (⟨l.toArray⟩ : ByteArray).size = l.length := by simp [ByteArray.size]

theorem contains_str (s : Str) (w : World) (t : Bool) (ht : s.contains 10 = t) : Calls Try.prog 39 #[.string ⟨s.toArray⟩, .string ⟨#[10]⟩] w fun e w' => e = .returned (.bool t) ∧ w' = w := by
  subst ht
  exact contains_any ⟨s.toArray⟩ w

theorem isLine_any (s : Str) (w : World) (hs : s.length ≤ 140737488355328) : Calls Try.prog 19 #[.string ⟨s.toArray⟩] w fun e w' => e = .returned (.bool (decide (LineOk s))) ∧ w' = w := by
  by_cases h : s.length ≤ 40
  · have hi : (s.length : Int) ≤ 40 := by omega
    have hd : decide ((s.length : Int) ≤ 40) = true := by rw [decide_eq_true_iff]; omega
    by_cases hm : (10 : UInt8) ∈ s
    · have hc := contains_str s w true (by simpa using hm)
      go_enter Try.func19, Try.ntmps19
      go_wp2_with (go_at_call 39; refine hc.mono ?_; rintro e w ⟨rfl, rfl⟩)
      go_ret
      rw [decide_eq_false (fun hh : LineOk s => hh.2 hm)]
      exact ⟨rfl, rfl⟩
    · have hc := contains_str s w false (by simpa using hm)
      go_enter Try.func19, Try.ntmps19
      go_wp2_with (go_at_call 39; refine hc.mono ?_; rintro e w ⟨rfl, rfl⟩)
      go_ret
      rw [decide_eq_true (⟨h, hm⟩ : LineOk s)]
      exact ⟨rfl, rfl⟩
  · have hi : ¬ (s.length : Int) ≤ 40 := by omega
    have hd : decide ((s.length : Int) ≤ 40) = false := by rw [decide_eq_false_iff_not]; omega
    go_enter Try.func19, Try.ntmps19
    go_wp2
    go_ret
    exact ⟨rfl, rfl⟩

set_option maxRecDepth 100000 in
theorem put_any {w : World} {b : Nat} {ls : List Str} {rest : List Value} {T : TypeId} {fp : List Nat} (hT : TreeR w b rest T ls fp) (p : Nat) (pI : Int) (hpI : pI = (p : Int)) (hp : p ≤ ls.length) (hl : ls.length ≤ 900) (item : Str) (hi : item.length ≤ 140737488355328) :
    Calls Try.prog 23 #[.pointer (some ⟨b, 0, none⟩), .int .i64 pI, sv item] w fun e w' => e = .returned (.tuple #[]) ∧ ∃ fp', TreeTo w w' b rest T fp (ls.take p ++ item :: ls.drop p) fp' := by
  subst hpI
  have hsz : (⟨item.toArray⟩ : ByteArray).size ≤ 281474976710656 := by rw [size_mk]; omega
  go_enter Try.func23, Try.ntmps23
  go_wp2_with fail
  refine wp_region3 (fun _ => True) [(0, true), (1, true), (2, true), (3, true), (4, true)] [5, 6] (by kernel_rfl) (by kernel_rfl) (fun _ _ d _ _ h => by cases d <;> exact h) trivial ?_
  repeat (refine wpPre3_pure rfl rfl (fun W => (by go_simp; rfl)) ?_; simp only [Act.put, List.setIfInBounds_toArray, List.set])
  refine wpPre3_nil ?_
  refine wpTail3_cons rfl rfl (fun K hK => ?_)
  go_wp2_with fail
  refine (clone_any ⟨item.toArray⟩ _ hsz).mono ?_
  rintro e w1 ⟨rfl, hk1'⟩
  have hk1 : Kept no w w1 := hk1'.of_drew
  refine hK _ _ ⟨fun _ => trivial, ?_⟩
  clear hK
  have hT1 := hT.kept hk1 (fun _ _ h => h)
  refine wpTail3_cons rfl rfl (fun K hK => ?_)
  go_wp2_with fail
  refine (tinsert_any hT1 p _ rfl hp hl item).mono ?_
  rintro e w2 ⟨rfl, fp', hT2, hsub, hk2⟩
  refine hK _ _ ⟨fun _ => trivial, ?_⟩
  clear hK
  refine wpTail3_nil ?_
  go_wp2
  go_end0
  exact ⟨rfl, fp', hT2, fun x hx => (hsub x hx).imp id (fun h => Nat.le_trans hk1.size h), (hk1.mono (fun _ h _ => h.elim)).step hk2⟩

theorem heap_set2 {W : World} {Hb : Nat} {T : TypeId} {cs : Array Value} {i j : Nat} {v0 v1 : Value} (h : W.heap[Hb]? = some (.cells cs T (0, 0))) :
    ((W.setCell ⟨Hb, i, none⟩ v0).setCell ⟨Hb, j, none⟩ v1).heap[Hb]? = some (.cells ((cs.setIfInBounds i v0).setIfInBounds j v1) T (0, 0)) ∧
    Kept (fun x => x = Hb) W ((W.setCell ⟨Hb, i, none⟩ v0).setCell ⟨Hb, j, none⟩ v1) :=
  ⟨heap_set_same (heap_set_same h), Kept.cell1.step Kept.cell1⟩

set_option maxHeartbeats 1000000 in
theorem beginSync_any {w b d va tfp} (hT : TreeR w b (docRest d va) docT d.lines tfp) (ok : d.Base) :
    Calls Try.prog 37 #[.pointer (some ⟨b, 0, none⟩)] w fun e w' => e = .returned (.tuple #[]) ∧ ∃ v afp, TreeR w' b (docRest d.beginSync v) docT d.lines tfp ∧ ActsAt w' v d.beginSync.acts afp ∧ (∀ x ∈ afp, w.heap.size ≤ x) ∧ Kept (fun x => x = b) w w' := by
  obtain ⟨vi, vk, hb⟩ := hT.count
  obtain ⟨hc, hf⟩ := cells_of hb
  go_enter Try.func37, Try.ntmps37
  go_wp2_with fail
  have hb1 : (w.setCell ⟨b, 7, none⟩ (.int .i64 0)).heap[b]? = some (.cells (vi :: vk :: .int .i64 (d.lines.length : Int) :: docRest { d with counted := 0 } va).toArray docT (0, 0)) := by rw [heap_set_same hb]; simp
  have hk1 : Kept (fun x => x = b) w (w.setCell ⟨b, 7, none⟩ (.int .i64 0)) := Kept.cell1
  have hT1 : TreeR (w.setCell ⟨b, 7, none⟩ (.int .i64 0)) b (docRest { d with counted := 0 } va) docT d.lines tfp := hT.store hk1 (fun _ _ _ hh => by rw [heap_set_same hh]; simp)
  generalize w.setCell ⟨b, 7, none⟩ (.int .i64 0) = w1 at hb1 hk1 hT1 ⊢
  clear hc hf
  refine wp_region3 (fun W => W.heap[b]? = some (.cells (vi :: vk :: .int .i64 (d.lines.length : Int) :: docRest { d with counted := 0 } va).toArray docT (0, 0))) [(0, true), (1, true), (2, true), (3, true), (4, true), (6, true), (7, true), (8, true), (9, false)] [5, 10, 11, 12, 13, 14] (by kernel_rfl) (by kernel_rfl) (fun _ _ d _ _ h => by cases d <;> exact h) hb1 ?_
  repeat ((first | refine wpPre3_pure rfl rfl (fun W => (by go_simp; rfl)) ?_ | refine wpPre3_read rfl rfl (fun W hW => (by obtain ⟨hc, _⟩ := cells_of hW; go_simp; rfl)) ?_); simp only [Act.put, List.setIfInBounds_toArray, List.set])
  refine wpPre3_nil ?_
  refine wpTail3_cons rfl rfl (fun K hK => ?_)
  go_wp2_with fail
  refine (text_any (w := w1.drew) (hT1.kept (S := no) ((Kept.refl _ _).drew) (fun _ _ h => h)) (by have := ok.text.few; omega) (fun l hl => by have := (ok.text.lines l hl).1; omega)).mono ?_
  rintro e w2 ⟨rfl, hk2'⟩
  have hk2 : Kept no w1 w2 := hk2'.of_drew
  refine hK _ _ ⟨fun h => hk2'.get h (fun h => h), ?_⟩
  clear hK
  have hb2 := hk2.get hb1 (fun h => h)
  obtain ⟨hc2, hf2⟩ := cells_of hb2
  refine wpTail3_last (by kernel_rfl) rfl rfl (fun K hK => ?_)
  go_wp2_with fail
  have hwr : WrAt w2 b 8 d.wr := ⟨by rw [hc2]; rfl, by rw [hc2]; rfl, by rw [hc2]; rfl, by rw [hc2]; rfl⟩
  refine (acts_any b 8 d.wr (textOf d.lines) d.file w2 hwr ok.half ok.number ok.text.length ok.sum ok.len0 ok.len1).mono ?_
  rintro e w3 ⟨v, rfl, hr3, hk3, hf3⟩
  obtain ⟨p3, c3, rfl⟩ := Row.slice hr3
  refine hK _ _ ?_
  clear hK
  have hb3 := hk3.get hb2 (fun h => h)
  have hT3 := (hT1.kept hk2 (fun _ _ h => h)).kept hk3 (fun _ _ h => h)
  clear hc2 hf2
  obtain ⟨hc3, hf3'⟩ := cells_of hb3
  refine wpTail3_last (by kernel_rfl) rfl rfl (fun K hK => ?_)
  go_wp2_with fail
  refine wpTail3_last (by kernel_rfl) rfl rfl (fun K hK => ?_)
  go_wp2_with fail
  refine wpTail3_last (by kernel_rfl) rfl rfl (fun K hK => ?_)
  go_wp2_with fail
  refine wpTail3_last (by kernel_rfl) rfl rfl (fun K hK => ?_)
  go_wp2_with fail
  refine wpTail3_nil ?_
  go_wp2
  go_end0
  have hkk : Kept (fun x => x = b) w3 ((w3.setCell ⟨b, 12, none⟩ (.int .i64 1)).setCell ⟨b, 13, none⟩ (.slice p3 (d.wr.acts (textOf d.lines) d.file).length c3)) := Kept.cell1.step Kept.cell1
  have hbl := lt_of_heap hb2
  refine ⟨rfl, _, _, hT3.store hkk (fun vi vk cnt hh => ?_), (ActsRow.acts hr3).kept hkk (fun x hx e => ?_), fun x hx => ?_, ((hk1.step (hk2.mono (fun _ h _ => h.elim))).step (hk3.mono (fun _ h _ => h.elim))).step hkk⟩
  · rw [(heap_set2 hh).1]
    simp [DocS.beginSync]
  · have := hf3 x hx; omega
  · have h1 := hf3 x hx
    have h2 := hk1.size
    have h3 := hk2.size
    omega
end Go.Proofs.Ytdpfohgkikjeaaa
/- edited, saveActs, succeeded. -/
namespace Go.Proofs.Ytdpfohgkikjeaaa
set_option linter.unusedVariables false
set_option linter.unusedSimpArgs false
open Go.RowKit
set_option linter.unusedVariables false
set_option linter.unusedSimpArgs false
/-- What is left of a document whose tree stays. -/
structure DocIn (w w' : World) (b : Nat) (d' : DocS) (tfp afp : List Nat) : Prop where
  ex : ∃ va' afp', TreeR w' b (docRest d' va') docT d'.lines tfp ∧ ActsAt w' va' d'.acts afp' ∧ ∀ x ∈ afp', x ∈ afp ∨ w.heap.size ≤ x
  kept : Kept (fun x => x = b) w w'

set_option maxHeartbeats 1000000 in
set_option maxRecDepth 100000 in
theorem edited_any {w b d va tfp afp} (hT : TreeR w b (docRest d va) docT d.lines tfp) (hA : ActsAt w va d.acts afp) (hba : b ∉ afp) (ok : d.Base) (he : d.edits ≤ 1000000000000) (hcn : d.counted < d.every) :
    Calls Try.prog 22 #[.pointer (some ⟨b, 0, none⟩)] w fun e w' => e = .returned (.tuple #[]) ∧ DocIn w w' b d.edited tfp afp := by
  obtain ⟨vi, vk, hb⟩ := hT.count
  obtain ⟨hc, hf⟩ := cells_of hb
  have h20 := ok.every2
  have hw1 : IntKind.i64.wrap ((d.edits : Int) + 1) = (d.edits : Int) + 1 := by rw [IntKind.wrap_i64]; omega
  have hw2 : IntKind.i64.wrap ((d.counted : Int) + 1) = (d.counted : Int) + 1 := by rw [IntKind.wrap_i64]; omega
  go_enter Try.func22, Try.ntmps22
  go_wp2_with fail
  obtain ⟨d1, hd1⟩ : ∃ d1 : DocS, d1 = { d with edits := d.edits + 1, counted := d.counted + 1 } := ⟨_, rfl⟩
  have hkk : Kept (fun x => x = b) w ((w.setCell ⟨b, 6, none⟩ (.int .i64 ((d.edits : Int) + 1))).setCell ⟨b, 7, none⟩ (.int .i64 ((d.counted : Int) + 1))) := Kept.cell1.step Kept.cell1
  have hT1 : TreeR ((w.setCell ⟨b, 6, none⟩ (.int .i64 ((d.edits : Int) + 1))).setCell ⟨b, 7, none⟩ (.int .i64 ((d.counted : Int) + 1))) b (docRest d1 va) docT d1.lines tfp := by
    rw [hd1]
    exact hT.store hkk (fun vi vk cnt hh => by rw [(heap_set2 hh).1]; simp)
  have hA1 := hA.kept hkk (fun x hx e => hba (e ▸ hx))
  have hb1 : ((w.setCell ⟨b, 6, none⟩ (.int .i64 ((d.edits : Int) + 1))).setCell ⟨b, 7, none⟩ (.int .i64 ((d.counted : Int) + 1))).heap[b]? = some (.cells (vi :: vk :: .int .i64 (d.lines.length : Int) :: docRest { d with edits := d.edits + 1, counted := d.counted + 1 } va).toArray docT (0, 0)) := by
    rw [(heap_set2 hb).1]; simp
  generalize (w.setCell ⟨b, 6, none⟩ (.int .i64 ((d.edits : Int) + 1))).setCell ⟨b, 7, none⟩ (.int .i64 ((d.counted : Int) + 1)) = w1 at hT1 hA1 hb1 hkk ⊢
  clear hc hf
  refine wp_region3 (fun W => W.heap[b]? = some (.cells (vi :: vk :: .int .i64 (d.lines.length : Int) :: docRest { d with edits := d.edits + 1, counted := d.counted + 1 } va).toArray docT (0, 0))) [(0, true), (1, true), (2, true), (3, false), (4, true), (5, true), (6, true), (7, false), (8, true)] [] (by kernel_rfl) (by kernel_rfl) (fun _ _ d _ _ h => by cases d <;> exact h) hb1 ?_
  have hnum : (((d.counted : Int) + 1) == (d.every : Int)) = decide (d.counted + 1 = d.every) := by rw [Bool.eq_iff_iff]; simp; omega
  by_cases hsync : d.counted + 1 = d.every
  · have hed : d.edited = d1.beginSync := by rw [hd1, DocS.edited, if_pos hsync]
    have hbs := beginSync_any (w := w1.drew) (d := d1) (va := va) (tfp := tfp) (hT1.kept (S := no) (Kept.refl _ _).drew (fun _ _ h => h)) (by rw [hd1]; exact ⟨ok.text, ok.every1, ok.every2, ok.half, ok.number, ok.sum, ok.len0, ok.len1⟩)
    rw [decide_eq_true hsync] at hnum
    have hl1 : d1.lines = d.lines := by rw [hd1]
    clear hd1 hsync
    repeat ((first | refine wpPre3_pure rfl rfl (fun W => (by go_simp; rfl)) ?_ | refine wpPre3_read rfl rfl (fun W hW => (by obtain ⟨hc, _⟩ := cells_of hW; go_simp; rfl)) ?_); simp only [Act.put, List.setIfInBounds_toArray, List.set])
    refine wpPre3_nil ?_
    refine wpTail3_nil ?_
    go_wp2_with fail
    refine hbs.mono ?_
    rintro e w2 ⟨rfl, v, afp', hT2, hA2, hf2, hk2'⟩
    have hk2 : Kept (fun x => x = b) w1 w2 := hk2'.of_drew
    go_wp2
    go_end0
    refine ⟨rfl, ⟨v, afp', ?_, by rw [hed]; exact hA2, fun x hx => .inr (Nat.le_trans hkk.size (hf2 x hx))⟩, hkk.step hk2⟩
    rw [hed]
    exact hT2
  · have hed : d.edited = d1 := by rw [hd1, DocS.edited, if_neg hsync]
    rw [decide_eq_false hsync] at hnum
    repeat ((first | refine wpPre3_pure rfl rfl (fun W => (by go_simp; rfl)) ?_ | refine wpPre3_read rfl rfl (fun W hW => (by obtain ⟨hc, _⟩ := cells_of hW; go_simp; rfl)) ?_); simp only [Act.put, List.setIfInBounds_toArray, List.set])
    refine wpPre3_nil ?_
    refine wpTail3_nil ?_
    clear hed
    go_wp2
    go_end0
    have hed : d.edited = d1 := by rw [hd1, DocS.edited, if_neg hsync]
    refine ⟨rfl, ⟨va, afp, ?_, ?_, fun x hx => .inl hx⟩, hkk.drew⟩
    · rw [hed]; exact hT1.kept (S := no) (Kept.refl _ _).drew (fun _ _ h => h)
    · rw [hed, hd1]; exact hA1

/-- Acts that are laid in a row. -/
theorem acts_block {w : World} {g : Nat} {l : List PAct} (h : w.heap[g]? = some (.cells (actsCells l).toArray actT (0, 0))) (hl : l.length ≤ 1000) : ActsRow w (.slice (some ⟨g, 0, none⟩) l.length l.length) l :=
  ⟨actsCells_length l, .inr ⟨g, l.length, (actsCells l).toArray, rfl, Nat.zero_le _, h, Nat.le_refl _, by simp only [maxLen]; omega, by simp [actsCells_length], by rw [← actsCells_length]; simp⟩⟩

end Go.Proofs.Ytdpfohgkikjeaaa
/- saveActs, Save, Sync. -/
namespace Go.Proofs.Ytdpfohgkikjeaaa
set_option linter.unusedVariables false
set_option linter.unusedSimpArgs false
open Go.RowKit
set_option linter.unusedVariables false
set_option linter.unusedSimpArgs false
set_option maxHeartbeats 1000000 in
theorem saveActs_any (t : Str) (w : World) (ht : t.length ≤ 1000000) : Calls Try.prog 27 #[.string ⟨t.toArray⟩] w fun e w' => ∃ v, e = .returned v ∧ ActsRow w' v (saveActs t) ∧ Kept no w w' ∧ ∀ x ∈ fpv v, w.heap.size ≤ x := by
  have hA0 : AS w (w.alloc (Obj.cells #[.int .i64 3, .int .i64 0, .string ⟨#[]⟩] actT)) (.slice (some ⟨w.heap.size, 0, none⟩) 1 1) [⟨3, 0, []⟩] :=
    ⟨(Kept.refl _ _).alloc _, acts_block (l := [⟨3, 0, []⟩]) heap_alloc_same (by simp), fun x hx => by rw [fpv_some] at hx; simp at hx; omega⟩
  by_cases h0 : t = []
  · subst h0
    go_enter Try.func27, Try.ntmps27
    go_upto_if 7 with fail
    generalize Value.slice (some ⟨w.heap.size, 0, none⟩) 1 1 = v1 at hA0 ⊢
    generalize w.alloc (Obj.cells #[.int .i64 3, .int .i64 0, .string ⟨#[]⟩] actT) = w1 at hA0 ⊢
    go_wp2_with (at_builtin; apply hold)
    delta Hid
    refine wpList_acts rfl _ _ rfl _ _ rfl (hA0.alloc _).row _ 3 3 [⟨5, 0, []⟩, ⟨6, 0, []⟩, ⟨7, 0, []⟩] rfl rfl (by rw [heap_alloc_same]; rfl) (by simp) (fun v' w' hr hg => ?_)
    have hA4 := (hA0.alloc _).app hr hg
    go_wp2
    go_ret
    exact ⟨v', rfl, hA4.row, hA4.kept, hA4.fresh⟩
  · have hb : t.isEmpty = false := by cases t with
      | nil => exact absurd rfl h0
      | cons => rfl
    go_enter Try.func27, Try.ntmps27
    go_upto_if 7 with fail
    generalize Value.slice (some ⟨w.heap.size, 0, none⟩) 1 1 = v1 at hA0 ⊢
    generalize w.alloc (Obj.cells #[.int .i64 3, .int .i64 0, .string ⟨#[]⟩] actT) = w1 at hA0 ⊢
    go_wp2_with (at_builtin; apply hold)
    delta Hid
    refine wpList_acts rfl _ _ rfl _ _ rfl (hA0.alloc _).row _ 1 1 [⟨4, 0, t⟩] rfl rfl (by rw [heap_alloc_same]; rfl) (by simp) (fun v2 w2 hr hg => ?_)
    have hA2 := (hA0.alloc _).app hr hg
    clear hr hg
    go_wp2_with (at_builtin; apply hold)
    delta Hid
    refine wpList_acts rfl _ _ rfl _ _ rfl (hA2.alloc _).row _ 3 3 [⟨5, 0, []⟩, ⟨6, 0, []⟩, ⟨7, 0, []⟩] rfl rfl (by rw [heap_alloc_same]; rfl) (by simp) (fun v' w' hr hg => ?_)
    have hA4 := (hA2.alloc _).app hr hg
    go_wp2
    go_ret
    refine ⟨v', rfl, ?_, hA4.kept, hA4.fresh⟩
    have e : saveActs t = [⟨3, 0, []⟩] ++ [⟨4, 0, t⟩] ++ [⟨5, 0, []⟩, ⟨6, 0, []⟩, ⟨7, 0, []⟩] := by simp [saveActs, h0]
    rw [e]
    exact hA4.row

theorem save_busy {w b d va tfp afp} (h : DocAt w b d va tfp afp) (hk : d.kind ≠ 0) : Calls Try.prog 9 #[.pointer (some ⟨b, 0, none⟩)] w fun e w' => e = .returned (.int .i64 5) ∧ w' = w := by
  have hb := busy_any h
  rw [decide_eq_true hk] at hb
  go_enter Try.func9, Try.ntmps9
  go_wp2_with (go_at_call 17; refine hb.mono ?_; rintro e w ⟨rfl, rfl⟩)
  go_ret
  exact ⟨rfl, rfl⟩

set_option maxHeartbeats 1000000 in
theorem save_yes {w b d va tfp afp} (h : DocAt w b d va tfp afp) (hk : d.kind = 0) : Calls Try.prog 9 #[.pointer (some ⟨b, 0, none⟩)] w fun e w' => e = .returned (.int .i64 0) ∧ DocTo w w' b (tfp ++ afp) d.save.2 := by
  have hb := busy_any h
  rw [decide_eq_false (by omega : ¬ d.kind ≠ 0)] at hb
  have ok := h.ok
  have htx := text_any h.tree (by have := ok.text.few; omega) (fun l hl => by have := (ok.text.lines l hl).1; omega)
  go_enter Try.func9, Try.ntmps9
  go_wp2_with fail
  refine hb.mono ?_
  rintro e w1 ⟨rfl, hw⟩
  rw [hw]
  clear hw
  go_wp2_with fail
  refine htx.mono ?_
  rintro e w1 ⟨rfl, hk1⟩
  go_wp2_with fail
  refine (saveActs_any (textOf d.lines) w1 (by have := ok.text.length; omega)).mono ?_
  rintro e w2 ⟨v, rfl, hr, hk2, hf⟩
  obtain ⟨p3, c3, rfl⟩ := Row.slice hr
  obtain ⟨vi, vk, hb0⟩ := h.cells
  have hb2 := (hk1.step hk2).get hb0 (fun h => h)
  obtain ⟨hc2, hf2⟩ := cells_of hb2
  have hT2 := h.tree.kept (hk1.step hk2) (fun _ _ h => h)
  go_wp2
  go_ret
  have hkk : Kept (fun x => x = b) w2 ((w2.setCell ⟨b, 12, none⟩ (.int .i64 2)).setCell ⟨b, 13, none⟩ (.slice p3 (saveActs (textOf d.lines)).length c3)) := Kept.cell1.step Kept.cell1
  have hbl := lt_of_heap hb0
  have hs1 := hk1.size
  have hbm := h.tree.mem
  have hd : d.save.2 = { d with kind := 2, acts := saveActs d.text } := by simp [DocS.save, hk]
  rw [hd]
  refine ⟨rfl, ⟨_, ⟨_, tfp, _, ⟨hT2.store hkk (fun vi vk cnt hh => ?_), (ActsRow.acts hr).kept hkk (fun x hx e => ?_), fun x hx hx2 => ?_, ?_⟩, rfl⟩, fun x hx => ?_⟩, ((hk1.step hk2).mono (fun _ h _ => h.elim)).step' hkk (fun x hx _ => by rw [hx]; exact List.mem_append.2 (.inl hbm))⟩
  · rw [(heap_set2 hh).1]; simp
  · have := hf x hx; omega
  · have h1 := hf x hx
    have h2 := h.tree.lt x hx2
    omega
  · exact ⟨⟨ok.text, ok.every1, ok.every2, ok.half, ok.number, ok.sum, ok.len0, ok.len1⟩, ok.counted, Nat.le_refl 2, by simp [saveActs]⟩
  · rcases List.mem_append.1 hx with hx | hx
    · exact .inl (List.mem_append.2 (.inl hx))
    · have := hf x hx; exact .inr (by omega)
end Go.Proofs.Ytdpfohgkikjeaaa
/- Sync, Act. -/
namespace Go.Proofs.Ytdpfohgkikjeaaa
set_option linter.unusedVariables false
set_option linter.unusedSimpArgs false
open Go.RowKit
set_option linter.unusedVariables false
set_option linter.unusedSimpArgs false
theorem DocIn.doc {w w1 w' : World} {b : Nat} {d' : DocS} {tfp afp : List Nat} (h : DocIn w1 w' b d' tfp afp) (ok : d'.Ok) (hb : b ∈ tfp) (hs : w.heap.size ≤ w1.heap.size) (hk : Kept (fun x => x ∈ tfp ++ afp) w w1) (hlt : ∀ x ∈ tfp, x < w1.heap.size) (hap : ∀ x ∈ afp, x ∉ tfp) : DocTo w w' b (tfp ++ afp) d' := by
  obtain ⟨⟨va', afp', hT, hA, hs2⟩, hk2⟩ := h
  refine ⟨⟨tfp ++ afp', ⟨va', tfp, afp', ⟨hT, hA, fun x hx hx2 => ?_, ok⟩, rfl⟩, fun x hx => ?_⟩, hk.step' hk2 (fun x hx _ => by rw [hx]; exact List.mem_append.2 (.inl hb))⟩
  · rcases hs2 x hx with h1 | h1
    · exact hap x h1 hx2
    · have := hlt x hx2; omega
  · rcases List.mem_append.1 hx with hx | hx
    · exact .inl (List.mem_append.2 (.inl hx))
    · rcases hs2 x hx with h1 | h1
      · exact .inl (List.mem_append.2 (.inr h1))
      · exact .inr (by omega)

theorem DocS.Base.sync_ok {d : DocS} (ok : d.Base) : d.beginSync.Ok :=
  ⟨⟨ok.text, ok.every1, ok.every2, ok.half, ok.number, ok.sum, ok.len0, ok.len1⟩, by show 0 < d.every; have := ok.every1; omega, by show 1 ≤ 2; omega, by show 1 ≠ 0 ↔ d.wr.acts d.text d.file ≠ []; simp [acts_ne]⟩

theorem stored3a {W : World} {Hb : Nat} {T : TypeId} {c0 c1 c2 v0 v1 v2 : Value} (h : W.heap[Hb]? = some (.cells #[c0, c1, c2] T (0, 0))) : ∀ k, ((((W.setCell ⟨Hb, 0, none⟩ v0).setCell ⟨Hb, 1, none⟩ v1).setCell ⟨Hb, 2, none⟩ v2)).cell? ⟨Hb, k, none⟩ = #[v0, v1, v2][k]? := (cells_of (stored3 h).1).1

theorem act_no {w b d va tfp afp} (h : DocAt w b d va tfp afp) (hk : d.kind = 0) : Calls Try.prog 28 #[.pointer (some ⟨b, 0, none⟩)] w fun e w' => e = .returned (.tuple #[.agg #[.int .i64 0, .int .i64 0, .string ⟨#[]⟩], .bool false]) ∧ Kept no w w' := by
  obtain ⟨hn1, hsz1, hk1⟩ := new1 w (Obj.cells #[.int .i64 0, .int .i64 0, .string ⟨#[]⟩] actT)
  have h1 : DocAt (w.alloc (Obj.cells #[.int .i64 0, .int .i64 0, .string ⟨#[]⟩] actT)) b d va tfp afp := ⟨h.tree.kept hk1 (fun _ _ h => h), h.acts.kept hk1 (fun _ _ h => h), h.apart, h.ok⟩
  have hb := busy_any h1
  rw [decide_eq_false (by omega : ¬ d.kind ≠ 0)] at hb
  go_enter Try.func28, Try.ntmps28
  go_wp2_with fail
  refine hb.mono ?_
  rintro e w1 ⟨rfl, hw⟩
  rw [hw]
  clear hw
  obtain ⟨hcz, hfz⟩ := cells_of hn1
  go_wp2
  refine bodyPost_ret (v := .tuple #[.agg #[.int .i64 0, .int .i64 0, .string ⟨#[]⟩], .bool false]) (by simp [results, Try.results28, go_sem]) rfl ⟨rfl, ?_⟩
  exact (Kept.refl _ _).alloc _
end Go.Proofs.Ytdpfohgkikjeaaa
/- Act of a job; succeeded. -/
namespace Go.Proofs.Ytdpfohgkikjeaaa
set_option linter.unusedVariables false
set_option linter.unusedSimpArgs false
open Go.RowKit
set_option linter.unusedVariables false
set_option linter.unusedSimpArgs false
theorem act_yes {w b d va tfp afp} (h : DocAt w b d va tfp afp) (a : PAct) (r : List PAct) (hk : d.kind ≠ 0) (ha : d.acts = a :: r) : Calls Try.prog 28 #[.pointer (some ⟨b, 0, none⟩)] w fun e w' => e = .returned (.tuple #[a.val, .bool true]) ∧ Kept no w w' := by
  obtain ⟨hn1, hsz1, hk1⟩ := new1 w (Obj.cells #[.int .i64 0, .int .i64 0, .string ⟨#[]⟩] actT)
  have h1 : DocAt (w.alloc (Obj.cells #[.int .i64 0, .int .i64 0, .string ⟨#[]⟩] actT)) b d va tfp afp := ⟨h.tree.kept hk1 (fun _ _ h => h), h.acts.kept hk1 (fun _ _ h => h), h.apart, h.ok⟩
  have hb := busy_any h1
  rw [decide_eq_true hk] at hb
  obtain ⟨vi, vk, hb0⟩ := h1.cells
  rcases h1.acts with ⟨_, h0, _⟩ | ⟨g, o, c, rfl, hf, hg, hn, hcm, hcell⟩
  · rw [h0] at ha; cases ha
  rw [ha] at hb0 hcell hn
  have e0 := hcell 0 (.int .i64 (a.kind : Int)) (by simp [actsCells, actCells])
  have e1 := hcell 1 (.int .i64 (a.at_ : Int)) (by simp [actsCells, actCells])
  have e2 := hcell 2 (.string ⟨a.data.toArray⟩) (by simp [actsCells, actCells])
  rw [Nat.add_zero] at e0
  have hlen : Hid ((a :: r).length = r.length + 1) := rfl
  rw [hlen.out] at hb0
  have hpos : (0 : Int) < ((r.length : Int) + 1) := by omega
  clear hcell ha
  obtain ⟨hc0, _⟩ := cells_of hb0
  obtain ⟨hcz, hfz⟩ := cells_of hn1
  go_enter Try.func28, Try.ntmps28
  go_wp2_with fail
  generalize hB : w.heap.size = B at hn1 hsz1 hcz hfz ⊢
  generalize w.alloc (Obj.cells #[.int .i64 0, .int .i64 0, .string ⟨#[]⟩] actT) = w1 at hn1 hsz1 hk1 h1 hb hb0 e0 e1 e2 hc0 hcz hfz ⊢
  refine hb.mono ?_
  rintro e w2 ⟨rfl, hw⟩
  rw [hw]
  clear hw
  go_wp2
  obtain ⟨hs1, hs2⟩ := stored3 (v0 := .int .i64 (a.kind : Int)) (v1 := .int .i64 (a.at_ : Int)) (v2 := .string ⟨a.data.toArray⟩) hn1
  have hk3 : Kept no w (((w1.setCell ⟨B, 0, none⟩ (.int .i64 (a.kind : Int))).setCell ⟨B, 1, none⟩ (.int .i64 (a.at_ : Int))).setCell ⟨B, 2, none⟩ (.string ⟨a.data.toArray⟩)) := hk1.step' hs2 (fun x hx hlt => by omega)
  generalize ((w1.setCell ⟨B, 0, none⟩ (.int .i64 (a.kind : Int))).setCell ⟨B, 1, none⟩ (.int .i64 (a.at_ : Int))).setCell ⟨B, 2, none⟩ (.string ⟨a.data.toArray⟩) = w3 at hs1 hk3 ⊢
  clear hcz hfz
  obtain ⟨hcr, _⟩ := cells_of hs1
  exact bodyPost_ret (v := .tuple #[a.val, .bool true]) (by simp [results, Try.results28, go_sem, hcr]) rfl ⟨rfl, hk3⟩

/-- A job is over: what stands in its cells is nothing. -/
abbrev DocS.over (d : DocS) : DocS := { d with kind := 0, acts := [] }

theorem heap_set4 {W : World} {Hb : Nat} {T : TypeId} {cs : Array Value} {i j k l : Nat} {v0 v1 v2 v3 : Value} (h : W.heap[Hb]? = some (.cells cs T (0, 0))) :
    ((((W.setCell ⟨Hb, i, none⟩ v0).setCell ⟨Hb, j, none⟩ v1).setCell ⟨Hb, k, none⟩ v2).setCell ⟨Hb, l, none⟩ v3).heap[Hb]? = some (.cells ((((cs.setIfInBounds i v0).setIfInBounds j v1).setIfInBounds k v2).setIfInBounds l v3) T (0, 0)) ∧
    Kept (fun x => x = Hb) W ((((W.setCell ⟨Hb, i, none⟩ v0).setCell ⟨Hb, j, none⟩ v1).setCell ⟨Hb, k, none⟩ v2).setCell ⟨Hb, l, none⟩ v3) :=
  ⟨heap_set_same (heap_set_same (heap_set_same (heap_set_same h))), ((Kept.cell1.step Kept.cell1).step Kept.cell1).step Kept.cell1⟩

set_option maxHeartbeats 1000000 in
set_option maxRecDepth 100000 in
theorem succ_save {w : World} {b : Nat} {d : DocS} {tfp : List Nat} (hT : TreeR w b (docRest d.over (.slice none 0 0)) docT d.lines tfp) (ok : d.Base) :
    Calls Try.prog 46 #[.pointer (some ⟨b, 0, none⟩), .int .i64 2] w fun e w' => e = .returned (.tuple #[]) ∧ TreeR w' b (docRest { d.over with file := markOf d.text } (.slice none 0 0)) docT d.lines tfp ∧ Kept (fun x => x = b) w w' := by
  have htx := text_any hT (by have := ok.text.few; omega) (fun l hl => by have := (ok.text.lines l hl).1; omega)
  go_enter Try.func46, Try.ntmps46
  go_wp2_with fail
  refine htx.mono ?_
  rintro e w1 ⟨rfl, hk1⟩
  go_wp2_with fail
  refine (markOf_any ⟨(textOf d.lines).toArray⟩ w1 (by rw [size_mk]; have := ok.text.length; omega)).mono ?_
  rintro e w2 ⟨rfl, hk2⟩
  have hT2 := (hT.kept hk1 (fun _ _ h => h)).kept hk2 (fun _ _ h => h)
  obtain ⟨vi, vk, hb2⟩ := hT2.count
  obtain ⟨hc2, hf2⟩ := cells_of hb2
  go_wp2
  refine bodyPost_ret (results_none rfl _ _ _) rfl ?_
  have hkk := (heap_set2 (i := 3) (j := 4) (v0 := .int .i64 ((textOf d.lines).length : Int)) (v1 := .int .u32 (crc (textOf d.lines) : Int)) hb2).2
  refine ⟨rfl, hT2.store hkk (fun vi vk cnt hh => ?_), ((hk1.step hk2).mono (fun _ h _ => h.elim)).step hkk⟩
  rw [(heap_set2 hh).1]
  simp [markOf, DocS.text]

set_option maxHeartbeats 1000000 in
set_option maxRecDepth 100000 in
theorem succ_sync {w : World} {b : Nat} {d : DocS} {tfp : List Nat} (hT : TreeR w b (docRest d.over (.slice none 0 0)) docT d.lines tfp) (ok : d.Base) :
    Calls Try.prog 46 #[.pointer (some ⟨b, 0, none⟩), .int .i64 1] w fun e w' => e = .returned (.tuple #[]) ∧ TreeR w' b (docRest { d.over with wr := d.wr.written, edits := 0 } (.slice none 0 0)) docT d.lines tfp ∧ Kept (fun x => x = b) w w' := by
  obtain ⟨vi, vk, hb⟩ := hT.count
  obtain ⟨hc, hf⟩ := cells_of hb
  have hh := ok.half
  have hwr := written_any b 8 (d.wr.half : Int) d.wr.number w _ _ (by rw [hc]; rfl) (by rw [hc]; rfl) (by rw [hc]; rfl) (by rw [hc]; rfl) hf (by omega) (by omega) ok.number
  go_enter Try.func46, Try.ntmps46
  go_wp2_with fail
  refine hwr.mono ?_
  rintro e w1 ⟨rfl, j, hw1⟩
  have hb0 : (w.drewN j).heap[b]? = some (.cells (vi :: vk :: .int .i64 (d.lines.length : Int) :: docRest d.over (.slice none 0 0)).toArray docT (0, 0)) := hb
  obtain ⟨h4, k4⟩ := heap_set4 (i := 8) (j := 8 + 1) (k := 8 + 2) (l := 8 + 3) (v0 := .bool true) (v1 := .bool false) (v2 := .int .i64 (1 - (d.wr.half : Int))) (v3 := .int .u64 (((d.wr.number + 1) % 18446744073709551616 : Nat) : Int)) hb0
  have hT1 : TreeR w1 b (docRest { d.over with wr := d.wr.written } (.slice none 0 0)) docT d.lines tfp := by
    have hk : Kept (fun x => x = b) w w1 := by rw [hw1]; exact ((Kept.refl _ w).drewN j).step k4
    refine hT.store hk (fun vi vk cnt hh => ?_)
    have hh' : (w.drewN j).heap[b]? = _ := hh
    rw [hw1, (heap_set4 hh').1]
    have e : (1 : Int) - (d.wr.half : Int) = ((1 - d.wr.half : Nat) : Int) := by have := ok.half; omega
    simp [Wr.written, Wr.next, e]
  have hk : Kept (fun x => x = b) w w1 := by rw [hw1]; exact ((Kept.refl _ w).drewN j).step k4
  clear hw1 h4 k4 hb0 hc hf
  obtain ⟨vi, vk, hb1⟩ := hT1.count
  obtain ⟨hc1, hf1⟩ := cells_of hb1
  go_wp2
  go_end0
  refine ⟨rfl, hT1.store Kept.cell1 (fun vi vk cnt hh => ?_), hk.step Kept.cell1⟩
  rw [heap_set_same hh]
  simp
end Go.Proofs.Ytdpfohgkikjeaaa

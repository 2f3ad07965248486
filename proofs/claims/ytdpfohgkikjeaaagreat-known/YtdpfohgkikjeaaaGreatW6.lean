/- Part W 6 of the proof: see its parts. -/
import Derived.Deep.LoopGhost
import Derived.RangeFuncKeeps
import Derived.RangeFuncFrom
import Derived.RangeFuncBound
import Derived.RangeFuncLeaves
import Derived.Shelf.Abstract
import Derived.OwnWalkIn
import Derived.TacticsInMore
import Derived.LoopNIn
import Derived.LoopIn
import Derived.Shelf.Strings.BuilderK
import Derived.RangeFuncNested
import Derived.RangeFuncCalls
import Derived.Test.YtdpfohgkikjeaaaGreatW5
/- insert and remove of whole nodes. -/
namespace Go.Proofs.YtdpfohgkikjeaaaGreat
open Go.RowKit
set_option linter.unusedVariables false
set_option linter.unusedSimpArgs false

theorem Fam.one {w h c} (hN : NodeR w h [] nodeT c) : Fam w h [c] := ⟨fun z hz => by simp at hz; subst hz; exact hN, by rw [blocksOf_one]; exact hN.nodup⟩

/-- A kid has turned by a call. -/
theorem Brn.call {w w' : World} {h : Nat} {rest : List Value} {T : TypeId} {b : Nat} {v cnt : Value} {A B : List Kid} {c c' : Kid} (hB : Brn w h rest T b v cnt (A ++ [c] ++ B)) (hL : Left1 w w' h [] nodeT c c') :
    Brn w' h rest T b v cnt (A ++ [c'] ++ B) ∧ ∀ x ∈ blocksOf (A ++ [c'] ++ B), x ∈ blocksOf (A ++ [c] ++ B) ∨ w.heap.size ≤ x :=
  hB.turn hL.kept (fun x hx _ => by rw [blocksOf_one]; exact hx) (Fam.one hL.node) (fun x hx => by rw [blocksOf_one] at hx ⊢; exact hL.sub x hx) (by simp [Kid.ptr, hL.b])

set_option maxHeartbeats 2000000 in
set_option maxRecDepth 100000 in
theorem insert_any (item : Str) : ∀ (h : Nat) (w : World) (rest : List Value) (T : TypeId) (k : Kid) (p : Nat) (pI : Int), NodeR w h rest T k → (h ≠ 0 → 2 ≤ k.n) → k.n ≤ 8 → pI = (p : Int) → p ≤ k.ls.length → k.ls.length ≤ 1000 →
    Calls Tryz.prog 112 #[.pointer (some ⟨k.b, 0, none⟩), .int .i64 pI, sv item] w fun e w' => e = .returned (.tuple #[]) ∧ ∃ k', Left1 w w' h rest T k k' ∧ k'.ls = k.ls.take p ++ item :: k.ls.drop p ∧ k.n ≤ k'.n ∧ k'.n ≤ k.n + 1
  | 0, w, rest, T, k, p, pI, hN, _, hk8, hpI, hp, hl => (insert_leaf hN item p pI hpI hp hl).mono (fun e w' ⟨h1, k', h2, h3, h4⟩ => ⟨h1, k', h2, h3, by omega, by omega⟩)
  | h + 1, w, rest, T, k, p, pI, hN, hk2, hk8, hpI, hp, hl => by
    have IH := insert_any item h
    subst hpI
    obtain ⟨v, ks, hB, hkl, hkf, hkn, _, hok⟩ := Brn.of_node hN
    obtain ⟨b, n, ls, fp⟩ := k
    simp only at hB hkl hkf hkn hk2 hk8 hp hl hN
    subst hkl
    subst hkf
    subst hkn
    simp only [Kid.count] at hB
    have hk2 := hk2 (by omega)
    obtain ⟨hap1, hap2, hap3⟩ := hB.apart
    have hk0 := hB.kidsAt
    obtain ⟨A, c, B, hE, hs1, hs2, hs3, _⟩ := seek_spec ks 0 p (by intro e; subst e; simp at hk2) hp
    obtain ⟨g, cv, hv, hcell⟩ := (hE ▸ hk0 : KidsAt w v (A ++ c :: B)).mid
    rw [← hE] at hv
    subst hv
    have hAl : A.length < ks.length := by rw [hE]; simp
    have HE : Hid (ks = A ++ [c] ++ B) := by show ks = A ++ [c] ++ B; rw [hE]; simp
    have hcok := hok c (by rw [hE]; simp)
    have hcl : c.ls.length ≤ 1000 := by have := itemsOf_mem (ks := ks) (c := c) (by rw [hE]; simp); omega
    have HS : Hid ((seek ks 0 p).1 = A.length) := by show (seek ks 0 p).1 = A.length; omega
    have HP : Hid ((itemsOf A).length + (seek ks 0 p).2 = p) := hs2
    clear hE hs1 hs2
    obtain ⟨hc, hf⟩ := cells_of hB.cells
    have hw : IntKind.i64.wrap (((itemsOf ks).length : Int) + 1) = ((itemsOf ks).length : Int) + 1 := by rw [IntKind.wrap_i64]; omega
    go_enter Tryz.func112, Tryz.ntmps112
    go_wp2_with fail
    have hB1 : Brn (w.setCell ⟨b, 2, none⟩ (.int .i64 (((itemsOf ks).length : Int) + 1))) h rest T b (.slice (some ⟨g, 0, none⟩) ks.length cv) (.int .i64 (((itemsOf ks).length : Int) + 1)) ks := hB.count
    have hk1 : Kept (fun x => x = b) w (w.setCell ⟨b, 2, none⟩ (.int .i64 (((itemsOf ks).length : Int) + 1))) := Kept.cell1
    have hcell1 : (w.setCell ⟨b, 2, none⟩ (.int .i64 (((itemsOf ks).length : Int) + 1))).cell? ⟨g, A.length, none⟩ = some c.ptr := by
      rw [World.cell?_of_block (w := w) (hk1.block g (hB.row.lt g (by simp [fpv_some])) (fun e => hap1 (e ▸ (by simp [fpv_some]))))]; exact hcell
    generalize w.setCell ⟨b, 2, none⟩ (.int .i64 (((itemsOf ks).length : Int) + 1)) = w1 at hB1 hk1 hcell1 ⊢
    clear hc hf
    refine (leaf_calls hB1.cells rfl false (by rw [decide_eq_false]; omega)).mono ?_
    rintro e w1b ⟨rfl, hw1⟩
    rw [hw1]
    clear hw1
    obtain ⟨hc1, hf1⟩ := cells_of hB1.cells
    go_wp2_with fail
    refine (find_any b _ _ _ rest T ks p _ rfl w1 hB1.cells hB1.kidsAt (by omega) (by omega) (fun z hz => by have := itemsOf_mem hz; omega) (by omega)).mono ?_
    rintro e w1b ⟨rfl, hw1⟩
    rw [hw1, HS.out]
    clear hw1 HS
    generalize hq : (seek ks 0 p).2 = q at HP hs3 ⊢
    clear hq
    simp only [Kid.ptr] at hcell1
    have hcN := hB1.fam.each c (by rw [HE.out]; simp)
    go_wp2_with fail
    refine (IH w1 [] nodeT c q _ hcN (fun _ => by omega) hcok.2 rfl hs3 hcl).mono ?_
    rintro e w2 ⟨rfl, c', hL, hcl', hn1, hn2⟩
    have hB1' : Brn w1 h rest T b (.slice (some ⟨g, 0, none⟩) ks.length cv) (.int .i64 (((itemsOf ks).length : Int) + 1)) (A ++ [c] ++ B) := by rw [← HE.out]; exact hB1
    obtain ⟨hB2, hs2⟩ := hB1'.call hL
    have hlen2 : (A ++ [c'] ++ B).length = ks.length := by rw [HE.out]; simp
    have hit : itemsOf (A ++ [c'] ++ B) = (itemsOf ks).take p ++ item :: (itemsOf ks).drop p := by
      have e := items_split (A := A) (B := B) (c := c) (item := item) hs3
      rw [← HE.out, HP.out, ← hcl'] at e
      rw [← e]; simp [itemsOf]
    have hil : (itemsOf (A ++ [c'] ++ B)).length = (itemsOf ks).length + 1 := by rw [hit]; simp; omega
    have hok2 : ∀ z ∈ A ++ B, NOk z := fun z hz => hok z (by rw [HE.out]; simp only [List.mem_append, List.mem_cons, List.not_mem_nil, or_false] at hz ⊢; rcases hz with hz | hz <;> simp [hz])
    go_wp2_with fail
    refine (mend_any hB2 hok2 (by omega) (by omega) (by omega) (by omega) (by omega) _ rfl).mono ?_
    rintro e w3 ⟨rfl, v', ks', hM, hok3, hm1, hm2, hm3, hm4⟩
    go_wp2
    go_end0
    have hN3 := hM.brn.node (by rw [hM.items, hil, Int.natCast_add]; rfl) (by omega) hok3
    refine ⟨rfl, _, ⟨hN3, rfl, fun x hx => ?_, ?_⟩, by show itemsOf ks' = _; rw [hM.items]; exact hit, by show ks.length ≤ ks'.length; omega, by show ks'.length ≤ ks.length + 1; omega⟩
    · have sz1 := hk1.size
      have sz2 := hL.kept.size
      rcases List.mem_cons.1 hx with rfl | hx
      · exact .inl (by simp)
      · rcases hM.sub x hx with h1 | h1
        · rcases List.mem_append.1 h1 with h1 | h1
          · exact .inl (by simp [h1])
          · rcases hs2 x h1 with h2 | h2
            · exact .inl (by rw [← HE.out] at h2; exact List.mem_cons_of_mem _ (List.mem_append.2 (.inr h2)))
            · exact .inr (by omega)
        · exact .inr (by omega)
    · have inc : ∀ x ∈ c.fp, x ∈ blocksOf ks := fun x hx => mem_blocksOf.2 ⟨c, by rw [HE.out]; simp, hx⟩
      have sz1 := hk1.size
      refine ((hk1.mono (T := fun x => x ∈ b :: (fpv (.slice (some ⟨g, 0, none⟩) ks.length cv) ++ blocksOf ks)) (fun x hx _ => by rw [hx]; simp)).step' hL.kept (fun x hx _ => by simp [inc x hx])).step' hM.kept (fun x hx hlt => ?_)
      rcases hx with rfl | hx
      · simp
      · rcases List.mem_append.1 hx with h1 | h1
        · simp [h1]
        · rcases hs2 x h1 with h2 | h2
          · rw [← HE.out] at h2; exact List.mem_cons_of_mem _ (List.mem_append.2 (.inr h2))
          · omega

set_option maxHeartbeats 2000000 in
set_option maxRecDepth 100000 in
theorem remove_any : ∀ (h : Nat) (w : World) (rest : List Value) (T : TypeId) (k : Kid) (p : Nat) (pI : Int), NodeR w h rest T k → (h ≠ 0 → 2 ≤ k.n) → k.n ≤ 8 → pI = (p : Int) → p < k.ls.length → k.ls.length ≤ 1000 →
    Calls Tryz.prog 83 #[.pointer (some ⟨k.b, 0, none⟩), .int .i64 pI] w fun e w' => e = .returned (.tuple #[]) ∧ ∃ k', Left1 w w' h rest T k k' ∧ k'.ls = k.ls.take p ++ k.ls.drop (p + 1) ∧ k'.n ≤ k.n ∧ k.n ≤ k'.n + 1
  | 0, w, rest, T, k, p, pI, hN, _, hk8, hpI, hp, hl => (remove_leaf hN p pI hpI hp hl).mono (fun e w' ⟨h1, k', h2, h3, h4⟩ => ⟨h1, k', h2, h3, by omega, by omega⟩)
  | h + 1, w, rest, T, k, p, pI, hN, hk2, hk8, hpI, hp, hl => by
    have IH := remove_any h
    subst hpI
    obtain ⟨v, ks, hB, hkl, hkf, hkn, _, hok⟩ := Brn.of_node hN
    obtain ⟨b, n, ls, fp⟩ := k
    simp only at hB hkl hkf hkn hk2 hk8 hp hl hN
    subst hkl
    subst hkf
    subst hkn
    simp only [Kid.count] at hB
    have hk2 := hk2 (by omega)
    obtain ⟨hap1, hap2, hap3⟩ := hB.apart
    have hk0 := hB.kidsAt
    obtain ⟨A, c, B, hE, hs1, hs2, hs3, hs4⟩ := seek_spec ks 0 p (by intro e; subst e; simp at hk2) (by omega)
    have hs4 := hs4 hp
    obtain ⟨g, cv, hv, hcell⟩ := (hE ▸ hk0 : KidsAt w v (A ++ c :: B)).mid
    rw [← hE] at hv
    subst hv
    have hAl : A.length < ks.length := by rw [hE]; simp
    have HE : Hid (ks = A ++ [c] ++ B) := by show ks = A ++ [c] ++ B; rw [hE]; simp
    have hcok := hok c (by rw [hE]; simp)
    have hcl : c.ls.length ≤ 1000 := by have := itemsOf_mem (ks := ks) (c := c) (by rw [hE]; simp); omega
    have HS : Hid ((seek ks 0 p).1 = A.length) := by show (seek ks 0 p).1 = A.length; omega
    have HP : Hid ((itemsOf A).length + (seek ks 0 p).2 = p) := hs2
    clear hE hs1 hs2
    obtain ⟨hc, hf⟩ := cells_of hB.cells
    have hw : IntKind.i64.wrap (((itemsOf ks).length : Int) - 1) = ((itemsOf ks).length : Int) - 1 := by rw [IntKind.wrap_i64]; omega
    go_enter Tryz.func83, Tryz.ntmps83
    go_wp2_with fail
    have hB1 : Brn (w.setCell ⟨b, 2, none⟩ (.int .i64 (((itemsOf ks).length : Int) - 1))) h rest T b (.slice (some ⟨g, 0, none⟩) ks.length cv) (.int .i64 (((itemsOf ks).length : Int) - 1)) ks := hB.count
    have hk1 : Kept (fun x => x = b) w (w.setCell ⟨b, 2, none⟩ (.int .i64 (((itemsOf ks).length : Int) - 1))) := Kept.cell1
    have hcell1 : (w.setCell ⟨b, 2, none⟩ (.int .i64 (((itemsOf ks).length : Int) - 1))).cell? ⟨g, A.length, none⟩ = some c.ptr := by
      rw [World.cell?_of_block (w := w) (hk1.block g (hB.row.lt g (by simp [fpv_some])) (fun e => hap1 (e ▸ (by simp [fpv_some]))))]; exact hcell
    generalize w.setCell ⟨b, 2, none⟩ (.int .i64 (((itemsOf ks).length : Int) - 1)) = w1 at hB1 hk1 hcell1 ⊢
    clear hc hf
    refine (leaf_calls hB1.cells rfl false (by rw [decide_eq_false]; omega)).mono ?_
    rintro e w1b ⟨rfl, hw1⟩
    rw [hw1]
    clear hw1
    obtain ⟨hc1, hf1⟩ := cells_of hB1.cells
    go_wp2_with fail
    refine (find_any b _ _ _ rest T ks p _ rfl w1 hB1.cells hB1.kidsAt (by omega) (by omega) (fun z hz => by have := itemsOf_mem hz; omega) (by omega)).mono ?_
    rintro e w1b ⟨rfl, hw1⟩
    rw [hw1, HS.out]
    clear hw1 HS
    generalize hq : (seek ks 0 p).2 = q at HP hs3 hs4 ⊢
    clear hq
    simp only [Kid.ptr] at hcell1
    have hcN := hB1.fam.each c (by rw [HE.out]; simp)
    go_wp2_with fail
    refine (IH w1 [] nodeT c q _ hcN (fun _ => by omega) hcok.2 rfl hs4 hcl).mono ?_
    rintro e w2 ⟨rfl, c', hL, hcl', hn1, hn2⟩
    have hB1' : Brn w1 h rest T b (.slice (some ⟨g, 0, none⟩) ks.length cv) (.int .i64 (((itemsOf ks).length : Int) - 1)) (A ++ [c] ++ B) := by rw [← HE.out]; exact hB1
    obtain ⟨hB2, hs2⟩ := hB1'.call hL
    have hlen2 : (A ++ [c'] ++ B).length = ks.length := by rw [HE.out]; simp
    have hit : itemsOf (A ++ [c'] ++ B) = (itemsOf ks).take p ++ (itemsOf ks).drop (p + 1) := by
      have e := items_cut (A := A) (B := B) (c := c) hs4
      rw [← HE.out, HP.out, ← hcl'] at e
      rw [← e]; simp [itemsOf]
    have hil : (itemsOf (A ++ [c'] ++ B)).length + 1 = (itemsOf ks).length := by rw [hit]; simp; omega
    have hok2 : ∀ z ∈ A ++ B, NOk z := fun z hz => hok z (by rw [HE.out]; simp only [List.mem_append, List.mem_cons, List.not_mem_nil, or_false] at hz ⊢; rcases hz with hz | hz <;> simp [hz])
    go_wp2_with fail
    refine (mend_any hB2 hok2 (by omega) (by omega) (by omega) (by omega) (by omega) _ rfl).mono ?_
    rintro e w3 ⟨rfl, v', ks', hM, hok3, hm1, hm2, hm3, hm4⟩
    go_wp2
    go_end0
    have hN3 := hM.brn.node (by rw [hM.items]; congr 1; omega) (by omega) hok3
    refine ⟨rfl, _, ⟨hN3, rfl, fun x hx => ?_, ?_⟩, by show itemsOf ks' = _; rw [hM.items]; exact hit, by show ks'.length ≤ ks.length; omega, by show ks.length ≤ ks'.length + 1; omega⟩
    · have sz1 := hk1.size
      have sz2 := hL.kept.size
      rcases List.mem_cons.1 hx with rfl | hx
      · exact .inl (by simp)
      · rcases hM.sub x hx with h1 | h1
        · rcases List.mem_append.1 h1 with h1 | h1
          · exact .inl (by simp [h1])
          · rcases hs2 x h1 with h2 | h2
            · exact .inl (by rw [← HE.out] at h2; exact List.mem_cons_of_mem _ (List.mem_append.2 (.inr h2)))
            · exact .inr (by omega)
        · exact .inr (by omega)
    · have inc : ∀ x ∈ c.fp, x ∈ blocksOf ks := fun x hx => mem_blocksOf.2 ⟨c, by rw [HE.out]; simp, hx⟩
      have sz1 := hk1.size
      refine ((hk1.mono (T := fun x => x ∈ b :: (fpv (.slice (some ⟨g, 0, none⟩) ks.length cv) ++ blocksOf ks)) (fun x hx _ => by rw [hx]; simp)).step' hL.kept (fun x hx _ => by simp [inc x hx])).step' hM.kept (fun x hx hlt => ?_)
      rcases hx with rfl | hx
      · simp
      · rcases List.mem_append.1 hx with h1 | h1
        · simp [h1]
        · rcases hs2 x h1 with h2 | h2
          · rw [← HE.out] at h2; exact List.mem_cons_of_mem _ (List.mem_append.2 (.inr h2))
          · omega
end Go.Proofs.YtdpfohgkikjeaaaGreat
/- spot: where an item stands. -/
namespace Go.Proofs.YtdpfohgkikjeaaaGreat
open Go.RowKit
set_option linter.unusedVariables false
set_option linter.unusedSimpArgs false

/-- The cell ⟨g, i⟩ holds item p of the node; another item may be written there. -/
structure SpotP (w : World) (h : Nat) (rest : List Value) (T : TypeId) (k : Kid) (p g i : Nat) : Prop where
  cell : ∀ s, k.ls[p]? = some s → w.cell? ⟨g, i, none⟩ = some (sv s)
  warm : w.frozen? ⟨g, i, none⟩ = false
  mem : g ∈ k.fp
  put : ∀ item, NodeR (w.setCell ⟨g, i, none⟩ (sv item)) h rest T ⟨k.b, k.n, k.ls.set p item, k.fp⟩

theorem spot_up {w : World} {h : Nat} {rest : List Value} {T : TypeId} {b : Nat} {v : Value} {A B : List Kid} {c : Kid} {q g i : Nat} (hB : Brn w h rest T b v (.int .i64 ((itemsOf (A ++ [c] ++ B)).length : Int)) (A ++ [c] ++ B)) (hok : ∀ z ∈ A ++ [c] ++ B, NOk z) (hq : q < c.ls.length) (hS : SpotP w h [] nodeT c q g i) :
    SpotP w (h + 1) rest T ⟨b, (A ++ [c] ++ B).length, itemsOf (A ++ [c] ++ B), b :: (fpv v ++ blocksOf (A ++ [c] ++ B))⟩ ((itemsOf A).length + q) g i := by
  have e : itemsOf (A ++ [c] ++ B) = itemsOf A ++ (c.ls ++ itemsOf B) := by simp [itemsOf]
  have hgm : g ∈ blocksOf (A ++ [c] ++ B) := mem_blocksOf.2 ⟨c, by simp, hS.mem⟩
  refine ⟨fun s hs => hS.cell s ?_, hS.warm, List.mem_cons_of_mem _ (List.mem_append.2 (.inr hgm)), fun item => ?_⟩
  · simp only [e] at hs
    rw [List.getElem?_append_right (by omega), show (itemsOf A).length + q - (itemsOf A).length = q by omega, List.getElem?_append_left hq] at hs
    exact hs
  · have hN := hS.put item
    obtain ⟨hB2, _⟩ := hB.turn (S := fun x => x = g) (M' := [⟨c.b, c.n, c.ls.set q item, c.fp⟩]) (Kept.cell1 (o := i) (u := sv item)) (fun x hx _ => by rw [blocksOf_one, hx]; exact hS.mem) (Fam.one hN) (fun x hx => by rw [blocksOf_one] at hx ⊢; exact .inl hx) (by simp [Kid.ptr])
    have e1 : itemsOf (A ++ [(⟨c.b, c.n, c.ls.set q item, c.fp⟩ : Kid)] ++ B) = (itemsOf (A ++ [c] ++ B)).set ((itemsOf A).length + q) item := by
      rw [e, List.set_append_right _ _ (by omega), show (itemsOf A).length + q - (itemsOf A).length = q by omega, List.set_append_left _ _ hq]
      simp [itemsOf]
    have e2 : (A ++ [(⟨c.b, c.n, c.ls.set q item, c.fp⟩ : Kid)] ++ B).length = (A ++ [c] ++ B).length := by simp
    have e3 : blocksOf (A ++ [(⟨c.b, c.n, c.ls.set q item, c.fp⟩ : Kid)] ++ B) = blocksOf (A ++ [c] ++ B) := by simp [blocksOf]
    have := hB2.node (by rw [e1, List.length_set]) (by simp; omega) (fun z hz => by
      simp only [List.mem_append, List.mem_cons, List.not_mem_nil, or_false] at hz
      rcases hz with (hz | rfl) | hz
      · exact hok z (by simp [hz])
      · exact hok c (by simp)
      · exact hok z (by simp [hz]))
    rw [e1, e2, e3] at this
    exact this

theorem spot_leaf {w : World} {rest : List Value} {T : TypeId} {k : Kid} {v : Value} {p : Nat} (hL : LeafR w rest T k v) (hp : p < k.ls.length) : ∃ g c, v = .slice (some ⟨g, 0, none⟩) k.n c ∧ SpotP w 0 rest T k p g p := by
  have hll := hL.len
  rcases hL.row.shape with ⟨rfl, h0, _⟩ | ⟨g, c, rfl, hnc, hcm⟩
  · omega
  obtain ⟨_, cur, hg, hcl, hct, _, _⟩ := hL.row.block
  have hbg : k.b ≠ g := fun e => by have := hL.nodup; rw [hL.fp, fpv_some, List.nodup_cons] at this; exact this.1 (by simp [e])
  refine ⟨g, c, rfl, fun s hs => ?_, (cells_of hg).2 p, by rw [hL.fp, fpv_some]; simp, fun item => ⟨_, ?_, ?_, hL.fp, hL.nodup⟩⟩
  · obtain ⟨_, _, _, hcell⟩ := hL.row.cell
    exact hcell p _ (by rw [List.getElem?_map, hs]; rfl)
  · have := heap_set_other (w := w) (b := g) (o := p) (k := k.b) (v := sv item) (fun e => hbg e.symm)
    rw [this]
    simpa [Kid.count] using hL.cells
  · refine Row.of_block (cur := cur.set p (sv item)) ?_ (by simpa using hcl) ?_ hnc hcm
    · rw [heap_set_same hg]; simp
    · rw [List.take_set, hct]; exact (List.map_set).symm

/-- The root of a tree. -/
structure TreeR (w : World) (b : Nat) (rest : List Value) (T : TypeId) (ls : List Str) (fp : List Nat) : Prop where
  ex : ∃ h n, NodeR w h rest T ⟨b, n, ls, fp⟩ ∧ (h ≠ 0 → 2 ≤ n) ∧ n ≤ 8

set_option maxHeartbeats 2000000 in
set_option maxRecDepth 100000 in
theorem spot_any {w : World} {h : Nat} {rest : List Value} {T : TypeId} {k : Kid} (hN : NodeR w h rest T k) (hk8 : k.n ≤ 8) (p : Nat) (pI : Int) (hpI : pI = (p : Int)) (hp : p < k.ls.length) (hl : k.ls.length ≤ 1000) :
    Calls Tryz.prog 99 #[.pointer (some ⟨k.b, 0, none⟩), .int .i64 pI] w fun e w' => ∃ g i, e = .returned (.pointer (some ⟨g, i, none⟩)) ∧ SpotP w h rest T k p g i ∧ w' = w := by
  subst hpI
  go_enter Tryz.func99, Tryz.ntmps99
  go_wp2
  go_loopg [0, 1] h (fun m s0 s1 wr => wr = w ∧ ∃ rest' T' k' p', s0 = .pointer (some ⟨k'.b, 0, none⟩) ∧ s1 = .int .i64 ((p' : Nat) : Int) ∧ NodeR w m rest' T' k' ∧ k'.n ≤ 8 ∧ p' < k'.ls.length ∧ k'.ls.length ≤ 1000 ∧ ∀ g i, SpotP w m rest' T' k' p' g i → SpotP w h rest T k p g i)
  case atStart => exact ⟨rfl, rest, T, k, p, rfl, rfl, hN, hk8, hp, hl, fun _ _ h => h⟩
  case round =>
    obtain ⟨rfl, rest', T', k', p', rfl, rfl, hN', hk8', hp', hl', hup⟩ := hrel
    cases gk with
    | zero =>
      obtain ⟨v, hL⟩ := hN'
      obtain ⟨g, c, rfl, hS⟩ := spot_leaf hL hp'
      have hll := hL.len
      have hi1 : (p' : Int) < (k'.n : Int) := by omega
      obtain ⟨hc, hf⟩ := cells_of hL.cells
      clear hll
      go_wp2_with (go_at_call 107; refine (leaf_calls hL.cells rfl true rfl).mono ?_; rintro e w1b ⟨rfl, rfl⟩)
      go_ret
      exact ⟨g, p', rfl, hup _ _ hS, rfl⟩
    | succ m =>
      obtain ⟨v, ks, hB, hkl, hkf, hkn, h0, hok⟩ := Brn.of_node hN'
      obtain ⟨b, n, ls, fp⟩ := k'
      simp only at hB hkl hkf hkn hk8' hp' hl' h0
      subst hkl
      subst hkf
      subst hkn
      simp only [Kid.count] at hB
      obtain ⟨A, c, B, hE, hs1, hs2, hs3, hs4⟩ := seek_spec ks 0 p' (by intro e; subst e; simp at h0) (by omega)
      replace hs4 := hs4 hp'
      obtain ⟨g, cv, hv, hcell⟩ := (hE ▸ hB.kidsAt : KidsAt wr v (A ++ c :: B)).mid
      rw [← hE] at hv
      subst hv
      have hAl : A.length < ks.length := by rw [hE]; simp
      have HE : Hid (ks = A ++ [c] ++ B) := by show ks = A ++ [c] ++ B; rw [hE]; simp
      have hcok := hok c (by rw [hE]; simp)
      have hcl : c.ls.length ≤ 1000 := by have := itemsOf_mem (ks := ks) (c := c) (by rw [hE]; simp); omega
      have HS : Hid ((seek ks 0 p').1 = A.length) := by show (seek ks 0 p').1 = A.length; omega
      have HP : Hid ((itemsOf A).length + (seek ks 0 p').2 = p') := hs2
      clear hE hs1 hs2
      obtain ⟨hc, hf⟩ := cells_of hB.cells
      go_wp2_with fail
      refine (leaf_calls hB.cells rfl false (by rw [decide_eq_false]; omega)).mono ?_
      rintro e w1b ⟨rfl, hw1⟩
      rw [hw1]
      clear hw1
      go_wp2_with fail
      refine (find_any b _ _ _ rest' T' ks p' _ rfl wr hB.cells hB.kidsAt (by omega) (by omega) (fun z hz => by have := itemsOf_mem hz; omega) (by omega)).mono ?_
      rintro e w1b ⟨rfl, hw1⟩
      rw [hw1, HS.out]
      clear hw1 HS
      generalize hq : (seek ks 0 p').2 = q at HP hs3 hs4 ⊢
      clear hq
      simp only [Kid.ptr] at hcell
      have hcN := hB.fam.each c (by rw [HE.out]; simp)
      go_wp2
      go_roundg m
      case measure => omega
      case rel =>
        refine ⟨rfl, [], nodeT, c, q, rfl, rfl, hcN, hcok.2, hs4, hcl, fun g' i' hS => hup g' i' ?_⟩
        have hE := HE.out
        have hP := HP.out
        subst hE
        subst hP
        exact spot_up hB hok hs4 hS
end Go.Proofs.YtdpfohgkikjeaaaGreat
/- The tree's own calls: Len, At, Set, Insert, Delete. -/
namespace Go.Proofs.YtdpfohgkikjeaaaGreat
open Go.RowKit
set_option linter.unusedVariables false
set_option linter.unusedSimpArgs false

/-- A node's three cells; and the node where they are laid elsewhere. -/
structure Cells3 (w : World) (h : Nat) (rest : List Value) (T : TypeId) (k : Kid) (vi vk : Value) : Prop where
  cells : w.heap[k.b]? = some (.cells (vi :: vk :: k.count :: rest).toArray T (0, 0))
  items : ∃ p m c, vi = .slice p m c
  kids : ∃ p m c, vk = .slice p m c ∧ (h = 0 → m = 0) ∧ (h ≠ 0 → m = k.n)
  fp : ∃ tl, k.fp = k.b :: tl
  move : ∀ (w' : World) (S : Blocks) (L : Nat) (rest' : List Value) (T' : TypeId), Kept S w w' → (∀ x ∈ k.fp.tail, ¬ S x) → w'.heap[L]? = some (.cells (vi :: vk :: k.count :: rest').toArray T' (0, 0)) → L ∉ k.fp.tail → NodeR w' h rest' T' ⟨L, k.n, k.ls, L :: k.fp.tail⟩

theorem NodeR.three {w : World} {h : Nat} {rest : List Value} {T : TypeId} {k : Kid} (hN : NodeR w h rest T k) : ∃ vi vk, Cells3 w h rest T k vi vk := by
  cases h with
  | zero =>
    obtain ⟨v, hL⟩ := hN
    obtain ⟨p, c, hv⟩ := hL.row.slice
    refine ⟨v, nilS, hL.cells, ⟨p, _, c, hv⟩, ⟨none, 0, 0, rfl, fun _ => rfl, fun h => absurd rfl h⟩, ⟨_, hL.fp⟩, fun w' S L rest' T' hk hS hb hL' => ?_⟩
    have ht : k.fp.tail = fpv v := by rw [hL.fp]; rfl
    refine ⟨v, hb, hL.row.kept hk (fun x hx => hS x (by rw [ht]; exact hx)), by show L :: k.fp.tail = _; rw [ht], ?_⟩
    show (L :: k.fp.tail).Nodup
    rw [ht] at hL' ⊢
    exact List.nodup_cons.2 ⟨hL', fpv_nodup _⟩
  | succ h =>
    obtain ⟨h0, v, ks, hB, hc⟩ := hN
    obtain ⟨p, c, hv⟩ := hB.row.slice
    refine ⟨nilS, v, hB.cells, ⟨none, 0, 0, rfl⟩, ⟨p, _, c, hv, fun h => absurd h (by omega), fun _ => rfl⟩, ⟨_, hB.fp⟩, fun w' S L rest' T' hk hS hb hL' => ?_⟩
    have ht : k.fp.tail = fpv v ++ blocksOf ks := by rw [hB.fp]; rfl
    have hnd := hB.nodup
    rw [hB.fp, List.nodup_cons] at hnd
    refine ⟨h0, v, ks, ⟨hb, hB.row.kept hk (fun x hx => hS x (by rw [ht]; simp [hx])), hB.ls, by show L :: k.fp.tail = _; rw [ht], ?_⟩, fun c' hm => ⟨NodeR.kept hk h (hc c' hm).1 (fun x hx => hS x (by rw [ht]; exact List.mem_append.2 (.inr (mem_blocksOf.2 ⟨c', hm, hx⟩)))), (hc c' hm).2⟩⟩
    show (L :: k.fp.tail).Nodup
    rw [ht] at hL' ⊢
    exact List.nodup_cons.2 ⟨hL', hnd.2⟩

theorem TreeR.count {w b rest T ls fp} (h : TreeR w b rest T ls fp) : ∃ vi vk, w.heap[b]? = some (.cells (vi :: vk :: .int .i64 (ls.length : Int) :: rest).toArray T (0, 0)) := by
  obtain ⟨_, _, hN, _⟩ := h.ex
  obtain ⟨vi, vk, h3⟩ := hN.three
  exact ⟨vi, vk, h3.cells⟩

theorem TreeR.lt {w b rest T ls fp} (h : TreeR w b rest T ls fp) : ∀ x ∈ fp, x < w.heap.size := by
  obtain ⟨hh, _, hN, _⟩ := h.ex
  exact hN.lt

theorem TreeR.mem {w b rest T ls fp} (h : TreeR w b rest T ls fp) : b ∈ fp := by
  obtain ⟨hh, _, hN, _⟩ := h.ex
  exact hN.mem

theorem TreeR.kept {S : Blocks} {w w' b rest T ls fp} (h : TreeR w b rest T ls fp) (hk : Kept S w w') (hn : ∀ x ∈ fp, ¬ S x) : TreeR w' b rest T ls fp := by
  obtain ⟨hh, n, hN, h1⟩ := h.ex
  exact ⟨hh, n, NodeR.kept hk hh hN hn, h1⟩

theorem len_any {w : World} {b : Nat} {vi vk : Value} {n : Int} {rest : List Value} {T : TypeId} (hb : w.heap[b]? = some (.cells (vi :: vk :: .int .i64 n :: rest).toArray T (0, 0))) :
    Calls Tryz.prog 46 #[.pointer (some ⟨b, 0, none⟩)] w fun e w' => e = .returned (.int .i64 n) ∧ w' = w := by
  obtain ⟨hc, _⟩ := cells_of hb
  go_enter Tryz.func46, Tryz.ntmps46
  go_wp2
  go_ret
  exact ⟨rfl, rfl⟩

theorem at_no {w : World} {b : Nat} {ls : List Str} {rest : List Value} {T : TypeId} {fp : List Nat} (hT : TreeR w b rest T ls fp) (p : Int) (hp : p < 0 ∨ (ls.length : Int) ≤ p) :
    Calls Tryz.prog 126 #[.pointer (some ⟨b, 0, none⟩), .int .i64 p] w fun e w' => e = .returned (.tuple #[.string ⟨#[]⟩, .bool false]) ∧ w' = w := by
  obtain ⟨vi, vk, hb⟩ := hT.count
  by_cases h0 : p < 0
  · go_enter Tryz.func126, Tryz.ntmps126
    go_wp2
    go_ret2
    exact ⟨rfl, rfl⟩
  · have h1 : (ls.length : Int) ≤ p := by omega
    have h2 : decide (p < 0) = false := by simpa using h0
    go_enter Tryz.func126, Tryz.ntmps126
    go_wp2_with (go_at_call 46; refine (len_any hb).mono ?_; rintro e w1 ⟨rfl, rfl⟩)
    go_ret2
    exact ⟨rfl, rfl⟩

theorem at_yes {w : World} {b : Nat} {ls : List Str} {rest : List Value} {T : TypeId} {fp : List Nat} (hT : TreeR w b rest T ls fp) (p : Nat) (hp : p < ls.length) (hl : ls.length ≤ 1000) :
    Calls Tryz.prog 126 #[.pointer (some ⟨b, 0, none⟩), .int .i64 (p : Int)] w fun e w' => e = .returned (.tuple #[sv ls[p], .bool true]) ∧ w' = w := by
  obtain ⟨vi, vk, hb⟩ := hT.count
  obtain ⟨h, n, hN, h2, h8⟩ := hT.ex
  have h2 : decide ((p : Int) < 0) = false := by simp
  have h3 : ¬ ((ls.length : Int) ≤ (p : Int)) := by omega
  have hs := spot_any hN h8 p _ rfl hp hl
  go_enter Tryz.func126, Tryz.ntmps126
  go_wp2_with (first | (go_at_call 46; refine (len_any hb).mono ?_; rintro e w1 ⟨rfl, rfl⟩) | (go_at_call 99; refine hs.mono ?_; rintro e w1 ⟨g, i, rfl, hS, rfl⟩; have hcell := hS.cell _ (List.getElem?_eq_getElem hp)))
  go_ret2
  exact ⟨rfl, rfl⟩
end Go.Proofs.YtdpfohgkikjeaaaGreat
/- The tree's own calls, on: Set, Delete. -/
namespace Go.Proofs.YtdpfohgkikjeaaaGreat
open Go.RowKit
set_option linter.unusedVariables false
set_option linter.unusedSimpArgs false

/-- What a call leaves of a tree. -/
structure TreeTo (w w' : World) (b : Nat) (rest : List Value) (T : TypeId) (fp : List Nat) (ls' : List Str) (fp' : List Nat) : Prop where
  tree : TreeR w' b rest T ls' fp'
  sub : ∀ x ∈ fp', x ∈ fp ∨ w.heap.size ≤ x
  kept : Kept (fun x => x ∈ fp) w w'

theorem tset_any {w : World} {b : Nat} {ls : List Str} {rest : List Value} {T : TypeId} {fp : List Nat} (hT : TreeR w b rest T ls fp) (p : Nat) (pI : Int) (hpI : pI = (p : Int)) (hp : p < ls.length) (hl : ls.length ≤ 1000) (item : Str) :
    Calls Tryz.prog 75 #[.pointer (some ⟨b, 0, none⟩), .int .i64 pI, sv item] w fun e w' => e = .returned (.bool true) ∧ ∃ fp', TreeTo w w' b rest T fp (ls.set p item) fp' := by
  subst hpI
  obtain ⟨vi, vk, hb⟩ := hT.count
  obtain ⟨h, n, hN, h2n, h8⟩ := hT.ex
  have h2 : decide ((p : Int) < 0) = false := by simp
  have h3 : ¬ ((ls.length : Int) ≤ (p : Int)) := by omega
  have hs := spot_any hN h8 p _ rfl hp hl
  go_enter Tryz.func75, Tryz.ntmps75
  go_wp2_with (first | (go_at_call 46; refine (len_any hb).mono ?_; rintro e w1 ⟨rfl, rfl⟩) | (go_at_call 99; refine hs.mono ?_; rintro e w1 ⟨g, i, rfl, hS, rfl⟩; have hcell := hS.cell _ (List.getElem?_eq_getElem hp); have hwarm := hS.warm))
  go_ret
  exact ⟨rfl, fp, ⟨h, n, hS.put item, h2n, h8⟩, fun x hx => .inl hx, Kept.setCell (S := fun x => x ∈ fp) (Kept.refl _ _) (p := ⟨g, i, none⟩) (fun _ => hS.mem) _⟩

theorem tdelete_no {w : World} {b : Nat} {ls : List Str} {rest : List Value} {T : TypeId} {fp : List Nat} (hT : TreeR w b rest T ls fp) (p : Int) (hp : p < 0 ∨ (ls.length : Int) ≤ p) :
    Calls Tryz.prog 53 #[.pointer (some ⟨b, 0, none⟩), .int .i64 p] w fun e w' => e = .returned (.bool false) ∧ w' = w := by
  obtain ⟨vi, vk, hb⟩ := hT.count
  by_cases h0 : p < 0
  · go_enter Tryz.func53, Tryz.ntmps53
    go_wp2
    go_ret
    exact ⟨rfl, rfl⟩
  · have h1 : (ls.length : Int) ≤ p := by omega
    have h2 : decide (p < 0) = false := by simpa using h0
    go_enter Tryz.func53, Tryz.ntmps53
    go_wp2_with (go_at_call 46; refine (len_any hb).mono ?_; rintro e w1 ⟨rfl, rfl⟩)
    go_ret
    exact ⟨rfl, rfl⟩

set_option maxHeartbeats 1000000 in
theorem tdelete_yes {w : World} {b : Nat} {ls : List Str} {rest : List Value} {T : TypeId} {fp : List Nat} (hT : TreeR w b rest T ls fp) (p : Nat) (pI : Int) (hpI : pI = (p : Int)) (hp : p < ls.length) (hl : ls.length ≤ 1000) :
    Calls Tryz.prog 53 #[.pointer (some ⟨b, 0, none⟩), .int .i64 pI] w fun e w' => e = .returned (.bool true) ∧ ∃ fp', TreeTo w w' b rest T fp (ls.take p ++ ls.drop (p + 1)) fp' := by
  subst hpI
  obtain ⟨vi, vk, hb⟩ := hT.count
  obtain ⟨h, n, hN, h2n, h8⟩ := hT.ex
  have h2 : decide ((p : Int) < 0) = false := by simp
  have h3 : ¬ ((ls.length : Int) ≤ (p : Int)) := by omega
  have hs := remove_any h w rest T ⟨b, n, ls, fp⟩ p _ hN h2n h8 rfl hp hl
  go_enter Tryz.func53, Tryz.ntmps53
  go_upto_if 12 with (go_at_call 46; refine (len_any hb).mono ?_; rintro e w1 ⟨rfl, rfl⟩)
  go_wp2_with fail
  refine hs.mono ?_
  rintro e w1 ⟨rfl, ⟨b', n', ls', fp'⟩, hL, hls, hn1, hn2⟩
  obtain ⟨hN1, hb1, hsub, hk1⟩ := hL
  simp only at hls hn1 hn2 hb1 hN1 hsub hk1
  subst hls
  subst hb1
  by_cases hone : h ≠ 0 ∧ n' = 1
  · obtain ⟨hh, rfl⟩ := hone
    obtain ⟨m, rfl⟩ : ∃ m, h = m + 1 := ⟨h - 1, by omega⟩
    obtain ⟨v, ks, hB, hkl, hkf, hkn, h0, hok⟩ := Brn.of_node hN1
    simp only at hB hkl hkf hkn
    obtain ⟨c, rfl⟩ : ∃ c, ks = [c] := by
      match ks, hkn with
      | [c], _ => exact ⟨c, rfl⟩
    obtain ⟨g, cv, rfl, hcell⟩ := (by simpa using hB.kidsAt : KidsAt w1 v ([] ++ c :: [])).mid
    have hcN := hB.fam.each c (by simp)
    obtain ⟨ci, ck, h3c⟩ := hcN.three
    obtain ⟨ip, im, ic, rfl⟩ := h3c.items
    obtain ⟨kp, km, kc, rfl, hk0, hkN⟩ := h3c.kids
    have hmove := h3c.move
    obtain ⟨tl, htl⟩ := h3c.fp
    have hcells := hB.cells
    obtain ⟨hc1, hf1⟩ := cells_of hcells
    obtain ⟨hc2, hf2⟩ := cells_of h3c.cells
    have HT : Hid (c.fp = c.b :: tl) := htl
    clear htl hk0 hkN
    simp only [Kid.ptr, List.length_nil] at hcell
    simp only [Kid.count] at hc2 hmove
    go_wp2
    go_ret
    obtain ⟨hap1, hap2, hap3⟩ := hB.apart
    have hb4 : (((w1.setCell ⟨b', 0, none⟩ (.slice ip im ic)).setCell ⟨b', 1, none⟩ (.slice kp km kc)).setCell ⟨b', 2, none⟩ (.int .i64 (c.ls.length : Int))).heap[b']? = some (.cells (.slice ip im ic :: .slice kp km kc :: .int .i64 (c.ls.length : Int) :: rest).toArray T (0, 0)) := by
      have e1 := heap_set_same (o := 0) (v := .slice ip im ic) hcells
      have e2 := heap_set_same (o := 1) (v := .slice kp km kc) e1
      have e3 := heap_set_same (o := 2) (v := .int .i64 (c.ls.length : Int)) e2
      rw [e3]; simp
    have hk4 : Kept (fun x => x = b') w1 (((w1.setCell ⟨b', 0, none⟩ (.slice ip im ic)).setCell ⟨b', 1, none⟩ (.slice kp km kc)).setCell ⟨b', 2, none⟩ (.int .i64 (c.ls.length : Int))) := (Kept.cell1.step Kept.cell1).step Kept.cell1
    have hbt : b' ∉ c.fp.tail := fun hh => hap2 (by rw [blocksOf_one]; exact List.mem_of_mem_tail hh)
    have hN4 := hmove _ _ b' rest T hk4 (fun x hx e => hbt (e ▸ hx)) hb4 hbt
    have hci : c.ls = ls.take p ++ ls.drop (p + 1) := by rw [hkl, itemsOf_one]
    refine ⟨rfl, b' :: c.fp.tail, ⟨m, c.n, hci ▸ hN4, fun _ => by have := hok c (by simp); omega, (hok c (by simp)).2⟩, fun x hx => hsub x ?_, (hk1.step' hk4 (fun x hx _ => by rw [hx]; exact hN.mem))⟩
    rw [hkf]
    rcases List.mem_cons.1 hx with rfl | hx
    · simp
    · have := List.mem_of_mem_tail hx
      simp only [List.mem_cons, List.mem_append, blocksOf_one]
      exact .inr (.inr this)
  · obtain ⟨ui, uk, h3c⟩ := hN1.three
    obtain ⟨ip, im, ic, rfl⟩ := h3c.items
    obtain ⟨kp, km, kc, rfl, hk0, hkN⟩ := h3c.kids
    obtain ⟨hc1, hf1⟩ := cells_of h3c.cells
    have hkm : ¬ ((km : Int) = 1) := by
      by_cases hh : h = 0
      · have := hk0 hh; omega
      · have := hkN hh; simp only at this; omega
    clear hk0 hkN
    simp only at hc1
    go_wp2
    go_ret
    refine ⟨rfl, fp', ⟨h, n', hN1, fun hh => ?_, by omega⟩, hsub, hk1⟩
    have := h2n hh
    omega
end Go.Proofs.YtdpfohgkikjeaaaGreat
/- The tree's own calls, on: Insert. -/
namespace Go.Proofs.YtdpfohgkikjeaaaGreat
open Go.RowKit
set_option linter.unusedVariables false
set_option linter.unusedSimpArgs false

set_option maxHeartbeats 2000000 in
theorem tinsert_any {w : World} {b : Nat} {ls : List Str} {rest : List Value} {T : TypeId} {fp : List Nat} (hT : TreeR w b rest T ls fp) (p : Nat) (pI : Int) (hpI : pI = (p : Int)) (hp : p ≤ ls.length) (hl : ls.length ≤ 900) (item : Str) :
    Calls Tryz.prog 85 #[.pointer (some ⟨b, 0, none⟩), .int .i64 pI, sv item] w fun e w' => e = .returned (.bool true) ∧ ∃ fp', TreeTo w w' b rest T fp (ls.take p ++ item :: ls.drop p) fp' := by
  subst hpI
  obtain ⟨vi, vk, hb⟩ := hT.count
  obtain ⟨h, n, hN, h2n, h8⟩ := hT.ex
  have h2 : decide ((p : Int) < 0) = false := by simp
  have h3 : ¬ ((ls.length : Int) < (p : Int)) := by omega
  have hs := insert_any item h w rest T ⟨b, n, ls, fp⟩ p _ hN h2n h8 rfl hp (by simp only; omega)
  have hbfp := hN.mem
  go_enter Tryz.func85, Tryz.ntmps85
  go_upto_if 16 with (go_at_call 46; refine (len_any hb).mono ?_; rintro e w ⟨rfl, rfl⟩)
  go_wp2_with fail
  refine hs.mono ?_
  rintro e w1 ⟨rfl, ⟨b', n', ls', fp'⟩, hL, hls, hn1, hn2⟩
  obtain ⟨hN1, hb1, hsub, hk1⟩ := hL
  simp only at hls hn1 hn2 hb1 hN1 hsub hk1 hbfp
  subst hb1
  have HL : Hid (ls' = ls.take p ++ item :: ls.drop p) := hls
  have hll : ls'.length ≤ 1000 := by rw [hls]; simp; omega
  clear hls hb
  have hfill := hN1.fill (by simp only; omega)
  have hgtr := gtr_full (N := n') (by omega)
  obtain ⟨ui, uk, h3c⟩ := hN1.three
  obtain ⟨ip, im, ic, rfl⟩ := h3c.items
  obtain ⟨kp, km, kc, rfl, _, _⟩ := h3c.kids
  have hcells := h3c.cells
  simp only [Kid.count, Kid.ptr] at hcells hfill
  obtain ⟨hc1, hf1⟩ := cells_of hcells
  by_cases hful : 8 < n'
  · rw [decide_eq_true hful] at hgtr
    have hfill2 := hfill.mono (R' := fun e w2 => e = .returned (.float .f64 (fillBits n')) ∧ Kept no w1 w2 ∧ Kept no w2 w1) (fun e w2 ⟨he, j, hw⟩ => ⟨he, by subst hw; exact (Kept.refl _ _).drewN j, by subst hw; exact ⟨rfl, rfl, rfl, Nat.le_refl _, fun _ _ _ => rfl⟩⟩)
    go_upto_if 27 with (go_at_call 113; refine hfill2.mono ?_; rintro e w2 ⟨rfl, hk12, hk21⟩)
    have hN2 := NodeR.kept hk12 h hN1 (fun _ _ h => h)
    have hcells2 := hk12.get hcells (fun h => h)
    have hmove := h3c.move
    clear hc1 hf1 hcells
    obtain ⟨hc2, hf2⟩ := cells_of hcells2
    go_wp2_with fail
    obtain ⟨hn3, hsz3, hk3⟩ := new1 w2 (Obj.cells #[.slice ip im ic, .slice kp km kc, .int .i64 (ls'.length : Int)] 88)
    have hb3 := hk3.get hcells2 (fun h => h)
    have hfp1 : ∀ x ∈ fp', x < w1.heap.size := hN1.lt
    have hs12 := hk12.size
    have hs01 := hk1.size
    obtain ⟨tl, htl⟩ := h3c.fp
    simp only at htl
    subst htl
    simp only [List.tail_cons] at hmove
    generalize hL : w2.heap.size = L at hn3 hsz3 hs12 ⊢
    generalize w2.alloc (Obj.cells #[.slice ip im ic, .slice kp km kc, .int .i64 (ls'.length : Int)] 88) = w3 at hn3 hsz3 hk3 hb3 ⊢
    have hLn : L ∉ tl := fun hh => by have := hfp1 L (by simp [hh]); omega
    have hN3 := hmove w3 no L [] nodeT (hk12.step hk3) (fun _ _ h => h) hn3 hLn
    have hbtl : b' ∉ tl := by have := hN1.nodup; simp only [List.nodup_cons] at this; exact this.1
    refine (split_node hN3 (by simp only; omega) (by simp only; omega) (by simp only; omega)).mono ?_
    rintro e w4 ⟨x1, x2, rfl, hx1, hx2, hx1b, hx1n, hx2n, hxl, hxnd, hxf, hk4⟩
    simp only at hx1b hx1n hx2n hxl hxf hk4
    rw [show x2.ptr = .pointer (some ⟨x2.b, 0, none⟩) from rfl]
    have hbL : b' < L := by have := lt_of_heap hcells2; omega
    have hb4 := hk4.get hb3 (fun hh => by
      rcases List.mem_cons.1 hh with h1 | h1
      · omega
      · exact hbtl h1)
    have hs4 := hk4.size
    clear hc2 hf2
    have HX : Hid (ls' = x1.ls ++ x2.ls) := hxl
    clear hxl
    have hb5l : b' < w4.heap.size := lt_of_heap hb4
    obtain ⟨hc4, hf4⟩ := cells_of hb4
    go_wp2_with fail
    generalize hK : w4.heap.size = K at hb5l hs4 ⊢
    obtain ⟨w6, hw6⟩ : ∃ w6, w6 = ((w4.setCell ⟨b', 0, none⟩ (.slice none 0 0)).setCell ⟨b', 1, none⟩ (.slice (some ⟨K, 0, none⟩) 2 2)).setCell ⟨b', 2, none⟩ (.int .i64 0) := ⟨_, rfl⟩
    have hb6 : w6.heap[b']? = some (.cells (nilS :: .slice (some ⟨K, 0, none⟩) 2 2 :: .int .i64 0 :: rest).toArray T (0, 0)) := by
      have e1 := heap_set_same (o := 0) (v := .slice none 0 0) hb4
      have e2 := heap_set_same (o := 1) (v := .slice (some ⟨K, 0, none⟩) 2 2) e1
      have e3 := heap_set_same (o := 2) (v := .int .i64 0) e2
      rw [hw6, e3]; simp
    have hk6 : Kept (fun x => x = b') w4 w6 := by rw [hw6]; exact (Kept.cell1.step Kept.cell1).step Kept.cell1
    have hs6 : w6.heap.size = K := by rw [hw6, ← hK]; simp
    rw [← hw6]
    clear hw6 hc4 hf4
    obtain ⟨hn7, hsz7, hk7⟩ := new1 w6 (Obj.cells #[.pointer (some ⟨L, 0, none⟩), .pointer (some ⟨x2.b, 0, none⟩)] 141)
    have hb7 := hk7.get hb6 (fun h => h)
    rw [hs6] at hn7
    have hk7' : Kept (fun x => x = b') w4 (w6.alloc (Obj.cells #[.pointer (some ⟨L, 0, none⟩), .pointer (some ⟨x2.b, 0, none⟩)] 141)) := hk6.step (hk7.mono (fun _ h _ => h.elim))
    generalize w6.alloc (Obj.cells #[.pointer (some ⟨L, 0, none⟩), .pointer (some ⟨x2.b, 0, none⟩)] 141) = w7 at hn7 hsz7 hk7 hk7' hb7 ⊢
    have hbx : b' ∉ x1.fp ++ x2.fp := fun hh => by
      rcases hxf b' hh with h1 | h1
      · rcases List.mem_cons.1 h1 with h2 | h2
        · omega
        · exact hbtl h2
      · omega
    have hfam : Fam w7 h [x1, x2] := ⟨fun c hc => by
      simp at hc
      rcases hc with rfl | rfl
      · exact NodeR.kept hk7' h hx1 (fun x hx e => hbx (e ▸ List.mem_append.2 (.inl hx)))
      · exact NodeR.kept hk7' h hx2 (fun x hx e => hbx (e ▸ List.mem_append.2 (.inr hx))), by simpa [blocksOf] using hxnd⟩
    have hlt4 : ∀ x ∈ x1.fp ++ x2.fp, x < K := fun x hx => by
      rw [← hK]
      rcases List.mem_append.1 hx with hx | hx
      · exact hx1.lt h x hx
      · exact hx2.lt h x hx
    have hrow : Row w7 141 1 (.slice (some ⟨K, 0, none⟩) 2 2) [x1, x2].length ([x1, x2].map Kid.ptr) := by
      have e : [x1, x2].map Kid.ptr = [Value.pointer (some ⟨L, 0, none⟩), .pointer (some ⟨x2.b, 0, none⟩)] := by simp [Kid.ptr, hx1b]
      rw [e]
      exact Row.of_block (cur := [.pointer (some ⟨L, 0, none⟩), .pointer (some ⟨x2.b, 0, none⟩)]) hn7 rfl rfl (Nat.le_refl _) (by decide)
    have hxm1 := hx1.mem
    have hxm2 := hx2.mem
    have hlsum : (itemsOf [x1, x2]).length = ls'.length := by rw [HX.out]; simp [itemsOf]
    refine (tally_any b' _ _ _ rest T [x1, x2] none 0 0 rfl w7 hb7 (hfam.kidsAt hrow) (fun c hc e => hbx ?_) (by rw [fpv_some]; simp; omega) (by simp) (by omega) (by omega)).mono ?_
    · simp at hc
      rcases hc with rfl | rfl
      · exact List.mem_append.2 (.inl (e ▸ hxm1))
      · exact List.mem_append.2 (.inr (e ▸ hxm2))
    rintro e w8 ⟨rfl, hb8, hk8⟩
    have hB8 : Brn w8 h rest T b' (.slice (some ⟨K, 0, none⟩) 2 2) (.int .i64 ((itemsOf [x1, x2]).length : Int)) [x1, x2] := by
      refine ⟨by simpa using hb8, hrow.kept hk8 (fun x hx e => by rw [fpv_some] at hx; simp at hx; omega), hfam.kept hk8 (fun x hx e => hbx (by simpa [blocksOf, e] using hx)), ?_⟩
      have e1 : blocksOf [x1, x2] = x1.fp ++ x2.fp := by simp [blocksOf]
      rw [e1, fpv_some]
      refine List.nodup_cons.2 ⟨fun hh => ?_, List.nodup_cons.2 ⟨fun hh => ?_, hxnd⟩⟩
      · rcases List.mem_cons.1 hh with h1 | h1
        · omega
        · exact hbx h1
      · have := hlt4 K hh; omega
    have hN8 := hB8.node rfl (by simp) (fun c hc => by
      simp at hc
      rcases hc with rfl | rfl
      · exact ⟨by omega, by omega⟩
      · exact ⟨by omega, by omega⟩)
    have hit : itemsOf [x1, x2] = ls.take p ++ item :: ls.drop p := by rw [← HL.out, HX.out]; simp [itemsOf]
    rw [hit] at hN8
    go_wp2
    go_ret
    refine ⟨rfl, _, ⟨h + 1, 2, hN8, fun _ => Nat.le_refl _, by omega⟩, fun x hx => ?_, ?_⟩
    · have e1 : blocksOf [x1, x2] = x1.fp ++ x2.fp := by simp [blocksOf]
      rw [e1, fpv_some] at hx
      rcases List.mem_cons.1 hx with rfl | hx
      · exact .inl hbfp
      · rcases List.mem_cons.1 hx with rfl | hx
        · exact .inr (by omega)
        · rcases hxf x hx with h1 | h1
          · rcases List.mem_cons.1 h1 with rfl | h1
            · exact .inr (by omega)
            · exact hsub x (by simp [h1])
          · exact .inr (by omega)
    · have hk03 : Kept (fun x => x ∈ fp) w w3 := (hk1.step (hk12.mono (fun _ h _ => h.elim))).step (hk3.mono (fun _ h _ => h.elim))
      refine ((hk03.step' hk4 (fun x hx hlt => ?_)).step' hk7' (fun x hx _ => hx ▸ hbfp)).step' hk8 (fun x hx _ => hx ▸ hbfp)
      rcases List.mem_cons.1 hx with rfl | hx
      · omega
      · rcases hsub x (by simp [hx]) with h1 | h1
        · exact h1
        · omega
  · rw [decide_eq_false hful] at hgtr
    go_upto_if 27 with (go_at_call 113; refine hfill.mono ?_; rintro e w2 ⟨rfl, j2, rfl⟩)
    go_wp2
    go_ret
    rw [← HL.out]
    exact ⟨rfl, fp', ⟨h, n', NodeR.kept (S := fun _ => False) ((Kept.refl _ w1).drewN j2) h hN1 (fun _ _ h => h), fun hh => by have := h2n hh; omega, by omega⟩, hsub, hk1.drewN j2⟩
end Go.Proofs.YtdpfohgkikjeaaaGreat
/- each: the items in their order, to whatever loop body. -/
namespace Go.Proofs.YtdpfohgkikjeaaaGreat
open Go.RowKit Go.Shelf
set_option linter.unusedVariables false
set_option linter.unusedSimpArgs false
attribute [local go_sem] Oper.semAt_some

theorem RoundIn.anyDepth {F : Fence} (hd : F.depth = none) {m m' : Nat} {P : Program} {l : Nat} {f : FuncId} {tmps : Array Value} {assign body : Code} {w : World} {R : Ending → World → Prop}
    (h : RoundIn F m P l f tmps assign body w R) : RoundIn F m' P l f tmps assign body w R := ⟨h.1, fun c cs _ => h.2 c cs (fun d h => by rw [hd] at h; cases h)⟩
theorem YieldAt.anyDepth {F : Fence} (hd : F.depth = none) {m : Nat} (m' : Nat) {P : Program} {l : Nat} {args : Array Value} {W : World} {R : Ending → World → Prop} (h : YieldAt F m P l args W R) : YieldAt F m' P l args W R := by
  obtain ⟨fn, tmps, assign, body, hy, hR⟩ := h
  exact ⟨fn, tmps, assign, body, hy, RoundIn.anyDepth hd hR⟩

theorem kept_of_belowN {n₀ : Nat} {W W' : World} (h : Below n₀ W W') : Kept (fun x => n₀ ≤ x) W W' := ⟨h.os, h.tape, h.output, h.size, fun k _ hn => h.block k (Nat.lt_of_not_le hn)⟩

set_option maxRecDepth 100000 in
set_option maxHeartbeats 2000000 in
theorem each_leaf (F : Fence) (hd : F.depth = none) (he : F.fn 81) (hro : F.round = none) (l n₀ : Nat) (Ls : List Str) (J Jx : List Str → World → Prop)
    (hY : ∀ m pre x W, J pre W → pre ++ [x] <+: Ls → YieldAt F m Tryz.prog l #[sv x] W fun e W' =>
      (e = .returned (.bool true) ∧ J (pre ++ [x]) W' ∧ Below n₀ W W') ∨ (e = .returned (.bool false) ∧ Jx (pre ++ [x]) W'))
    (n : Nat) (rest : List Value) (T : TypeId) (k : Kid) (pre : List Str) (W : World) (hN : NodeR W 0 rest T k) (hfp : ∀ x ∈ k.fp, x < n₀) (hJ : J pre W) (hlen : pre ++ k.ls <+: Ls) (hsm : k.ls.length ≤ 1000) :
      CallsIn F n Tryz.prog 81 #[.pointer (some ⟨k.b, 0, none⟩), .func (.yield l) #[] #[]] W fun e W' =>
        (e = .returned (.bool true) ∧ J (pre ++ k.ls) W' ∧ Below n₀ W W') ∨ (e = .returned (.bool false) ∧ ∃ q, q <+: k.ls ∧ Jx (pre ++ q) W') := by
  obtain ⟨v, hL⟩ := hN
  obtain ⟨b, nn, ls, fp⟩ := k
  obtain ⟨hb, hr, hfpe, hnd⟩ := hL
  simp only at hb hr hfpe hnd hfp hlen hsm
  simp only [Kid.count] at hb
  have hll : ls.length = nn := by simpa using hr.len
  subst hll
  have hdd : ∀ k : Nat, (F.depth.isSome = true → 1 ≤ k) := fun k h => by rw [hd] at h; cases h
  obtain ⟨pv, cv, rfl⟩ := hr.slice
  obtain ⟨hc, hf⟩ := cells_of hb
  refine callsIn_of_wp Tryz.func81 rfl he ?_ hro
  simp only [Tryz.ntmps81, List.size_toArray, List.length_cons, List.length_nil, Nat.reduceAdd, Nat.reduceSub, Array.replicate_succ, Array.replicate_zero, List.push_toArray, List.append_toArray, List.nil_append, List.cons_append]
  gi_wp2
  gi_loopw [14] (fun i wr => ∃ j : Nat, j ≤ ls.length ∧ i = .int .i64 j ∧ J (pre ++ ls.take j) wr ∧ Below n₀ W wr) (fun i _ => ls.length - (intOf i).toNat)
  case atStart => exact ⟨0, Nat.zero_le _, rfl, by simpa using hJ, Below.refl _ _⟩
  case round =>
    obtain ⟨j, hj, rfl, hJj, hbj⟩ := hrel
    have hkj := kept_of_belowN hbj
    have hbr := hkj.get hb (fun h => by have := hfp b (by rw [hfpe]; simp); omega)
    have hrr := hr.kept hkj (fun x hx h => by have := hfp x (by rw [hfpe]; simp [hx]); omega)
    obtain ⟨hcr, hfr⟩ := cells_of hbr
    by_cases hlt : j < ls.length
    · have hit : Hid (ls.take (j + 1) = ls.take j ++ [ls[j]]) := List.take_succ_eq_append_getElem hlt
      rcases hrr.shape with ⟨h0, h1, _⟩ | ⟨g, c', hv, _, _⟩
      · omega
      simp only [Value.slice.injEq, true_and] at hv
      obtain ⟨rfl, rfl⟩ := hv
      obtain ⟨_, _, _, hcell⟩ := hrr.cell
      have hcj := hcell j (sv ls[j]) (by simp [hlt])
      clear hcell
      obtain ⟨fn, tmps, assign, body, hy, hR⟩ := hY (n - 1) (pre ++ ls.take j) ls[j] wr hJj (by rw [List.append_assoc, ← hit.out]; exact ((List.prefix_append_right_inj _).2 (List.take_prefix _ _)).trans hlen)
      generalize ls[j] = x at hit hcj hy hR
      gi_wp2
      refine hR.mono ?_
      rintro e W3 (⟨rfl, hJ3, hk3⟩ | ⟨rfl, hJx3⟩)
      · gi_wp2
        go_roundw
        case rel => exact ⟨j + 1, hlt, by go_num, by rw [hit.out, ← List.append_assoc]; exact hJ3, hbj.trans hk3⟩
        case measure => simp [intOf]; omega
      · gi_wp2
        go_ret
        exact .inr ⟨rfl, ls.take (j + 1), List.take_prefix _ _, by rw [hit.out, ← List.append_assoc]; exact hJx3⟩
    · gi_wp2
      gi_loopw [28] (fun i wr2 => i = .int .i64 0 ∧ wr2 = wr) (fun _ _ => 0)
      case atStart => exact ⟨rfl, rfl⟩
      case round =>
        obtain ⟨rfl, rfl⟩ := hrel
        gi_wp2
        go_ret
        have e : ls.take j = ls := List.take_of_length_le (by omega)
        rw [e] at hJj
        exact .inl ⟨rfl, hJj, hbj⟩
end Go.Proofs.YtdpfohgkikjeaaaGreat
/- each over whole nodes; All. -/
namespace Go.Proofs.YtdpfohgkikjeaaaGreat
open Go.RowKit Go.Shelf
set_option linter.unusedVariables false
set_option linter.unusedSimpArgs false
attribute [local go_sem] Oper.semAt_some

set_option maxRecDepth 100000 in
set_option maxHeartbeats 2000000 in
theorem each_in (F : Fence) (hd : F.depth = none) (he : F.fn 81) (hro : F.round = none) (l n₀ : Nat) (Ls : List Str) (J Jx : List Str → World → Prop)
    (hY : ∀ m pre x W, J pre W → pre ++ [x] <+: Ls → YieldAt F m Tryz.prog l #[sv x] W fun e W' =>
      (e = .returned (.bool true) ∧ J (pre ++ [x]) W' ∧ Below n₀ W W') ∨ (e = .returned (.bool false) ∧ Jx (pre ++ [x]) W')) :
    ∀ (h n : Nat) (rest : List Value) (T : TypeId) (k : Kid) (pre : List Str) (W : World), NodeR W h rest T k → (∀ x ∈ k.fp, x < n₀) → J pre W → pre ++ k.ls <+: Ls → k.ls.length ≤ 1000 → k.n ≤ 1000 →
      CallsIn F n Tryz.prog 81 #[.pointer (some ⟨k.b, 0, none⟩), .func (.yield l) #[] #[]] W fun e W' =>
        (e = .returned (.bool true) ∧ J (pre ++ k.ls) W' ∧ Below n₀ W W') ∨ (e = .returned (.bool false) ∧ ∃ q, q <+: k.ls ∧ Jx (pre ++ q) W')
  | 0, n, rest, T, k, pre, W, hN, hfp, hJ, hlen, hsm, _ => each_leaf F hd he hro l n₀ Ls J Jx hY n rest T k pre W hN hfp hJ hlen hsm
  | h + 1, n, rest, T, k, pre, W, hN, hfp, hJ, hlen, hsm, hnn => by
    have IH := each_in F hd he hro l n₀ Ls J Jx hY h
    clear hY
    obtain ⟨v, ks, hB, hkl, hkf, hkn, h0, hok⟩ := Brn.of_node hN
    obtain ⟨b, nn, ls, fp⟩ := k
    simp only at hB hkl hkf hkn hfp hlen hsm h0 hnn
    subst hkl
    subst hkf
    subst hkn
    simp only [Kid.count] at hB
    have hdd : ∀ k : Nat, (F.depth.isSome = true → 1 ≤ k) := fun k h => by rw [hd] at h; cases h
    obtain ⟨pv, cv, rfl⟩ := hB.row.slice
    obtain ⟨hc, hf⟩ := cells_of hB.cells
    have hrow := hB.row
    have hfam := hB.fam
    refine callsIn_of_wp Tryz.func81 rfl he ?_ hro
    simp only [Tryz.ntmps81, List.size_toArray, List.length_cons, List.length_nil, Nat.reduceAdd, Nat.reduceSub, Array.replicate_succ, Array.replicate_zero, List.push_toArray, List.append_toArray, List.nil_append, List.cons_append]
    gi_wp2
    gi_loopw [14] (fun i wr2 => i = .int .i64 0 ∧ wr2 = W) (fun _ _ => 0)
    case atStart => exact ⟨rfl, rfl⟩
    case round =>
      obtain ⟨rfl, hwr⟩ := hrel
      rw [hwr]
      clear hwr
      gi_wp2
      gi_loopw [28] (fun i wr => ∃ j : Nat, j ≤ ks.length ∧ i = .int .i64 j ∧ J (pre ++ itemsOf (ks.take j)) wr ∧ Below n₀ W wr) (fun i _ => ks.length - (intOf i).toNat)
      case atStart => exact ⟨0, Nat.zero_le _, rfl, by simpa [itemsOf] using hJ, Below.refl _ _⟩
      case round =>
        obtain ⟨j, hj, rfl, hJj, hbj⟩ := hrel
        have hkj := kept_of_belowN hbj
        have hrr := hrow.kept hkj (fun x hx h => by have := hfp x (by simp [hx]); omega)
        have hfr := hfam.kept hkj (fun x hx h => by have := hfp x (by simp [hx]); omega)
        by_cases hlt : j < ks.length
        · have hit : Hid (itemsOf (ks.take (j + 1)) = itemsOf (ks.take j) ++ (ks[j]).ls) := itemsOf_take ks j hlt
          rcases hrr.shape with ⟨h0, h1, _⟩ | ⟨g, c', hv, _, _⟩
          · omega
          simp only [Value.slice.injEq, true_and] at hv
          obtain ⟨rfl, rfl⟩ := hv
          obtain ⟨_, _, _, hcell⟩ := hrr.cell
          have hcj := hcell j (ks[j]).ptr (by simp [hlt])
          clear hcell
          have hmem : ks[j] ∈ ks := List.getElem_mem hlt
          have hcl := itemsOf_mem hmem
          have hll : (itemsOf (ks.take j)).length + (ks[j]).ls.length ≤ (itemsOf ks).length := by
            have e : itemsOf ks = itemsOf (ks.take (j + 1)) ++ itemsOf (ks.drop (j + 1)) := by rw [← itemsOf_append, List.take_append_drop]
            rw [e, hit.out, List.length_append, List.length_append]; omega
          have hcf : ∀ x ∈ (ks[j]).fp, x < n₀ := fun x hx => hfp x (List.mem_cons_of_mem _ (List.mem_append.2 (.inr (mem_blocksOf.2 ⟨_, hmem, hx⟩))))
          have hcok := hok _ hmem
          have hcN := hfr.each _ hmem
          have hpre : Hid (itemsOf (ks.take j) ++ (ks[j]).ls <+: itemsOf ks) := by
            show _ <+: _
            rw [← hit.out]
            have e : itemsOf ks = itemsOf (ks.take (j + 1)) ++ itemsOf (ks.drop (j + 1)) := by rw [← itemsOf_append, List.take_append_drop]
            exact ⟨_, e.symm⟩
          have hIH := IH (n - 1) [] nodeT ks[j] (pre ++ itemsOf (ks.take j)) wr hcN hcf hJj (by rw [List.append_assoc]; exact ((List.prefix_append_right_inj _).2 hpre.out).trans hlen) (by omega) (by omega)
          generalize ks[j] = c at hit hcj hIH hpre hcl hll hcf hcok hcN hmem
          simp only [Kid.ptr] at hcj
          gi_wp2_with fail
          refine hIH.mono ?_
          rintro e W3 (⟨rfl, hJ3, hk3⟩ | ⟨rfl, q, hq, hJx3⟩)
          · gi_wp2
            go_roundw
            case rel => exact ⟨j + 1, hlt, by go_num, by rw [hit.out, ← List.append_assoc]; exact hJ3, hbj.trans hk3⟩
            case measure => simp [intOf]; omega
          · gi_wp2
            go_ret
            refine .inr ⟨rfl, itemsOf (ks.take j) ++ q, ?_, by rw [← List.append_assoc]; exact hJx3⟩
            exact ((List.prefix_append_right_inj _).2 hq).trans hpre.out
        · gi_wp2
          go_ret
          have e : ks.take j = ks := List.take_of_length_le (by omega)
          rw [e] at hJj
          exact .inl ⟨rfl, hJj, hbj⟩
end Go.Proofs.YtdpfohgkikjeaaaGreat
/- All; Text: the bytes of the lines. -/
namespace Go.Proofs.YtdpfohgkikjeaaaGreat
open Go.RowKit Go.Shelf
set_option linter.unusedVariables false
set_option linter.unusedSimpArgs false
attribute [local go_sem] Oper.semAt_some

theorem all_in (F : Fence) (n : Nat) (h : F.fn 49) (hro : F.round = none) (p0 : Option Addr) (w : World) :
    CallsIn F n Tryz.prog 49 #[.pointer p0] w fun e w' => e = .returned (.func (.func 80) #[] #[.pointer (some ⟨w.heap.size, 0, none⟩)]) ∧ w' = w.alloc (.cells #[.pointer p0] 134) := by
  refine callsIn_of_wp Tryz.func49 rfl h ?_ hro
  simp only [Tryz.ntmps49, List.size_toArray, List.length_cons, List.length_nil, Nat.reduceAdd, Nat.reduceSub, Array.replicate_succ, Array.replicate_zero, List.push_toArray, List.append_toArray, List.nil_append, List.cons_append]
  gi_wp2
  go_ret
  exact ⟨rfl, rfl⟩

/-- Item i of some. -/
def itemAt (ls : List Str) (i : Nat) : Str := (ls[i]?).getD []

set_option maxHeartbeats 1000000 in
theorem all1_in (F : Fence) (hd : F.depth = none) (n : Nat) (h5 : F.fn 80) (h6 : F.fn 81) (hro : F.round = none) (l Bt n₀ : Nat) (b : Nat) (rest : List Value) (T : TypeId) (ls : List Str) (fp : List Nat) (J Jx : List Nat → World → Prop)
    (hY : ∀ pre x W, J pre W → pre.length < ls.length → YieldAt F (n - 1) Tryz.prog l #[sv (itemAt ls x)] W fun e W' =>
      (e = .returned (.bool true) ∧ J (pre ++ [x]) W' ∧ Below n₀ W W') ∨ (e = .returned (.bool false) ∧ Jx (pre ++ [x]) W'))
    (W : World) (hBt : W.cell? ⟨Bt, 0, none⟩ = some (.pointer (some ⟨b, 0, none⟩))) (hT : TreeR W b rest T ls fp) (hfp : ∀ x ∈ fp, x < n₀) (hsm : ls.length ≤ 1000) (h0 : J [] W) :
    CallsIn F n Tryz.prog 80 #[.func (.yield l) #[] #[], .pointer (some ⟨Bt, 0, none⟩)] W fun e W' => (∃ v, e = .returned v) ∧
      ((∃ ys, ys = List.range ls.length ∧ J ys W') ∨ (∃ pre, True ∧ Jx pre W')) := by
  have hdd : ∀ k : Nat, (F.depth.isSome = true → 1 ≤ k) := fun k h => by rw [hd] at h; cases h
  obtain ⟨h, nn, hN, _, h8⟩ := hT.ex
  have hp := each_in F hd h6 hro l n₀ ls (fun ss W => J (List.range ss.length) W) (fun ss W => Jx (List.range ss.length) W) (fun m pre x W hj hl => by
    have hx : x = itemAt ls pre.length ∧ pre.length < ls.length := by
      obtain ⟨r, hr⟩ := hl
      subst hr
      refine ⟨?_, by simp⟩
      simp [itemAt]
    rw [hx.1]
    refine YieldAt.anyDepth hd m ((hY (List.range pre.length) pre.length W hj (by simpa using hx.2)).mono (fun e W' hh => ?_))
    rw [← List.range_succ] at hh
    simpa using hh) h (n - 1) rest T ⟨b, nn, ls, fp⟩ [] W hN hfp (by simpa using h0) (by simp) hsm (by simp only; omega)
  simp only at hp
  refine callsIn_of_wp Tryz.func80 rfl h5 ?_ hro
  simp only [Tryz.ntmps80, List.size_toArray, List.length_cons, List.length_nil, Nat.reduceAdd, Nat.reduceSub, Array.replicate_succ, Array.replicate_zero, List.push_toArray, List.append_toArray, List.nil_append, List.cons_append]
  gi_wp2_with ((try refine ⟨hdd _, ?_⟩); gi_at_call 81; refine hp.mono ?_; clear hp; rintro e W1 (⟨rfl, hJ1, _⟩ | ⟨rfl, q, hq, hx⟩))
  · go_end0
    exact ⟨⟨_, rfl⟩, .inl ⟨_, rfl, by simpa using hJ1⟩⟩
  · go_end0
    exact ⟨⟨_, rfl⟩, .inr ⟨_, trivial, hx⟩⟩

theorem all_stops (F : Fence) (hd : F.depth = none) (n : Nat) (h5 : F.fn 80) (h6 : F.fn 81) (hro : F.round = none) (Bt n₀ : Nat) (b : Nat) (rest : List Value) (T : TypeId) (ls : List Str) (fp : List Nat) (w : World) (hBt : Bt < w.heap.size) (hn₀ : n₀ ≤ w.heap.size)
    (hc : w.cell? ⟨Bt, 0, none⟩ = some (.pointer (some ⟨b, 0, none⟩))) (hT : TreeR w b rest T ls fp) (hfp : ∀ x ∈ fp, x < n₀) (hsm : ls.length ≤ 1000) :
    SeqStopsK F n Tryz.prog 80 #[.pointer (some ⟨Bt, 0, none⟩)] (fun x : Nat => #[sv (itemAt ls x)]) (Below n₀) (fun ys => ys = List.range ls.length) (fun _ => True) ls.length w := fun l J Jx W hW _ _ hY h0 =>
  all1_in F hd n h5 h6 hro l Bt n₀ b rest T ls fp J Jx hY W ((hW.cell (p := ⟨Bt, 0, none⟩) hBt).trans hc) (hT.kept (kept_of_belowN (hW.mono hn₀)) (fun x hx h => by have := hfp x hx; omega)) hfp hsm h0

/-- The items so far. -/
def itemsAt (ls : List Str) (pre : List Nat) : List Str := pre.map (itemAt ls)
theorem itemsAt_all (ls : List Str) : itemsAt ls (List.range ls.length) = ls := by
  unfold itemsAt itemAt
  refine List.ext_getElem (by simp) (fun i h1 h2 => ?_)
  simp at h1
  simp [h1]
theorem itemsAt_length {ls : List Str} (h : ∀ l ∈ ls, l.length ≤ 1000000) (pre : List Nat) : (textOf (itemsAt ls pre)).length ≤ 1000001 * pre.length := by
  induction pre with
  | nil => simp [itemsAt, textOf]
  | cons i pre ih =>
    have e : itemsAt ls (i :: pre) = itemAt ls i :: itemsAt ls pre := rfl
    rw [e, textOf_cons]
    have h1 : (itemAt ls i).length ≤ 1000000 := by
      unfold itemAt
      cases hh : ls[i]? with
      | none => simp
      | some x => exact h x (List.mem_of_getElem? hh)
    simp only [List.length_append, List.length_cons]
    omega

/-! ### A builder of this program's -/
def ρB : Ren := ⟨fun | 166 => 50 | 169 => 51 | 240 => 82 | 276 => 106 | n => n, fun | 0 => 0 | 3 => 3 | 4 => 4 | 5 => 5 | 9 => 9 | 20 => 20 | 37 => 56 | 70 => 104 | 72 => 106 | 75 => 111 | 80 => 53 | 127 => 140 | 164 => 170 | n => n, fun | n => n⟩
theorem lays166 : Lays.n166 Tryz.prog ρB := {
  mixed := by kernel_rfl
  f166 := Tryz.func50.trans (congrArg some (by kernel_rfl))
  f240 := Tryz.func82.trans (congrArg some (by kernel_rfl))
  f276 := Tryz.func106.trans (congrArg some (by kernel_rfl))
  t0 := Tryz.underlying0
  a0 := Tryz.isAgg0
  z0 := Tryz.sizeOf0
  v0 := Tryz.zeroValue0
  t3 := Tryz.underlying3
  a3 := Tryz.isAgg3
  z3 := Tryz.sizeOf3
  v3 := Tryz.zeroValue3
  t4 := Tryz.underlying4
  a4 := Tryz.isAgg4
  z4 := Tryz.sizeOf4
  v4 := Tryz.zeroValue4
  t9 := Tryz.underlying9
  a9 := Tryz.isAgg9
  z9 := Tryz.sizeOf9
  v9 := Tryz.zeroValue9
  t20 := Tryz.underlying20
  a20 := Tryz.isAgg20
  z20 := Tryz.sizeOf20
  v20 := Tryz.zeroValue20
  t37 := Tryz.underlying56
  a37 := Tryz.isAgg56
  z37 := Tryz.sizeOf56
  v37 := Tryz.zeroValue56
  t70 := Tryz.underlying104
  a70 := Tryz.isAgg104
  z70 := Tryz.sizeOf104
  v70 := Tryz.zeroValue104
  t72 := Tryz.underlying106
  a72 := Tryz.isAgg106
  z72 := Tryz.sizeOf106
  v72 := Tryz.zeroValue106
  t75 := Tryz.underlying111
  a75 := Tryz.isAgg111
  z75 := Tryz.sizeOf111
  v75 := Tryz.zeroValue111
  t164 := Tryz.underlying170
  a164 := Tryz.isAgg170
  z164 := Tryz.sizeOf170
  v164 := Tryz.zeroValue170 }
theorem lays169 : Lays.n169 Tryz.prog ρB := {
  mixed := by kernel_rfl
  f169 := Tryz.func51.trans (congrArg some (by kernel_rfl))
  t0 := Tryz.underlying0
  a0 := Tryz.isAgg0
  z0 := Tryz.sizeOf0
  v0 := Tryz.zeroValue0
  t3 := Tryz.underlying3
  a3 := Tryz.isAgg3
  z3 := Tryz.sizeOf3
  v3 := Tryz.zeroValue3
  t9 := Tryz.underlying9
  a9 := Tryz.isAgg9
  z9 := Tryz.sizeOf9
  v9 := Tryz.zeroValue9
  t37 := Tryz.underlying56
  a37 := Tryz.isAgg56
  z37 := Tryz.sizeOf56
  v37 := Tryz.zeroValue56
  t70 := Tryz.underlying104
  a70 := Tryz.isAgg104
  z70 := Tryz.sizeOf104
  v70 := Tryz.zeroValue104
  t72 := Tryz.underlying106
  a72 := Tryz.isAgg106
  z72 := Tryz.sizeOf106
  v72 := Tryz.zeroValue106
  t127 := Tryz.underlying140
  a127 := Tryz.isAgg140
  z127 := Tryz.sizeOf140
  v127 := Tryz.zeroValue140 }
theorem extraB : Builder.Extra Tryz.prog ρB := {
  sizeBuilder := by kernel_rfl
  liesBuilder := by kernel_rfl
  t5 := Tryz.underlying5
  a5 := Tryz.isAgg5
  z5 := Tryz.sizeOf5
  v5 := Tryz.zeroValue5
  infoByte := by kernel_rfl
  cellsByte := by kernel_rfl
  sizeByte := by kernel_rfl
  neB5 := by decide }

abbrev BuilderIs (b : Nat) (l : Str) (w : World) : Prop := Lib.IsBuilderF 106 5 b b (Lib.byteCells l) w

theorem writeString_any (b : Nat) (l : Str) (s : Str) (w : World) (h : BuilderIs b l w) (hlen : l.length + s.length ≤ 140737488355328) :
    Calls Tryz.prog 50 #[.pointer (some ⟨b, 0, none⟩), sv s] w fun e w' => e = .returned (.tuple #[.int .i64 s.length, .nilIface]) ∧ BuilderIs b (l ++ s) w' ∧ Below b w w' ∧ KeepsOthers w w' := by
  have hb : b ≤ w.heap.size := by
    rcases h with h | h
    · exact Nat.le_of_lt h.lt
    · exact Nat.le_of_lt h.lt
  have := Any.Builder_WriteString_k lays166 extraB b b (Lib.byteCells l) ⟨s.toArray⟩ w h (by rw [Lib.byteCells_length]; exact hlen) hb
  refine this.mono ?_
  rintro e w' ⟨rfl, h1, h2, h3⟩
  refine ⟨rfl, .inr ?_, h2, ⟨h2.size, fun k o hk ho => h3 k o hk ?_ (fun c fz e => by subst e; simp [Obj.isCells] at ho)⟩⟩
  · have e : Lib.byteCells l ++ Lib.strCells ⟨s.toArray⟩ = Lib.byteCells (l ++ s) := by simp [Lib.byteCells, Lib.strCells]
    rw [← e]; exact h1
  · intro e
    cases e
    rcases h with ⟨_, v, hb', _⟩ | ⟨_, v, hb', _⟩
    · rw [hb'] at hk; cases hk; simp [Obj.isCells] at ho
    · rw [hb'] at hk; cases hk; simp [Obj.isCells] at ho

theorem BuilderIs.others {b : Nat} {l : Str} {w w' : World} (h : BuilderIs b l w) (hs : w.heap.size ≤ w'.heap.size) (h3 : Lib.OthersKept 5 (some b) w w') : KeepsOthers w w' := by
  refine ⟨hs, fun k o hk ho => h3 k o hk ?_ (fun c fz e => by subst e; simp [Obj.isCells] at ho)⟩
  intro e
  cases e
  rcases h with ⟨_, v, hb', _⟩ | ⟨_, v, hb', _⟩
  · rw [hb'] at hk; cases hk; simp [Obj.isCells] at ho
  · rw [hb'] at hk; cases hk; simp [Obj.isCells] at ho

theorem string_any (b : Nat) (l : Str) (w : World) (h : BuilderIs b l w) :
    Calls Tryz.prog 51 #[.pointer (some ⟨b, 0, none⟩)] w fun e w' => e = .returned (sv l) ∧ Below b w w' ∧ KeepsOthers w w' := by
  have hb : b ≤ w.heap.size := by
    rcases h with h | h
    · exact Nat.le_of_lt h.lt
    · exact Nat.le_of_lt h.lt
  exact (Any.Builder_String_any_k lays169 extraB b b l w h hb).mono (fun e w' ⟨h1, _, h2, h3⟩ => ⟨h1, h2, BuilderIs.others h h2.size h3⟩)

theorem builder_kept {b : Nat} {l : Str} {w w' : World} {S : Blocks} (h : BuilderIs b l w) (hk : Kept S w w') (hS : ∀ k, S k → ∀ o, w.heap[k]? = some o → o.isCells = false) : BuilderIs b l w' := by
  have key : ∀ p, Lib.BuilderAtF 106 5 b b p (Lib.byteCells l) w → Lib.BuilderAtF 106 5 b b p (Lib.byteCells l) w' := fun p ⟨hB, v, hb, hown, hne⟩ => by
    refine ⟨hB, v, hk.get hb (fun hs => by have := hS b hs _ hb; simp [Obj.isCells] at this), ⟨hown.1, ?_⟩, hne⟩
    rcases hown.2 with h0 | ⟨g, cap, cur, fz, hv, hg, hh, r⟩
    · exact .inl h0
    · exact .inr ⟨g, cap, cur, fz, hv, hg, hk.get hh (fun hs => by have := hS g hs _ hh; simp [Obj.isCells] at this), r⟩
  exact h.elim (fun x => .inl (key _ x)) (fun x => .inr (key _ x))

theorem builder_new (w : World) : BuilderIs w.heap.size [] (w.alloc (.cells #[.pointer none, .slice none 0 0] 106)) :=
  .inl ⟨Nat.le_refl _, .slice none 0 0, heap_alloc_same, ⟨rfl, .inl ⟨rfl, rfl⟩⟩, by simp [Value.ownBlock]⟩
end Go.Proofs.YtdpfohgkikjeaaaGreat
/- Text: the walk. -/
namespace Go.Proofs.YtdpfohgkikjeaaaGreat
open Go.RowKit Go.Shelf
set_option linter.unusedVariables false
set_option linter.unusedSimpArgs false
attribute [local go_sem] Oper.semAt_some

set_option maxRecDepth 100000 in
set_option maxHeartbeats 2000000 in
theorem text_in (F : Fence) (hd : F.depth = none) (hro : F.round = none) (hfn : ∀ f, F.fn f) (HC : ∀ (f : FuncId) (args : Array Value) (w : World) (R : Ending → World → Prop) (n : Nat), Calls Tryz.prog f args w R → CallsIn F n Tryz.prog f args w R) {w : World} {b : Nat} {rest : List Value} {T : TypeId} {ls : List Str} {fp : List Nat} (hT : TreeR w b rest T ls fp) (hsm : ls.length ≤ 1000) (hlen : ∀ l ∈ ls, l.length ≤ 1000000) :
    CallsIn F 9 Tryz.prog 22 #[.pointer (some ⟨b, 0, none⟩)] w fun e w' => e = .returned (sv (textOf ls)) ∧ Kept no w w' := by
  have hfp := hT.lt
  have hdd : ∀ k : Nat, (F.depth.isSome = true → 1 ≤ k) := fun k h => by rw [hd] at h; cases h
  refine callsIn_of_wp_marks Tryz.func22 rfl (hfn _) ?_ hro
  simp only [Tryz.ntmps22, List.size_toArray, List.length_cons, List.length_nil, Nat.reduceAdd, Nat.reduceSub, Array.replicate_succ, Array.replicate_zero, List.push_toArray, List.append_toArray, List.nil_append, List.cons_append]
  gi_wp2_with (gi_at_call 49; refine (all_in F _ (hfn _) hro _ _).mono ?_; rintro e w' ⟨rfl, rfl⟩)
  have hbd := builder_new w
  obtain ⟨hn1, hsz1, hk1⟩ := new1 w (Obj.cells #[.pointer none, .slice none 0 0] 106)
  have hb1 := Below.heap_alloc
  generalize hB : w.heap.size = B at hbd hn1 hsz1 hfp ⊢
  generalize hw1 : w.alloc (Obj.cells #[.pointer none, .slice none 0 0] 106) = w1 at hbd hn1 hsz1 hk1 ⊢
  obtain ⟨hn2, hsz2, hk2⟩ := new1 w1 (Obj.cells #[.pointer (some ⟨b, 0, none⟩)] 134)
  have hbd2 := builder_kept hbd hk2 (fun _ h => h.elim)
  have hT2 := (hT.kept hk1 (fun _ _ h => h)).kept hk2 (fun _ _ h => h)
  have hk02 : Below B w (w1.alloc (Obj.cells #[.pointer (some ⟨b, 0, none⟩)] 134)) := by
    rw [← hw1, ← hB]; exact ((Below.refl _ w).alloc (Nat.le_refl _) _).alloc (by simp) _
  rw [hsz1] at hn2 hsz2
  generalize w1.alloc (Obj.cells #[.pointer (some ⟨b, 0, none⟩)] 134) = w2 at hn2 hsz2 hk2 hbd2 hT2 hk02 ⊢
  obtain ⟨hcb, hfb⟩ := cells_of hn2
  refine wpIn_rangeFunc_ownF hro (by decide) (gf := 80) (lb := #[.pointer (some ⟨B + 1, 0, none⟩)]) rfl (hfn _) (enters_of Tryz.func80 (by kernel_rfl) rfl)
    (all_stops F hd 8 (hfn _) (hfn _) hro (B + 1) B b rest T ls fp w2 (by omega) (by omega) (hcb 0) hT2 hfp hsm) belowK_t (belowK_b (by omega)) (Below.refl _ _) (fun _ => rfl)
    (fun pre W => BuilderIs B (textOf (itemsAt ls pre)) W ∧ Below B w W)
    (fun _ _ _ => False)
    ?hI
    (fun _ _ _ _ _ hs _ _ => hs)
    ⟨hbd2, hk02⟩
    (fun x => { tmps := #[.pointer (some ⟨b, 0, none⟩), undef, .string ⟨#[]⟩, .pointer (some ⟨B, 0, none⟩), sv (itemAt ls x), .pointer (some ⟨b, 0, none⟩), .pointer (some ⟨b, 0, none⟩), .pointer (some ⟨b, 0, none⟩), .func (.func 80) #[] #[.pointer (some ⟨B + 1, 0, none⟩)], sv (itemAt ls x), undef, undef, undef, undef], defers := [] }) ?assign ?body ?done ?stop
  case hI =>
    refine OwnFrom.and (fun s W W' row hs hg hr => builder_kept hs (Kept.of_grown (S := fun k => some k = row) hg (fun k e _ => e.symm)) (fun k e o ho => ?_)) (ownFrom_below (by omega) (by omega))
    obtain ⟨_, o', ho', hc'⟩ := hr k e.symm
    rw [ho'] at ho
    cases ho
    exact hc'
  case assign =>
    intro l x W K hK
    gi_wp2
    exact hK
  case body =>
    rintro l pre x W ⟨hbl, hbw⟩ hpl
    have hl1 := itemsAt_length hlen pre
    have hl2 := itemsAt_length hlen [x]
    have e2 : textOf (itemsAt ls [x]) = itemAt ls x ++ [10] := by simp [itemsAt, textOf]
    rw [e2] at hl2
    simp only [List.length_append, List.length_cons, List.length_nil] at hl2
    have e3 : textOf (itemsAt ls (pre ++ [x])) = textOf (itemsAt ls pre) ++ (itemAt ls x ++ [10]) := by rw [← e2, ← textOf_append]; simp [itemsAt]
    have E3 : Hid (textOf (itemsAt ls (pre ++ [x])) = textOf (itemsAt ls pre) ++ (itemAt ls x ++ [10])) := e3
    clear e2 e3
    have h5 : 1 ≤ 9 - 1 - 1 := by decide
    gi_wp2_with fail
    refine (CallsIn.inRound l (HC _ _ _ _ _ (writeString_any B _ _ W hbl (by omega)))).mono ?_
    rintro e W1 ⟨rfl, hbl1, hbw1, hko1⟩
    gi_wp2_with fail
    refine (CallsIn.inRound l (HC _ _ _ _ _ (writeString_any B _ [10] W1 hbl1 (by simp only [List.length_append, List.length_cons, List.length_nil]; omega)))).mono ?_
    rintro e W2 ⟨rfl, hbl2, hbw2, hko2⟩
    gi_wp2
    rw [List.append_assoc] at hbl2
    exact ⟨hko1.trans hko2, hbw1.trans hbw2, by rw [E3.out]; exact hbl2, hbw.trans (hbw1.trans hbw2)⟩
  case done =>
    rintro D ys W hD rfl ⟨hbl, hbw⟩ hK
    gi_wp2_with fail
    refine (HC _ _ _ _ _ (string_any B _ W hbl)).mono ?_
    rintro e W1 ⟨rfl, hb1, hko⟩
    have hK1 := hko.same D _ hK rfl
    rw [itemsAt_all]
    gi_wp2
    refine ⟨by simp, .inl ⟨_, _, rfl, run_takeDeferred hK1, ?_⟩⟩
    refine ⟨_, results_tmp rfl _ _ _, rfl, ?_⟩
    have hbf : Below B w W1 := hbw.trans hb1
    refine Kept.of_below ?_ no
    rw [hB]
    exact hbf.trans (belowK_b (w := w) (by omega) W1 D _ _ (by omega) hK1 rfl rfl)
  case stop =>
    rintro D c pre W _ _ h _
    exact h.elim

theorem text_any {w : World} {b : Nat} {rest : List Value} {T : TypeId} {ls : List Str} {fp : List Nat} (hT : TreeR w b rest T ls fp) (hsm : ls.length ≤ 1000) (hlen : ∀ l ∈ ls, l.length ≤ 1000000) :
    Calls Tryz.prog 22 #[.pointer (some ⟨b, 0, none⟩)] w fun e w' => e = .returned (sv (textOf ls)) ∧ Kept no w w' :=
  callsIn_wide.1 (text_in Fence.wide rfl rfl (fun _ => trivial) (fun _ _ _ _ _ h => callsIn_wide.2 h) hT hsm hlen)
end Go.Proofs.YtdpfohgkikjeaaaGreat
/- The document in memory. -/
namespace Go.Proofs.YtdpfohgkikjeaaaGreat
open Go.RowKit
set_option linter.unusedVariables false
set_option linter.unusedSimpArgs false

abbrev docT : TypeId := 101

/-- The cells of a document behind those of its tree. -/
abbrev docRest (d : DocS) (va : Value) : List Value :=
  [.int .i64 d.file.len, .int .u32 (d.file.sum : Int), .int .i64 (d.every : Int), .int .i64 (d.edits : Int), .int .i64 (d.counted : Int), .bool d.wr.known, .bool d.wr.unsettled, .int .i64 (d.wr.half : Int), .int .u64 (d.wr.number : Int), .int .i64 (d.kind : Int), va]

/-- Acts that are read: in a row, from some place on. -/
def ActsAt (w : World) (va : Value) (acts : List PAct) (afp : List Nat) : Prop :=
  (va = .slice none 0 0 ∧ acts = [] ∧ afp = []) ∨
  (∃ g o c, va = .slice (some ⟨g, o, none⟩) acts.length c ∧ afp = [g] ∧ g < w.heap.size ∧ acts.length ≤ c ∧ c ≤ maxLen ∧ ∀ j u, (actsCells acts)[j]? = some u → w.cell? ⟨g, o + j, none⟩ = some u)

theorem ActsAt.kept {S : Blocks} {w w' : World} {va acts afp} (h : ActsAt w va acts afp) (k : Kept S w w') (hn : ∀ x ∈ afp, ¬ S x) : ActsAt w' va acts afp := by
  rcases h with h | ⟨g, o, c, hv, hf, hg, h1, h2, hc⟩
  · exact .inl h
  · refine .inr ⟨g, o, c, hv, hf, Nat.lt_of_lt_of_le hg k.size, h1, h2, fun j u hu => ?_⟩
    rw [World.cell?_of_block (w := w) (k.block g hg (hn g (by simp [hf])))]
    exact hc j u hu

theorem ActsAt.lt {w : World} {va acts afp} (h : ActsAt w va acts afp) : ∀ x ∈ afp, x < w.heap.size := fun x hx => by
  rcases h with ⟨_, _, h⟩ | ⟨g, o, c, hv, hf, hg, _⟩
  · rw [h] at hx; cases hx
  · rw [hf] at hx; simp at hx; omega

theorem ActsRow.acts {w : World} {v : Value} {l : List PAct} (h : ActsRow w v l) : ActsAt w v l (fpv v) := by
  have hlt := h.lt
  rcases h.2 with ⟨h0, h1⟩ | ⟨g, cap, cur, hv, _, hg, h1, h2, h3, h4⟩
  · exact .inl ⟨h0, List.eq_nil_of_length_eq_zero h1, by rw [h0]; rfl⟩
  · subst hv
    refine .inr ⟨g, 0, cap, rfl, fpv_some, hlt g (by simp [fpv_some]), h1, h2, fun j u hu => ?_⟩
    rw [cells_of' hg, Nat.zero_add]
    rw [← h4, List.getElem?_take] at hu
    split at hu
    · simpa using hu
    · cases hu

structure DocAt (w : World) (b : Nat) (d : DocS) (va : Value) (tfp afp : List Nat) : Prop where
  tree : TreeR w b (docRest d va) docT d.lines tfp
  acts : ActsAt w va d.acts afp
  apart : ∀ x ∈ afp, x ∉ tfp
  ok : d.Ok

/-- The document d lies at b; its blocks are fp. -/
def DocR (w : World) (b : Nat) (d : DocS) (fp : List Nat) : Prop := ∃ va tfp afp, DocAt w b d va tfp afp ∧ fp = tfp ++ afp

theorem DocR.kept {S : Blocks} {w w' : World} {b d fp} (h : DocR w b d fp) (k : Kept S w w') (hn : ∀ x ∈ fp, ¬ S x) : DocR w' b d fp := by
  obtain ⟨va, tfp, afp, ⟨ht, ha, hp, hok⟩, rfl⟩ := h
  exact ⟨va, tfp, afp, ⟨ht.kept k (fun x hx => hn x (by simp [hx])), ha.kept k (fun x hx => hn x (by simp [hx])), hp, hok⟩, rfl⟩

theorem DocR.lt {w : World} {b d fp} (h : DocR w b d fp) : ∀ x ∈ fp, x < w.heap.size := fun x hx => by
  obtain ⟨va, tfp, afp, ⟨ht, ha, hp, hok⟩, rfl⟩ := h
  rcases List.mem_append.1 hx with hx | hx
  · exact ht.lt x hx
  · exact ha.lt x hx

theorem DocR.ok {w : World} {b d fp} (h : DocR w b d fp) : d.Ok := by
  obtain ⟨va, tfp, afp, h, _⟩ := h; exact h.ok

theorem DocR.mem {w : World} {b d fp} (h : DocR w b d fp) : b ∈ fp := by
  obtain ⟨va, tfp, afp, h, rfl⟩ := h
  exact List.mem_append.2 (.inl h.tree.mem)

/-- What a call leaves of a document. -/
structure DocTo (w w' : World) (b : Nat) (fp : List Nat) (d' : DocS) : Prop where
  ex : ∃ fp', DocR w' b d' fp' ∧ ∀ x ∈ fp', x ∈ fp ∨ w.heap.size ≤ x
  kept : Kept (fun x => x ∈ fp) w w'

/-- The same tree, with other cells behind it. -/
theorem TreeR.store {w w' : World} {b : Nat} {rest rest' : List Value} {T : TypeId} {ls : List Str} {fp : List Nat} (h : TreeR w b rest T ls fp) (hk : Kept (fun x => x = b) w w')
    (hc : ∀ vi vk cnt, w.heap[b]? = some (.cells (vi :: vk :: cnt :: rest).toArray T (0, 0)) → w'.heap[b]? = some (.cells (vi :: vk :: cnt :: rest').toArray T (0, 0))) : TreeR w' b rest' T ls fp := by
  obtain ⟨hh, n, hN, h1, h2⟩ := h.ex
  obtain ⟨vi, vk, h3⟩ := hN.three
  obtain ⟨tl, htl⟩ := h3.fp
  have hnd := hN.nodup
  have hlt := hN.lt
  simp only at htl
  subst htl
  simp only [List.nodup_cons] at hnd
  have := h3.move w' (fun x => x = b) b rest' T hk (fun x hx e => hnd.1 (e ▸ hx)) (hc _ _ _ h3.cells) hnd.1
  exact ⟨hh, n, this, h1, h2⟩

theorem DocAt.cells {w b d va tfp afp} (h : DocAt w b d va tfp afp) : ∃ vi vk, w.heap[b]? = some (.cells (vi :: vk :: .int .i64 (d.lines.length : Int) :: docRest d va).toArray docT (0, 0)) := h.tree.count

theorem stored3 {W : World} {Hb : Nat} {T : TypeId} {c0 c1 c2 v0 v1 v2 : Value} (h : W.heap[Hb]? = some (.cells #[c0, c1, c2] T (0, 0))) :
    (((W.setCell ⟨Hb, 0, none⟩ v0).setCell ⟨Hb, 1, none⟩ v1).setCell ⟨Hb, 2, none⟩ v2).heap[Hb]? = some (.cells #[v0, v1, v2] T (0, 0)) ∧
    Kept (fun x => x = Hb) W (((W.setCell ⟨Hb, 0, none⟩ v0).setCell ⟨Hb, 1, none⟩ v1).setCell ⟨Hb, 2, none⟩ v2) := by
  have e1 := heap_set_same (o := 0) (v := v0) h
  have e2 := heap_set_same (o := 1) (v := v1) e1
  have e3 := heap_set_same (o := 2) (v := v2) e2
  exact ⟨by rw [e3]; simp, (Kept.cell1.step Kept.cell1).step Kept.cell1⟩

theorem busy_any {w b d va tfp afp} (h : DocAt w b d va tfp afp) : Calls Tryz.prog 52 #[.pointer (some ⟨b, 0, none⟩)] w fun e w' => e = .returned (.bool (decide (d.kind ≠ 0))) ∧ w' = w := by
  obtain ⟨vi, vk, hb⟩ := h.cells
  obtain ⟨hc, _⟩ := cells_of hb
  go_enter Tryz.func52, Tryz.ntmps52
  go_wp2
  go_ret
  refine ⟨?_, rfl⟩
  show Ending.returned (.bool ((d.kind : Int) != 0)) = _
  congr 2
  rw [Bool.eq_iff_iff]; simp

theorem look_any {w b d va tfp afp} (h : DocAt w b d va tfp afp) : Calls Tryz.prog 19 #[.pointer (some ⟨b, 0, none⟩)] w fun e w' => e = .returned (.agg #[.int .i64 (d.lines.length : Int), .int .i64 (d.edits : Int), .int .i64 (d.kind : Int)]) ∧ Kept no w w' := by
  obtain ⟨vi, vk, hb⟩ := h.cells
  go_enter Tryz.func19, Tryz.ntmps19
  go_wp2_with fail
  obtain ⟨hn1, hsz1, hk1⟩ := new1 w (Obj.cells #[.int .i64 0, .int .i64 0, .int .i64 0] 44)
  have hb1 := hk1.get hb (fun h => h)
  generalize hB : w.heap.size = B at hn1 hsz1 ⊢
  generalize w.alloc (Obj.cells #[.int .i64 0, .int .i64 0, .int .i64 0] 44) = w1 at hn1 hsz1 hk1 hb1 ⊢
  refine wp_region3 (fun W => W.heap[b]? = some (.cells (vi :: vk :: .int .i64 (d.lines.length : Int) :: docRest d va).toArray docT (0, 0))) [(0, true), (1, true), (2, true), (4, true), (5, true), (6, true), (7, false), (8, true), (9, true), (10, true), (11, true), (12, false)] [3, 13, 14] (by kernel_rfl) (by kernel_rfl) (fun _ _ d _ _ h => by cases d <;> exact h) hb1 ?_
  repeat ((first | refine wpPre3_pure rfl rfl (fun W => (by go_simp; rfl)) ?_ | refine wpPre3_read rfl rfl (fun W hW => (by obtain ⟨hc, _⟩ := cells_of hW; go_simp; rfl)) ?_); simp only [Act.put, List.setIfInBounds_toArray, List.set])
  refine wpPre3_nil ?_
  refine wpTail3_cons rfl rfl (fun K hK => ?_)
  go_wp2_with fail
  refine (len_any (w := w1.drew) hb1).mono ?_
  rintro e w2 ⟨rfl, hw⟩
  rw [hw]
  clear hw
  refine hK _ _ ⟨fun h => h, ?_⟩
  clear hK
  refine wpTail3_last (by kernel_rfl) rfl rfl (fun K hK => ?_)
  go_wp2_with fail
  obtain ⟨hcz, hfz⟩ := cells_of hn1
  refine wpTail3_last (by kernel_rfl) rfl rfl (fun K hK => ?_)
  go_wp2_with fail
  refine wpTail3_nil ?_
  obtain ⟨hs1, hs2⟩ := stored3 (v0 := .int .i64 (d.lines.length : Int)) (v1 := .int .i64 (d.edits : Int)) (v2 := .int .i64 (d.kind : Int)) hn1
  have hk3 : Kept no w (((w1.setCell ⟨B, 0, none⟩ (.int .i64 (d.lines.length : Int))).setCell ⟨B, 1, none⟩ (.int .i64 (d.edits : Int))).setCell ⟨B, 2, none⟩ (.int .i64 (d.kind : Int))) := hk1.step' hs2 (fun x hx hlt => by omega)
  generalize ((w1.setCell ⟨B, 0, none⟩ (.int .i64 (d.lines.length : Int))).setCell ⟨B, 1, none⟩ (.int .i64 (d.edits : Int))).setCell ⟨B, 2, none⟩ (.int .i64 (d.kind : Int)) = w3 at hs1 hk3 ⊢
  clear hcz hfz
  have hs1' : w3.drew.heap[B]? = some (.cells #[.int .i64 (d.lines.length : Int), .int .i64 (d.edits : Int), .int .i64 (d.kind : Int)] 44 (0, 0)) := hs1
  obtain ⟨hcr, _⟩ := cells_of hs1'
  go_wp2
  exact bodyPost_ret (v := .agg #[.int .i64 (d.lines.length : Int), .int .i64 (d.edits : Int), .int .i64 (d.kind : Int)]) (by simp [results, Tryz.results19, go_sem, hcr]) rfl ⟨rfl, hk3.drew⟩
end Go.Proofs.YtdpfohgkikjeaaaGreat
/- Lines; put; a sync is begun. -/
namespace Go.Proofs.YtdpfohgkikjeaaaGreat
open Go.RowKit
set_option linter.unusedVariables false
set_option linter.unusedSimpArgs false

theorem size_mk (l : Str) : (⟨l.toArray⟩ : ByteArray).size = l.length := by simp [ByteArray.size]

theorem contains_str (s : Str) (w : World) (t : Bool) (ht : s.contains 10 = t) : Calls Tryz.prog 84 #[.string ⟨s.toArray⟩, .string ⟨#[10]⟩] w fun e w' => e = .returned (.bool t) ∧ w' = w := by
  subst ht
  exact contains_any ⟨s.toArray⟩ w

theorem isLine_any (s : Str) (w : World) (hs : s.length ≤ 140737488355328) : Calls Tryz.prog 55 #[.string ⟨s.toArray⟩] w fun e w' => e = .returned (.bool (decide (LineOk s))) ∧ w' = w := by
  by_cases h : s.length ≤ 40
  · have hi : (s.length : Int) ≤ 40 := by omega
    have hd : decide ((s.length : Int) ≤ 40) = true := by rw [decide_eq_true_iff]; omega
    by_cases hm : (10 : UInt8) ∈ s
    · have hc := contains_str s w true (by simpa using hm)
      go_enter Tryz.func55, Tryz.ntmps55
      go_wp2_with (go_at_call 84; refine hc.mono ?_; rintro e w ⟨rfl, rfl⟩)
      go_ret
      rw [decide_eq_false (fun hh : LineOk s => hh.2 hm)]
      exact ⟨rfl, rfl⟩
    · have hc := contains_str s w false (by simpa using hm)
      go_enter Tryz.func55, Tryz.ntmps55
      go_wp2_with (go_at_call 84; refine hc.mono ?_; rintro e w ⟨rfl, rfl⟩)
      go_ret
      rw [decide_eq_true (⟨h, hm⟩ : LineOk s)]
      exact ⟨rfl, rfl⟩
  · have hi : ¬ (s.length : Int) ≤ 40 := by omega
    have hd : decide ((s.length : Int) ≤ 40) = false := by rw [decide_eq_false_iff_not]; omega
    go_enter Tryz.func55, Tryz.ntmps55
    go_wp2
    go_ret
    exact ⟨rfl, rfl⟩

set_option maxRecDepth 100000 in
theorem put_any {w : World} {b : Nat} {ls : List Str} {rest : List Value} {T : TypeId} {fp : List Nat} (hT : TreeR w b rest T ls fp) (p : Nat) (pI : Int) (hpI : pI = (p : Int)) (hp : p ≤ ls.length) (hl : ls.length ≤ 900) (item : Str) (hi : item.length ≤ 140737488355328) :
    Calls Tryz.prog 56 #[.pointer (some ⟨b, 0, none⟩), .int .i64 pI, sv item] w fun e w' => e = .returned (.tuple #[]) ∧ ∃ fp', TreeTo w w' b rest T fp (ls.take p ++ item :: ls.drop p) fp' := by
  subst hpI
  have hsz : (⟨item.toArray⟩ : ByteArray).size ≤ 281474976710656 := by rw [size_mk]; omega
  go_enter Tryz.func56, Tryz.ntmps56
  go_wp2_with fail
  refine wp_region3 (fun _ => True) [(0, true), (1, true), (2, true), (3, true), (4, true)] [5, 6] (by kernel_rfl) (by kernel_rfl) (fun _ _ d _ _ h => by cases d <;> exact h) trivial ?_
  repeat (refine wpPre3_pure rfl rfl (fun W => (by go_simp; rfl)) ?_; simp only [Act.put, List.setIfInBounds_toArray, List.set])
  refine wpPre3_nil ?_
  refine wpTail3_cons rfl rfl (fun K hK => ?_)
  go_wp2_with fail
  refine (clone_any ⟨item.toArray⟩ _ hsz).mono ?_
  rintro e w1 ⟨rfl, hk1'⟩
  have hk1 : Kept no w w1 := hk1'.of_drew
  refine hK _ _ ⟨fun _ => trivial, ?_⟩
  clear hK
  have hT1 := hT.kept hk1 (fun _ _ h => h)
  refine wpTail3_cons rfl rfl (fun K hK => ?_)
  go_wp2_with fail
  refine (tinsert_any hT1 p _ rfl hp hl item).mono ?_
  rintro e w2 ⟨rfl, fp', hT2, hsub, hk2⟩
  refine hK _ _ ⟨fun _ => trivial, ?_⟩
  clear hK
  refine wpTail3_nil ?_
  go_wp2
  go_end0
  exact ⟨rfl, fp', hT2, fun x hx => (hsub x hx).imp id (fun h => Nat.le_trans hk1.size h), (hk1.mono (fun _ h _ => h.elim)).step hk2⟩

theorem heap_set2 {W : World} {Hb : Nat} {T : TypeId} {cs : Array Value} {i j : Nat} {v0 v1 : Value} (h : W.heap[Hb]? = some (.cells cs T (0, 0))) :
    ((W.setCell ⟨Hb, i, none⟩ v0).setCell ⟨Hb, j, none⟩ v1).heap[Hb]? = some (.cells ((cs.setIfInBounds i v0).setIfInBounds j v1) T (0, 0)) ∧
    Kept (fun x => x = Hb) W ((W.setCell ⟨Hb, i, none⟩ v0).setCell ⟨Hb, j, none⟩ v1) :=
  ⟨heap_set_same (heap_set_same h), Kept.cell1.step Kept.cell1⟩

set_option maxHeartbeats 1000000 in
theorem beginSync_any {w b d va tfp} (hT : TreeR w b (docRest d va) docT d.lines tfp) (ok : d.Base) :
    Calls Tryz.prog 59 #[.pointer (some ⟨b, 0, none⟩)] w fun e w' => e = .returned (.tuple #[]) ∧ ∃ v afp, TreeR w' b (docRest d.beginSync v) docT d.lines tfp ∧ ActsAt w' v d.beginSync.acts afp ∧ (∀ x ∈ afp, w.heap.size ≤ x) ∧ Kept (fun x => x = b) w w' := by
  obtain ⟨vi, vk, hb⟩ := hT.count
  obtain ⟨hc, hf⟩ := cells_of hb
  go_enter Tryz.func59, Tryz.ntmps59
  go_wp2_with fail
  have hb1 : (w.setCell ⟨b, 7, none⟩ (.int .i64 0)).heap[b]? = some (.cells (vi :: vk :: .int .i64 (d.lines.length : Int) :: docRest { d with counted := 0 } va).toArray docT (0, 0)) := by rw [heap_set_same hb]; simp
  have hk1 : Kept (fun x => x = b) w (w.setCell ⟨b, 7, none⟩ (.int .i64 0)) := Kept.cell1
  have hT1 : TreeR (w.setCell ⟨b, 7, none⟩ (.int .i64 0)) b (docRest { d with counted := 0 } va) docT d.lines tfp := hT.store hk1 (fun _ _ _ hh => by rw [heap_set_same hh]; simp)
  generalize w.setCell ⟨b, 7, none⟩ (.int .i64 0) = w1 at hb1 hk1 hT1 ⊢
  clear hc hf
  refine wp_region3 (fun W => W.heap[b]? = some (.cells (vi :: vk :: .int .i64 (d.lines.length : Int) :: docRest { d with counted := 0 } va).toArray docT (0, 0))) [(0, true), (1, true), (2, true), (3, true), (4, true), (6, true), (7, true), (8, true), (9, false)] [5, 10, 11, 12, 13, 14] (by kernel_rfl) (by kernel_rfl) (fun _ _ d _ _ h => by cases d <;> exact h) hb1 ?_
  repeat ((first | refine wpPre3_pure rfl rfl (fun W => (by go_simp; rfl)) ?_ | refine wpPre3_read rfl rfl (fun W hW => (by obtain ⟨hc, _⟩ := cells_of hW; go_simp; rfl)) ?_); simp only [Act.put, List.setIfInBounds_toArray, List.set])
  refine wpPre3_nil ?_
  refine wpTail3_cons rfl rfl (fun K hK => ?_)
  go_wp2_with fail
  refine (text_any (w := w1.drew) (hT1.kept (S := no) ((Kept.refl _ _).drew) (fun _ _ h => h)) (by have := ok.text.few; omega) (fun l hl => by have := (ok.text.lines l hl).1; omega)).mono ?_
  rintro e w2 ⟨rfl, hk2'⟩
  have hk2 : Kept no w1 w2 := hk2'.of_drew
  refine hK _ _ ⟨fun h => hk2'.get h (fun h => h), ?_⟩
  clear hK
  have hb2 := hk2.get hb1 (fun h => h)
  obtain ⟨hc2, hf2⟩ := cells_of hb2
  refine wpTail3_last (by kernel_rfl) rfl rfl (fun K hK => ?_)
  go_wp2_with fail
  have hwr : WrAt w2 b 8 d.wr := ⟨by rw [hc2]; rfl, by rw [hc2]; rfl, by rw [hc2]; rfl, by rw [hc2]; rfl⟩
  refine (acts_any b 8 d.wr (textOf d.lines) d.file w2 hwr ok.half ok.number ok.text.length ok.sum ok.len0 ok.len1).mono ?_
  rintro e w3 ⟨v, rfl, hr3, hk3, hf3⟩
  obtain ⟨p3, c3, rfl⟩ := Row.slice hr3
  refine hK _ _ ?_
  clear hK
  have hb3 := hk3.get hb2 (fun h => h)
  have hT3 := (hT1.kept hk2 (fun _ _ h => h)).kept hk3 (fun _ _ h => h)
  clear hc2 hf2
  obtain ⟨hc3, hf3'⟩ := cells_of hb3
  refine wpTail3_last (by kernel_rfl) rfl rfl (fun K hK => ?_)
  go_wp2_with fail
  refine wpTail3_last (by kernel_rfl) rfl rfl (fun K hK => ?_)
  go_wp2_with fail
  refine wpTail3_last (by kernel_rfl) rfl rfl (fun K hK => ?_)
  go_wp2_with fail
  refine wpTail3_last (by kernel_rfl) rfl rfl (fun K hK => ?_)
  go_wp2_with fail
  refine wpTail3_nil ?_
  go_wp2
  go_end0
  have hkk : Kept (fun x => x = b) w3 ((w3.setCell ⟨b, 12, none⟩ (.int .i64 1)).setCell ⟨b, 13, none⟩ (.slice p3 (d.wr.acts (textOf d.lines) d.file).length c3)) := Kept.cell1.step Kept.cell1
  have hbl := lt_of_heap hb2
  refine ⟨rfl, _, _, hT3.store hkk (fun vi vk cnt hh => ?_), (ActsRow.acts hr3).kept hkk (fun x hx e => ?_), fun x hx => ?_, ((hk1.step (hk2.mono (fun _ h _ => h.elim))).step (hk3.mono (fun _ h _ => h.elim))).step hkk⟩
  · rw [(heap_set2 hh).1]
    simp [DocS.beginSync]
  · have := hf3 x hx; omega
  · have h1 := hf3 x hx
    have h2 := hk1.size
    have h3 := hk2.size
    omega
end Go.Proofs.YtdpfohgkikjeaaaGreat

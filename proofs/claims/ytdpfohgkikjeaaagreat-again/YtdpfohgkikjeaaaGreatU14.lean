/- Part 14 of the proof: see its parts. -/
import Derived.Deep.LoopGhost
import Derived.Test.YtdpfohgkikjeaaaGreatU13
/- insert and remove of whole nodes. -/
namespace Go.Proofs.YtdpfohgkikjeaaaGreat
open Go.RowKit
set_option linter.unusedVariables false
set_option linter.unusedSimpArgs false

theorem Fam.one {w h c} (hN : NodeR w h [] nodeT c) : Fam w h [c] := ⟨fun z hz => by simp at hz; subst hz; exact hN, by rw [blocksOf_one]; exact hN.nodup⟩

/-- A kid has turned by a call. -/
theorem Brn.call {w w' : World} {h : Nat} {rest : List Value} {T : TypeId} {b : Nat} {v cnt : Value} {A B : List Kid} {c c' : Kid} (hB : Brn w h rest T b v cnt (A ++ [c] ++ B)) (hL : Left1 w w' h [] nodeT c c') :
    Brn w' h rest T b v cnt (A ++ [c'] ++ B) ∧ ∀ x ∈ blocksOf (A ++ [c'] ++ B), x ∈ blocksOf (A ++ [c] ++ B) ∨ w.heap.size ≤ x :=
  hB.turn hL.kept (fun x hx _ => by rw [blocksOf_one]; exact hx) (Fam.one hL.node) (fun x hx => by rw [blocksOf_one] at hx ⊢; exact hL.sub x hx) (by simp [Kid.ptr, hL.b])

set_option maxHeartbeats 2000000 in
set_option maxRecDepth 100000 in
theorem insert_any (item : Str) : ∀ (h : Nat) (w : World) (rest : List Value) (T : TypeId) (k : Kid) (p : Nat) (pI : Int), NodeR w h rest T k → (h ≠ 0 → 2 ≤ k.n) → k.n ≤ 8 → pI = (p : Int) → p ≤ k.ls.length → k.ls.length ≤ 1000 →
    Calls Tryz.prog 112 #[.pointer (some ⟨k.b, 0, none⟩), .int .i64 pI, sv item] w fun e w' => e = .returned (.tuple #[]) ∧ ∃ k', Left1 w w' h rest T k k' ∧ k'.ls = k.ls.take p ++ item :: k.ls.drop p ∧ k.n ≤ k'.n ∧ k'.n ≤ k.n + 1
  | 0, w, rest, T, k, p, pI, hN, _, hk8, hpI, hp, hl => (insert_leaf hN item p pI hpI hp hl).mono (fun e w' ⟨h1, k', h2, h3, h4⟩ => ⟨h1, k', h2, h3, by omega, by omega⟩)
  | h + 1, w, rest, T, k, p, pI, hN, hk2, hk8, hpI, hp, hl => by
    have IH := insert_any item h
    subst hpI
    obtain ⟨v, ks, hB, hkl, hkf, hkn, _, hok⟩ := Brn.of_node hN
    obtain ⟨b, n, ls, fp⟩ := k
    simp only at hB hkl hkf hkn hk2 hk8 hp hl hN
    subst hkl
    subst hkf
    subst hkn
    simp only [Kid.count] at hB
    have hk2 := hk2 (by omega)
    obtain ⟨hap1, hap2, hap3⟩ := hB.apart
    have hk0 := hB.kidsAt
    obtain ⟨A, c, B, hE, hs1, hs2, hs3, _⟩ := seek_spec ks 0 p (by intro e; subst e; simp at hk2) hp
    obtain ⟨g, cv, hv, hcell⟩ := (hE ▸ hk0 : KidsAt w v (A ++ c :: B)).mid
    rw [← hE] at hv
    subst hv
    have hAl : A.length < ks.length := by rw [hE]; simp
    have HE : Hid (ks = A ++ [c] ++ B) := by show ks = A ++ [c] ++ B; rw [hE]; simp
    have hcok := hok c (by rw [hE]; simp)
    have hcl : c.ls.length ≤ 1000 := by have := itemsOf_mem (ks := ks) (c := c) (by rw [hE]; simp); omega
    have HS : Hid ((seek ks 0 p).1 = A.length) := by show (seek ks 0 p).1 = A.length; omega
    have HP : Hid ((itemsOf A).length + (seek ks 0 p).2 = p) := hs2
    clear hE hs1 hs2
    obtain ⟨hc, hf⟩ := cells_of hB.cells
    have hw : IntKind.i64.wrap (((itemsOf ks).length : Int) + 1) = ((itemsOf ks).length : Int) + 1 := by rw [IntKind.wrap_i64]; omega
    go_enter Tryz.func112, Tryz.ntmps112
    go_wp2_with fail
    have hB1 : Brn (w.setCell ⟨b, 2, none⟩ (.int .i64 (((itemsOf ks).length : Int) + 1))) h rest T b (.slice (some ⟨g, 0, none⟩) ks.length cv) (.int .i64 (((itemsOf ks).length : Int) + 1)) ks := hB.count
    have hk1 : Kept (fun x => x = b) w (w.setCell ⟨b, 2, none⟩ (.int .i64 (((itemsOf ks).length : Int) + 1))) := Kept.cell1
    have hcell1 : (w.setCell ⟨b, 2, none⟩ (.int .i64 (((itemsOf ks).length : Int) + 1))).cell? ⟨g, A.length, none⟩ = some c.ptr := by
      rw [World.cell?_of_block (w := w) (hk1.block g (hB.row.lt g (by simp [fpv_some])) (fun e => hap1 (e ▸ (by simp [fpv_some]))))]; exact hcell
    generalize w.setCell ⟨b, 2, none⟩ (.int .i64 (((itemsOf ks).length : Int) + 1)) = w1 at hB1 hk1 hcell1 ⊢
    clear hc hf
    refine (leaf_calls hB1.cells rfl false (by rw [decide_eq_false]; omega)).mono ?_
    rintro e w1b ⟨rfl, hw1⟩
    rw [hw1]
    clear hw1
    obtain ⟨hc1, hf1⟩ := cells_of hB1.cells
    go_wp2_with fail
    refine (find_any b _ _ _ rest T ks p _ rfl w1 hB1.cells hB1.kidsAt (by omega) (by omega) (fun z hz => by have := itemsOf_mem hz; omega) (by omega)).mono ?_
    rintro e w1b ⟨rfl, hw1⟩
    rw [hw1, HS.out]
    clear hw1 HS
    generalize hq : (seek ks 0 p).2 = q at HP hs3 ⊢
    clear hq
    simp only [Kid.ptr] at hcell1
    have hcN := hB1.fam.each c (by rw [HE.out]; simp)
    go_wp2_with fail
    refine (IH w1 [] nodeT c q _ hcN (fun _ => by omega) hcok.2 rfl hs3 hcl).mono ?_
    rintro e w2 ⟨rfl, c', hL, hcl', hn1, hn2⟩
    have hB1' : Brn w1 h rest T b (.slice (some ⟨g, 0, none⟩) ks.length cv) (.int .i64 (((itemsOf ks).length : Int) + 1)) (A ++ [c] ++ B) := by rw [← HE.out]; exact hB1
    obtain ⟨hB2, hs2⟩ := hB1'.call hL
    have hlen2 : (A ++ [c'] ++ B).length = ks.length := by rw [HE.out]; simp
    have hit : itemsOf (A ++ [c'] ++ B) = (itemsOf ks).take p ++ item :: (itemsOf ks).drop p := by
      have e := items_split (A := A) (B := B) (c := c) (item := item) hs3
      rw [← HE.out, HP.out, ← hcl'] at e
      rw [← e]; simp [itemsOf]
    have hil : (itemsOf (A ++ [c'] ++ B)).length = (itemsOf ks).length + 1 := by rw [hit]; simp; omega
    have hok2 : ∀ z ∈ A ++ B, NOk z := fun z hz => hok z (by rw [HE.out]; simp only [List.mem_append, List.mem_cons, List.not_mem_nil, or_false] at hz ⊢; rcases hz with hz | hz <;> simp [hz])
    go_wp2_with fail
    refine (mend_any hB2 hok2 (by omega) (by omega) (by omega) (by omega) (by omega) _ rfl).mono ?_
    rintro e w3 ⟨rfl, v', ks', hM, hok3, hm1, hm2, hm3, hm4⟩
    go_wp2
    go_end0
    have hN3 := hM.brn.node (by rw [hM.items, hil, Int.natCast_add]; rfl) (by omega) hok3
    refine ⟨rfl, _, ⟨hN3, rfl, fun x hx => ?_, ?_⟩, by show itemsOf ks' = _; rw [hM.items]; exact hit, by show ks.length ≤ ks'.length; omega, by show ks'.length ≤ ks.length + 1; omega⟩
    · have sz1 := hk1.size
      have sz2 := hL.kept.size
      rcases List.mem_cons.1 hx with rfl | hx
      · exact .inl (by simp)
      · rcases hM.sub x hx with h1 | h1
        · rcases List.mem_append.1 h1 with h1 | h1
          · exact .inl (by simp [h1])
          · rcases hs2 x h1 with h2 | h2
            · exact .inl (by rw [← HE.out] at h2; exact List.mem_cons_of_mem _ (List.mem_append.2 (.inr h2)))
            · exact .inr (by omega)
        · exact .inr (by omega)
    · have inc : ∀ x ∈ c.fp, x ∈ blocksOf ks := fun x hx => mem_blocksOf.2 ⟨c, by rw [HE.out]; simp, hx⟩
      have sz1 := hk1.size
      refine ((hk1.mono (T := fun x => x ∈ b :: (fpv (.slice (some ⟨g, 0, none⟩) ks.length cv) ++ blocksOf ks)) (fun x hx _ => by rw [hx]; simp)).step' hL.kept (fun x hx _ => by simp [inc x hx])).step' hM.kept (fun x hx hlt => ?_)
      rcases hx with rfl | hx
      · simp
      · rcases List.mem_append.1 hx with h1 | h1
        · simp [h1]
        · rcases hs2 x h1 with h2 | h2
          · rw [← HE.out] at h2; exact List.mem_cons_of_mem _ (List.mem_append.2 (.inr h2))
          · omega

set_option maxHeartbeats 2000000 in
set_option maxRecDepth 100000 in
theorem remove_any : ∀ (h : Nat) (w : World) (rest : List Value) (T : TypeId) (k : Kid) (p : Nat) (pI : Int), NodeR w h rest T k → (h ≠ 0 → 2 ≤ k.n) → k.n ≤ 8 → pI = (p : Int) → p < k.ls.length → k.ls.length ≤ 1000 →
    Calls Tryz.prog 83 #[.pointer (some ⟨k.b, 0, none⟩), .int .i64 pI] w fun e w' => e = .returned (.tuple #[]) ∧ ∃ k', Left1 w w' h rest T k k' ∧ k'.ls = k.ls.take p ++ k.ls.drop (p + 1) ∧ k'.n ≤ k.n ∧ k.n ≤ k'.n + 1
  | 0, w, rest, T, k, p, pI, hN, _, hk8, hpI, hp, hl => (remove_leaf hN p pI hpI hp hl).mono (fun e w' ⟨h1, k', h2, h3, h4⟩ => ⟨h1, k', h2, h3, by omega, by omega⟩)
  | h + 1, w, rest, T, k, p, pI, hN, hk2, hk8, hpI, hp, hl => by
    have IH := remove_any h
    subst hpI
    obtain ⟨v, ks, hB, hkl, hkf, hkn, _, hok⟩ := Brn.of_node hN
    obtain ⟨b, n, ls, fp⟩ := k
    simp only at hB hkl hkf hkn hk2 hk8 hp hl hN
    subst hkl
    subst hkf
    subst hkn
    simp only [Kid.count] at hB
    have hk2 := hk2 (by omega)
    obtain ⟨hap1, hap2, hap3⟩ := hB.apart
    have hk0 := hB.kidsAt
    obtain ⟨A, c, B, hE, hs1, hs2, hs3, hs4⟩ := seek_spec ks 0 p (by intro e; subst e; simp at hk2) (by omega)
    have hs4 := hs4 hp
    obtain ⟨g, cv, hv, hcell⟩ := (hE ▸ hk0 : KidsAt w v (A ++ c :: B)).mid
    rw [← hE] at hv
    subst hv
    have hAl : A.length < ks.length := by rw [hE]; simp
    have HE : Hid (ks = A ++ [c] ++ B) := by show ks = A ++ [c] ++ B; rw [hE]; simp
    have hcok := hok c (by rw [hE]; simp)
    have hcl : c.ls.length ≤ 1000 := by have := itemsOf_mem (ks := ks) (c := c) (by rw [hE]; simp); omega
    have HS : Hid ((seek ks 0 p).1 = A.length) := by show (seek ks 0 p).1 = A.length; omega
    have HP : Hid ((itemsOf A).length + (seek ks 0 p).2 = p) := hs2
    clear hE hs1 hs2
    obtain ⟨hc, hf⟩ := cells_of hB.cells
    have hw : IntKind.i64.wrap (((itemsOf ks).length : Int) - 1) = ((itemsOf ks).length : Int) - 1 := by rw [IntKind.wrap_i64]; omega
    go_enter Tryz.func83, Tryz.ntmps83
    go_wp2_with fail
    have hB1 : Brn (w.setCell ⟨b, 2, none⟩ (.int .i64 (((itemsOf ks).length : Int) - 1))) h rest T b (.slice (some ⟨g, 0, none⟩) ks.length cv) (.int .i64 (((itemsOf ks).length : Int) - 1)) ks := hB.count
    have hk1 : Kept (fun x => x = b) w (w.setCell ⟨b, 2, none⟩ (.int .i64 (((itemsOf ks).length : Int) - 1))) := Kept.cell1
    have hcell1 : (w.setCell ⟨b, 2, none⟩ (.int .i64 (((itemsOf ks).length : Int) - 1))).cell? ⟨g, A.length, none⟩ = some c.ptr := by
      rw [World.cell?_of_block (w := w) (hk1.block g (hB.row.lt g (by simp [fpv_some])) (fun e => hap1 (e ▸ (by simp [fpv_some]))))]; exact hcell
    generalize w.setCell ⟨b, 2, none⟩ (.int .i64 (((itemsOf ks).length : Int) - 1)) = w1 at hB1 hk1 hcell1 ⊢
    clear hc hf
    refine (leaf_calls hB1.cells rfl false (by rw [decide_eq_false]; omega)).mono ?_
    rintro e w1b ⟨rfl, hw1⟩
    rw [hw1]
    clear hw1
    obtain ⟨hc1, hf1⟩ := cells_of hB1.cells
    go_wp2_with fail
    refine (find_any b _ _ _ rest T ks p _ rfl w1 hB1.cells hB1.kidsAt (by omega) (by omega) (fun z hz => by have := itemsOf_mem hz; omega) (by omega)).mono ?_
    rintro e w1b ⟨rfl, hw1⟩
    rw [hw1, HS.out]
    clear hw1 HS
    generalize hq : (seek ks 0 p).2 = q at HP hs3 hs4 ⊢
    clear hq
    simp only [Kid.ptr] at hcell1
    have hcN := hB1.fam.each c (by rw [HE.out]; simp)
    go_wp2_with fail
    refine (IH w1 [] nodeT c q _ hcN (fun _ => by omega) hcok.2 rfl hs4 hcl).mono ?_
    rintro e w2 ⟨rfl, c', hL, hcl', hn1, hn2⟩
    have hB1' : Brn w1 h rest T b (.slice (some ⟨g, 0, none⟩) ks.length cv) (.int .i64 (((itemsOf ks).length : Int) - 1)) (A ++ [c] ++ B) := by rw [← HE.out]; exact hB1
    obtain ⟨hB2, hs2⟩ := hB1'.call hL
    have hlen2 : (A ++ [c'] ++ B).length = ks.length := by rw [HE.out]; simp
    have hit : itemsOf (A ++ [c'] ++ B) = (itemsOf ks).take p ++ (itemsOf ks).drop (p + 1) := by
      have e := items_cut (A := A) (B := B) (c := c) hs4
      rw [← HE.out, HP.out, ← hcl'] at e
      rw [← e]; simp [itemsOf]
    have hil : (itemsOf (A ++ [c'] ++ B)).length + 1 = (itemsOf ks).length := by rw [hit]; simp; omega
    have hok2 : ∀ z ∈ A ++ B, NOk z := fun z hz => hok z (by rw [HE.out]; simp only [List.mem_append, List.mem_cons, List.not_mem_nil, or_false] at hz ⊢; rcases hz with hz | hz <;> simp [hz])
    go_wp2_with fail
    refine (mend_any hB2 hok2 (by omega) (by omega) (by omega) (by omega) (by omega) _ rfl).mono ?_
    rintro e w3 ⟨rfl, v', ks', hM, hok3, hm1, hm2, hm3, hm4⟩
    go_wp2
    go_end0
    have hN3 := hM.brn.node (by rw [hM.items]; congr 1; omega) (by omega) hok3
    refine ⟨rfl, _, ⟨hN3, rfl, fun x hx => ?_, ?_⟩, by show itemsOf ks' = _; rw [hM.items]; exact hit, by show ks'.length ≤ ks.length; omega, by show ks.length ≤ ks'.length + 1; omega⟩
    · have sz1 := hk1.size
      have sz2 := hL.kept.size
      rcases List.mem_cons.1 hx with rfl | hx
      · exact .inl (by simp)
      · rcases hM.sub x hx with h1 | h1
        · rcases List.mem_append.1 h1 with h1 | h1
          · exact .inl (by simp [h1])
          · rcases hs2 x h1 with h2 | h2
            · exact .inl (by rw [← HE.out] at h2; exact List.mem_cons_of_mem _ (List.mem_append.2 (.inr h2)))
            · exact .inr (by omega)
        · exact .inr (by omega)
    · have inc : ∀ x ∈ c.fp, x ∈ blocksOf ks := fun x hx => mem_blocksOf.2 ⟨c, by rw [HE.out]; simp, hx⟩
      have sz1 := hk1.size
      refine ((hk1.mono (T := fun x => x ∈ b :: (fpv (.slice (some ⟨g, 0, none⟩) ks.length cv) ++ blocksOf ks)) (fun x hx _ => by rw [hx]; simp)).step' hL.kept (fun x hx _ => by simp [inc x hx])).step' hM.kept (fun x hx hlt => ?_)
      rcases hx with rfl | hx
      · simp
      · rcases List.mem_append.1 hx with h1 | h1
        · simp [h1]
        · rcases hs2 x h1 with h2 | h2
          · rw [← HE.out] at h2; exact List.mem_cons_of_mem _ (List.mem_append.2 (.inr h2))
          · omega
end Go.Proofs.YtdpfohgkikjeaaaGreat
/- spot: where an item stands. -/
namespace Go.Proofs.YtdpfohgkikjeaaaGreat
open Go.RowKit
set_option linter.unusedVariables false
set_option linter.unusedSimpArgs false

/-- The cell ⟨g, i⟩ holds item p of the node; another item may be written there. -/
structure SpotP (w : World) (h : Nat) (rest : List Value) (T : TypeId) (k : Kid) (p g i : Nat) : Prop where
  cell : ∀ s, k.ls[p]? = some s → w.cell? ⟨g, i, none⟩ = some (sv s)
  warm : w.frozen? ⟨g, i, none⟩ = false
  mem : g ∈ k.fp
  put : ∀ item, NodeR (w.setCell ⟨g, i, none⟩ (sv item)) h rest T ⟨k.b, k.n, k.ls.set p item, k.fp⟩

theorem spot_up {w : World} {h : Nat} {rest : List Value} {T : TypeId} {b : Nat} {v : Value} {A B : List Kid} {c : Kid} {q g i : Nat} (hB : Brn w h rest T b v (.int .i64 ((itemsOf (A ++ [c] ++ B)).length : Int)) (A ++ [c] ++ B)) (hok : ∀ z ∈ A ++ [c] ++ B, NOk z) (hq : q < c.ls.length) (hS : SpotP w h [] nodeT c q g i) :
    SpotP w (h + 1) rest T ⟨b, (A ++ [c] ++ B).length, itemsOf (A ++ [c] ++ B), b :: (fpv v ++ blocksOf (A ++ [c] ++ B))⟩ ((itemsOf A).length + q) g i := by
  have e : itemsOf (A ++ [c] ++ B) = itemsOf A ++ (c.ls ++ itemsOf B) := by simp [itemsOf]
  have hgm : g ∈ blocksOf (A ++ [c] ++ B) := mem_blocksOf.2 ⟨c, by simp, hS.mem⟩
  refine ⟨fun s hs => hS.cell s ?_, hS.warm, List.mem_cons_of_mem _ (List.mem_append.2 (.inr hgm)), fun item => ?_⟩
  · simp only [e] at hs
    rw [List.getElem?_append_right (by omega), show (itemsOf A).length + q - (itemsOf A).length = q by omega, List.getElem?_append_left hq] at hs
    exact hs
  · have hN := hS.put item
    obtain ⟨hB2, _⟩ := hB.turn (S := fun x => x = g) (M' := [⟨c.b, c.n, c.ls.set q item, c.fp⟩]) (Kept.cell1 (o := i) (u := sv item)) (fun x hx _ => by rw [blocksOf_one, hx]; exact hS.mem) (Fam.one hN) (fun x hx => by rw [blocksOf_one] at hx ⊢; exact .inl hx) (by simp [Kid.ptr])
    have e1 : itemsOf (A ++ [(⟨c.b, c.n, c.ls.set q item, c.fp⟩ : Kid)] ++ B) = (itemsOf (A ++ [c] ++ B)).set ((itemsOf A).length + q) item := by
      rw [e, List.set_append_right _ _ (by omega), show (itemsOf A).length + q - (itemsOf A).length = q by omega, List.set_append_left _ _ hq]
      simp [itemsOf]
    have e2 : (A ++ [(⟨c.b, c.n, c.ls.set q item, c.fp⟩ : Kid)] ++ B).length = (A ++ [c] ++ B).length := by simp
    have e3 : blocksOf (A ++ [(⟨c.b, c.n, c.ls.set q item, c.fp⟩ : Kid)] ++ B) = blocksOf (A ++ [c] ++ B) := by simp [blocksOf]
    have := hB2.node (by rw [e1, List.length_set]) (by simp; omega) (fun z hz => by
      simp only [List.mem_append, List.mem_cons, List.not_mem_nil, or_false] at hz
      rcases hz with (hz | rfl) | hz
      · exact hok z (by simp [hz])
      · exact hok c (by simp)
      · exact hok z (by simp [hz]))
    rw [e1, e2, e3] at this
    exact this

theorem spot_leaf {w : World} {rest : List Value} {T : TypeId} {k : Kid} {v : Value} {p : Nat} (hL : LeafR w rest T k v) (hp : p < k.ls.length) : ∃ g c, v = .slice (some ⟨g, 0, none⟩) k.n c ∧ SpotP w 0 rest T k p g p := by
  have hll := hL.len
  rcases hL.row.shape with ⟨rfl, h0, _⟩ | ⟨g, c, rfl, hnc, hcm⟩
  · omega
  obtain ⟨_, cur, hg, hcl, hct, _, _⟩ := hL.row.block
  have hbg : k.b ≠ g := fun e => by have := hL.nodup; rw [hL.fp, fpv_some, List.nodup_cons] at this; exact this.1 (by simp [e])
  refine ⟨g, c, rfl, fun s hs => ?_, (cells_of hg).2 p, by rw [hL.fp, fpv_some]; simp, fun item => ⟨_, ?_, ?_, hL.fp, hL.nodup⟩⟩
  · obtain ⟨_, _, _, hcell⟩ := hL.row.cell
    exact hcell p _ (by rw [List.getElem?_map, hs]; rfl)
  · have := heap_set_other (w := w) (b := g) (o := p) (k := k.b) (v := sv item) (fun e => hbg e.symm)
    rw [this]
    simpa [Kid.count] using hL.cells
  · refine Row.of_block (cur := cur.set p (sv item)) ?_ (by simpa using hcl) ?_ hnc hcm
    · rw [heap_set_same hg]; simp
    · rw [List.take_set, hct]; exact (List.map_set).symm

/-- The root of a tree. -/
structure TreeR (w : World) (b : Nat) (rest : List Value) (T : TypeId) (ls : List Str) (fp : List Nat) : Prop where
  ex : ∃ h n, NodeR w h rest T ⟨b, n, ls, fp⟩ ∧ (h ≠ 0 → 2 ≤ n) ∧ n ≤ 8

set_option maxHeartbeats 2000000 in
set_option maxRecDepth 100000 in
theorem spot_any {w : World} {h : Nat} {rest : List Value} {T : TypeId} {k : Kid} (hN : NodeR w h rest T k) (hk8 : k.n ≤ 8) (p : Nat) (pI : Int) (hpI : pI = (p : Int)) (hp : p < k.ls.length) (hl : k.ls.length ≤ 1000) :
    Calls Tryz.prog 99 #[.pointer (some ⟨k.b, 0, none⟩), .int .i64 pI] w fun e w' => ∃ g i, e = .returned (.pointer (some ⟨g, i, none⟩)) ∧ SpotP w h rest T k p g i ∧ w' = w := by
  subst hpI
  go_enter Tryz.func99, Tryz.ntmps99
  go_wp2
  go_loopg [0, 1] h (fun m s0 s1 wr => wr = w ∧ ∃ rest' T' k' p', s0 = .pointer (some ⟨k'.b, 0, none⟩) ∧ s1 = .int .i64 ((p' : Nat) : Int) ∧ NodeR w m rest' T' k' ∧ k'.n ≤ 8 ∧ p' < k'.ls.length ∧ k'.ls.length ≤ 1000 ∧ ∀ g i, SpotP w m rest' T' k' p' g i → SpotP w h rest T k p g i)
  case atStart => exact ⟨rfl, rest, T, k, p, rfl, rfl, hN, hk8, hp, hl, fun _ _ h => h⟩
  case round =>
    obtain ⟨rfl, rest', T', k', p', rfl, rfl, hN', hk8', hp', hl', hup⟩ := hrel
    cases gk with
    | zero =>
      obtain ⟨v, hL⟩ := hN'
      obtain ⟨g, c, rfl, hS⟩ := spot_leaf hL hp'
      have hll := hL.len
      have hi1 : (p' : Int) < (k'.n : Int) := by omega
      obtain ⟨hc, hf⟩ := cells_of hL.cells
      clear hll
      go_wp2_with (go_at_call 107; refine (leaf_calls hL.cells rfl true rfl).mono ?_; rintro e w1b ⟨rfl, rfl⟩)
      go_ret
      exact ⟨g, p', rfl, hup _ _ hS, rfl⟩
    | succ m =>
      obtain ⟨v, ks, hB, hkl, hkf, hkn, h0, hok⟩ := Brn.of_node hN'
      obtain ⟨b, n, ls, fp⟩ := k'
      simp only at hB hkl hkf hkn hk8' hp' hl' h0
      subst hkl
      subst hkf
      subst hkn
      simp only [Kid.count] at hB
      obtain ⟨A, c, B, hE, hs1, hs2, hs3, hs4⟩ := seek_spec ks 0 p' (by intro e; subst e; simp at h0) (by omega)
      replace hs4 := hs4 hp'
      obtain ⟨g, cv, hv, hcell⟩ := (hE ▸ hB.kidsAt : KidsAt wr v (A ++ c :: B)).mid
      rw [← hE] at hv
      subst hv
      have hAl : A.length < ks.length := by rw [hE]; simp
      have HE : Hid (ks = A ++ [c] ++ B) := by show ks = A ++ [c] ++ B; rw [hE]; simp
      have hcok := hok c (by rw [hE]; simp)
      have hcl : c.ls.length ≤ 1000 := by have := itemsOf_mem (ks := ks) (c := c) (by rw [hE]; simp); omega
      have HS : Hid ((seek ks 0 p').1 = A.length) := by show (seek ks 0 p').1 = A.length; omega
      have HP : Hid ((itemsOf A).length + (seek ks 0 p').2 = p') := hs2
      clear hE hs1 hs2
      obtain ⟨hc, hf⟩ := cells_of hB.cells
      go_wp2_with fail
      refine (leaf_calls hB.cells rfl false (by rw [decide_eq_false]; omega)).mono ?_
      rintro e w1b ⟨rfl, hw1⟩
      rw [hw1]
      clear hw1
      go_wp2_with fail
      refine (find_any b _ _ _ rest' T' ks p' _ rfl wr hB.cells hB.kidsAt (by omega) (by omega) (fun z hz => by have := itemsOf_mem hz; omega) (by omega)).mono ?_
      rintro e w1b ⟨rfl, hw1⟩
      rw [hw1, HS.out]
      clear hw1 HS
      generalize hq : (seek ks 0 p').2 = q at HP hs3 hs4 ⊢
      clear hq
      simp only [Kid.ptr] at hcell
      have hcN := hB.fam.each c (by rw [HE.out]; simp)
      go_wp2
      go_roundg m
      case measure => omega
      case rel =>
        refine ⟨rfl, [], nodeT, c, q, rfl, rfl, hcN, hcok.2, hs4, hcl, fun g' i' hS => hup g' i' ?_⟩
        have hE := HE.out
        have hP := HP.out
        subst hE
        subst hP
        exact spot_up hB hok hs4 hS
end Go.Proofs.YtdpfohgkikjeaaaGreat
/- The tree's own calls: Len, At, Set, Insert, Delete. -/
namespace Go.Proofs.YtdpfohgkikjeaaaGreat
open Go.RowKit
set_option linter.unusedVariables false
set_option linter.unusedSimpArgs false

/-- A node's three cells; and the node where they are laid elsewhere. -/
structure Cells3 (w : World) (h : Nat) (rest : List Value) (T : TypeId) (k : Kid) (vi vk : Value) : Prop where
  cells : w.heap[k.b]? = some (.cells (vi :: vk :: k.count :: rest).toArray T (0, 0))
  items : ∃ p m c, vi = .slice p m c
  kids : ∃ p m c, vk = .slice p m c ∧ (h = 0 → m = 0) ∧ (h ≠ 0 → m = k.n)
  fp : ∃ tl, k.fp = k.b :: tl
  move : ∀ (w' : World) (S : Blocks) (L : Nat) (rest' : List Value) (T' : TypeId), Kept S w w' → (∀ x ∈ k.fp.tail, ¬ S x) → w'.heap[L]? = some (.cells (vi :: vk :: k.count :: rest').toArray T' (0, 0)) → L ∉ k.fp.tail → NodeR w' h rest' T' ⟨L, k.n, k.ls, L :: k.fp.tail⟩

theorem NodeR.three {w : World} {h : Nat} {rest : List Value} {T : TypeId} {k : Kid} (hN : NodeR w h rest T k) : ∃ vi vk, Cells3 w h rest T k vi vk := by
  cases h with
  | zero =>
    obtain ⟨v, hL⟩ := hN
    obtain ⟨p, c, hv⟩ := hL.row.slice
    refine ⟨v, nilS, hL.cells, ⟨p, _, c, hv⟩, ⟨none, 0, 0, rfl, fun _ => rfl, fun h => absurd rfl h⟩, ⟨_, hL.fp⟩, fun w' S L rest' T' hk hS hb hL' => ?_⟩
    have ht : k.fp.tail = fpv v := by rw [hL.fp]; rfl
    refine ⟨v, hb, hL.row.kept hk (fun x hx => hS x (by rw [ht]; exact hx)), by show L :: k.fp.tail = _; rw [ht], ?_⟩
    show (L :: k.fp.tail).Nodup
    rw [ht] at hL' ⊢
    exact List.nodup_cons.2 ⟨hL', fpv_nodup _⟩
  | succ h =>
    obtain ⟨h0, v, ks, hB, hc⟩ := hN
    obtain ⟨p, c, hv⟩ := hB.row.slice
    refine ⟨nilS, v, hB.cells, ⟨none, 0, 0, rfl⟩, ⟨p, _, c, hv, fun h => absurd h (by omega), fun _ => rfl⟩, ⟨_, hB.fp⟩, fun w' S L rest' T' hk hS hb hL' => ?_⟩
    have ht : k.fp.tail = fpv v ++ blocksOf ks := by rw [hB.fp]; rfl
    have hnd := hB.nodup
    rw [hB.fp, List.nodup_cons] at hnd
    refine ⟨h0, v, ks, ⟨hb, hB.row.kept hk (fun x hx => hS x (by rw [ht]; simp [hx])), hB.ls, by show L :: k.fp.tail = _; rw [ht], ?_⟩, fun c' hm => ⟨NodeR.kept hk h (hc c' hm).1 (fun x hx => hS x (by rw [ht]; exact List.mem_append.2 (.inr (mem_blocksOf.2 ⟨c', hm, hx⟩)))), (hc c' hm).2⟩⟩
    show (L :: k.fp.tail).Nodup
    rw [ht] at hL' ⊢
    exact List.nodup_cons.2 ⟨hL', hnd.2⟩

theorem TreeR.count {w b rest T ls fp} (h : TreeR w b rest T ls fp) : ∃ vi vk, w.heap[b]? = some (.cells (vi :: vk :: .int .i64 (ls.length : Int) :: rest).toArray T (0, 0)) := by
  obtain ⟨_, _, hN, _⟩ := h.ex
  obtain ⟨vi, vk, h3⟩ := hN.three
  exact ⟨vi, vk, h3.cells⟩

theorem TreeR.lt {w b rest T ls fp} (h : TreeR w b rest T ls fp) : ∀ x ∈ fp, x < w.heap.size := by
  obtain ⟨hh, _, hN, _⟩ := h.ex
  exact hN.lt

theorem TreeR.mem {w b rest T ls fp} (h : TreeR w b rest T ls fp) : b ∈ fp := by
  obtain ⟨hh, _, hN, _⟩ := h.ex
  exact hN.mem

theorem TreeR.kept {S : Blocks} {w w' b rest T ls fp} (h : TreeR w b rest T ls fp) (hk : Kept S w w') (hn : ∀ x ∈ fp, ¬ S x) : TreeR w' b rest T ls fp := by
  obtain ⟨hh, n, hN, h1⟩ := h.ex
  exact ⟨hh, n, NodeR.kept hk hh hN hn, h1⟩

theorem len_any {w : World} {b : Nat} {vi vk : Value} {n : Int} {rest : List Value} {T : TypeId} (hb : w.heap[b]? = some (.cells (vi :: vk :: .int .i64 n :: rest).toArray T (0, 0))) :
    Calls Tryz.prog 46 #[.pointer (some ⟨b, 0, none⟩)] w fun e w' => e = .returned (.int .i64 n) ∧ w' = w := by
  obtain ⟨hc, _⟩ := cells_of hb
  go_enter Tryz.func46, Tryz.ntmps46
  go_wp2
  go_ret
  exact ⟨rfl, rfl⟩

theorem at_no {w : World} {b : Nat} {ls : List Str} {rest : List Value} {T : TypeId} {fp : List Nat} (hT : TreeR w b rest T ls fp) (p : Int) (hp : p < 0 ∨ (ls.length : Int) ≤ p) :
    Calls Tryz.prog 126 #[.pointer (some ⟨b, 0, none⟩), .int .i64 p] w fun e w' => e = .returned (.tuple #[.string ⟨#[]⟩, .bool false]) ∧ w' = w := by
  obtain ⟨vi, vk, hb⟩ := hT.count
  by_cases h0 : p < 0
  · go_enter Tryz.func126, Tryz.ntmps126
    go_wp2
    go_ret2
    exact ⟨rfl, rfl⟩
  · have h1 : (ls.length : Int) ≤ p := by omega
    have h2 : decide (p < 0) = false := by simpa using h0
    go_enter Tryz.func126, Tryz.ntmps126
    go_wp2_with (go_at_call 46; refine (len_any hb).mono ?_; rintro e w1 ⟨rfl, rfl⟩)
    go_ret2
    exact ⟨rfl, rfl⟩

theorem at_yes {w : World} {b : Nat} {ls : List Str} {rest : List Value} {T : TypeId} {fp : List Nat} (hT : TreeR w b rest T ls fp) (p : Nat) (hp : p < ls.length) (hl : ls.length ≤ 1000) :
    Calls Tryz.prog 126 #[.pointer (some ⟨b, 0, none⟩), .int .i64 (p : Int)] w fun e w' => e = .returned (.tuple #[sv ls[p], .bool true]) ∧ w' = w := by
  obtain ⟨vi, vk, hb⟩ := hT.count
  obtain ⟨h, n, hN, h2, h8⟩ := hT.ex
  have h2 : decide ((p : Int) < 0) = false := by simp
  have h3 : ¬ ((ls.length : Int) ≤ (p : Int)) := by omega
  have hs := spot_any hN h8 p _ rfl hp hl
  go_enter Tryz.func126, Tryz.ntmps126
  go_wp2_with (first | (go_at_call 46; refine (len_any hb).mono ?_; rintro e w1 ⟨rfl, rfl⟩) | (go_at_call 99; refine hs.mono ?_; rintro e w1 ⟨g, i, rfl, hS, rfl⟩; have hcell := hS.cell _ (List.getElem?_eq_getElem hp)))
  go_ret2
  exact ⟨rfl, rfl⟩
end Go.Proofs.YtdpfohgkikjeaaaGreat
/- The tree's own calls, on: Set, Delete. -/
namespace Go.Proofs.YtdpfohgkikjeaaaGreat
open Go.RowKit
set_option linter.unusedVariables false
set_option linter.unusedSimpArgs false

/-- What a call leaves of a tree. -/
structure TreeTo (w w' : World) (b : Nat) (rest : List Value) (T : TypeId) (fp : List Nat) (ls' : List Str) (fp' : List Nat) : Prop where
  tree : TreeR w' b rest T ls' fp'
  sub : ∀ x ∈ fp', x ∈ fp ∨ w.heap.size ≤ x
  kept : Kept (fun x => x ∈ fp) w w'

theorem tset_any {w : World} {b : Nat} {ls : List Str} {rest : List Value} {T : TypeId} {fp : List Nat} (hT : TreeR w b rest T ls fp) (p : Nat) (pI : Int) (hpI : pI = (p : Int)) (hp : p < ls.length) (hl : ls.length ≤ 1000) (item : Str) :
    Calls Tryz.prog 75 #[.pointer (some ⟨b, 0, none⟩), .int .i64 pI, sv item] w fun e w' => e = .returned (.bool true) ∧ ∃ fp', TreeTo w w' b rest T fp (ls.set p item) fp' := by
  subst hpI
  obtain ⟨vi, vk, hb⟩ := hT.count
  obtain ⟨h, n, hN, h2n, h8⟩ := hT.ex
  have h2 : decide ((p : Int) < 0) = false := by simp
  have h3 : ¬ ((ls.length : Int) ≤ (p : Int)) := by omega
  have hs := spot_any hN h8 p _ rfl hp hl
  go_enter Tryz.func75, Tryz.ntmps75
  go_wp2_with (first | (go_at_call 46; refine (len_any hb).mono ?_; rintro e w1 ⟨rfl, rfl⟩) | (go_at_call 99; refine hs.mono ?_; rintro e w1 ⟨g, i, rfl, hS, rfl⟩; have hcell := hS.cell _ (List.getElem?_eq_getElem hp); have hwarm := hS.warm))
  go_ret
  exact ⟨rfl, fp, ⟨h, n, hS.put item, h2n, h8⟩, fun x hx => .inl hx, Kept.setCell (S := fun x => x ∈ fp) (Kept.refl _ _) (p := ⟨g, i, none⟩) (fun _ => hS.mem) _⟩

theorem tdelete_no {w : World} {b : Nat} {ls : List Str} {rest : List Value} {T : TypeId} {fp : List Nat} (hT : TreeR w b rest T ls fp) (p : Int) (hp : p < 0 ∨ (ls.length : Int) ≤ p) :
    Calls Tryz.prog 53 #[.pointer (some ⟨b, 0, none⟩), .int .i64 p] w fun e w' => e = .returned (.bool false) ∧ w' = w := by
  obtain ⟨vi, vk, hb⟩ := hT.count
  by_cases h0 : p < 0
  · go_enter Tryz.func53, Tryz.ntmps53
    go_wp2
    go_ret
    exact ⟨rfl, rfl⟩
  · have h1 : (ls.length : Int) ≤ p := by omega
    have h2 : decide (p < 0) = false := by simpa using h0
    go_enter Tryz.func53, Tryz.ntmps53
    go_wp2_with (go_at_call 46; refine (len_any hb).mono ?_; rintro e w1 ⟨rfl, rfl⟩)
    go_ret
    exact ⟨rfl, rfl⟩

set_option maxHeartbeats 1000000 in
theorem tdelete_yes {w : World} {b : Nat} {ls : List Str} {rest : List Value} {T : TypeId} {fp : List Nat} (hT : TreeR w b rest T ls fp) (p : Nat) (pI : Int) (hpI : pI = (p : Int)) (hp : p < ls.length) (hl : ls.length ≤ 1000) :
    Calls Tryz.prog 53 #[.pointer (some ⟨b, 0, none⟩), .int .i64 pI] w fun e w' => e = .returned (.bool true) ∧ ∃ fp', TreeTo w w' b rest T fp (ls.take p ++ ls.drop (p + 1)) fp' := by
  subst hpI
  obtain ⟨vi, vk, hb⟩ := hT.count
  obtain ⟨h, n, hN, h2n, h8⟩ := hT.ex
  have h2 : decide ((p : Int) < 0) = false := by simp
  have h3 : ¬ ((ls.length : Int) ≤ (p : Int)) := by omega
  have hs := remove_any h w rest T ⟨b, n, ls, fp⟩ p _ hN h2n h8 rfl hp hl
  go_enter Tryz.func53, Tryz.ntmps53
  go_upto_if 12 with (go_at_call 46; refine (len_any hb).mono ?_; rintro e w1 ⟨rfl, rfl⟩)
  go_wp2_with fail
  refine hs.mono ?_
  rintro e w1 ⟨rfl, ⟨b', n', ls', fp'⟩, hL, hls, hn1, hn2⟩
  obtain ⟨hN1, hb1, hsub, hk1⟩ := hL
  simp only at hls hn1 hn2 hb1 hN1 hsub hk1
  subst hls
  subst hb1
  by_cases hone : h ≠ 0 ∧ n' = 1
  · obtain ⟨hh, rfl⟩ := hone
    obtain ⟨m, rfl⟩ : ∃ m, h = m + 1 := ⟨h - 1, by omega⟩
    obtain ⟨v, ks, hB, hkl, hkf, hkn, h0, hok⟩ := Brn.of_node hN1
    simp only at hB hkl hkf hkn
    obtain ⟨c, rfl⟩ : ∃ c, ks = [c] := by
      match ks, hkn with
      | [c], _ => exact ⟨c, rfl⟩
    obtain ⟨g, cv, rfl, hcell⟩ := (by simpa using hB.kidsAt : KidsAt w1 v ([] ++ c :: [])).mid
    have hcN := hB.fam.each c (by simp)
    obtain ⟨ci, ck, h3c⟩ := hcN.three
    obtain ⟨ip, im, ic, rfl⟩ := h3c.items
    obtain ⟨kp, km, kc, rfl, hk0, hkN⟩ := h3c.kids
    have hmove := h3c.move
    obtain ⟨tl, htl⟩ := h3c.fp
    have hcells := hB.cells
    obtain ⟨hc1, hf1⟩ := cells_of hcells
    obtain ⟨hc2, hf2⟩ := cells_of h3c.cells
    have HT : Hid (c.fp = c.b :: tl) := htl
    clear htl hk0 hkN
    simp only [Kid.ptr, List.length_nil] at hcell
    simp only [Kid.count] at hc2 hmove
    go_wp2
    go_ret
    obtain ⟨hap1, hap2, hap3⟩ := hB.apart
    have hb4 : (((w1.setCell ⟨b', 0, none⟩ (.slice ip im ic)).setCell ⟨b', 1, none⟩ (.slice kp km kc)).setCell ⟨b', 2, none⟩ (.int .i64 (c.ls.length : Int))).heap[b']? = some (.cells (.slice ip im ic :: .slice kp km kc :: .int .i64 (c.ls.length : Int) :: rest).toArray T (0, 0)) := by
      have e1 := heap_set_same (o := 0) (v := .slice ip im ic) hcells
      have e2 := heap_set_same (o := 1) (v := .slice kp km kc) e1
      have e3 := heap_set_same (o := 2) (v := .int .i64 (c.ls.length : Int)) e2
      rw [e3]; simp
    have hk4 : Kept (fun x => x = b') w1 (((w1.setCell ⟨b', 0, none⟩ (.slice ip im ic)).setCell ⟨b', 1, none⟩ (.slice kp km kc)).setCell ⟨b', 2, none⟩ (.int .i64 (c.ls.length : Int))) := (Kept.cell1.step Kept.cell1).step Kept.cell1
    have hbt : b' ∉ c.fp.tail := fun hh => hap2 (by rw [blocksOf_one]; exact List.mem_of_mem_tail hh)
    have hN4 := hmove _ _ b' rest T hk4 (fun x hx e => hbt (e ▸ hx)) hb4 hbt
    have hci : c.ls = ls.take p ++ ls.drop (p + 1) := by rw [hkl, itemsOf_one]
    refine ⟨rfl, b' :: c.fp.tail, ⟨m, c.n, hci ▸ hN4, fun _ => by have := hok c (by simp); omega, (hok c (by simp)).2⟩, fun x hx => hsub x ?_, (hk1.step' hk4 (fun x hx _ => by rw [hx]; exact hN.mem))⟩
    rw [hkf]
    rcases List.mem_cons.1 hx with rfl | hx
    · simp
    · have := List.mem_of_mem_tail hx
      simp only [List.mem_cons, List.mem_append, blocksOf_one]
      exact .inr (.inr this)
  · obtain ⟨ui, uk, h3c⟩ := hN1.three
    obtain ⟨ip, im, ic, rfl⟩ := h3c.items
    obtain ⟨kp, km, kc, rfl, hk0, hkN⟩ := h3c.kids
    obtain ⟨hc1, hf1⟩ := cells_of h3c.cells
    have hkm : ¬ ((km : Int) = 1) := by
      by_cases hh : h = 0
      · have := hk0 hh; omega
      · have := hkN hh; simp only at this; omega
    clear hk0 hkN
    simp only at hc1
    go_wp2
    go_ret
    refine ⟨rfl, fp', ⟨h, n', hN1, fun hh => ?_, by omega⟩, hsub, hk1⟩
    have := h2n hh
    omega
end Go.Proofs.YtdpfohgkikjeaaaGreat

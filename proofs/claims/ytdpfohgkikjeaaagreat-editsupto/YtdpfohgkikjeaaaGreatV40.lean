/- Part 40 of the proof: see its parts. -/
import Derived.Test.YtdpfohgkikjeaaaGreatV39
/- The statements' own: one step: the edits, Line. -/
namespace Go.Proofs.YtdpfohgkikjeaaaGreat
open Go.RowKit
set_option linter.unusedVariables false
set_option linter.unusedSimpArgs false

set_option maxRecDepth 100000 in
set_option maxHeartbeats 16000000 in
theorem plays_insert {w : World} {b : Nat} {l : TwL} {M : Nat} {fp : List Nat} {N L B : Nat} (h : WorldR w b l M fp) (all : AllOk l N L) (hM : M ≤ 900000000000) (hN : N ≤ 900000000000) (hL : L ≤ 1000000000000) (hll : l.length ≤ 1000000000) (on a : Int) (hon : RawOk on) (ha : RawOk a) (s : Str) (hs : s.length ≤ L) (r : Value) (raw : List Int) (hraw : IntsAt w B r raw) (hB : ∀ x ∈ fp, B ≤ x) :
    Calls Tryz.prog 33 #[ptrV b, .agg (opCells 2 on a s r)] w fun e w' => e = .returned (.bool true) ∧ PlayTo w w' b fp l (M + 1) (N + 501) L := by
  have h0 := h
  obtain ⟨ss, va, vs, lab, hW, hm, hfe⟩ := h
  obtain ⟨pA, cA, rfl⟩ := hW.all.slice
  have hcA : ∀ j t, l[j]? = some t → ∃ g, pA = some ⟨g, 0, none⟩ ∧ l.length ≤ cA ∧ cA ≤ 9223372036854775807 ∧ w.cell? ⟨g, j, none⟩ = some (ptrV t.1) := fun j t hj => by
    have hjl := (List.getElem?_eq_some_iff.1 hj).1
    rcases hW.all.shape with ⟨_, e0, _⟩ | ⟨g, c', hv', hc', hc2⟩
    · omega
    · simp only [Value.slice.injEq] at hv'
      obtain ⟨rfl, _, rfl⟩ := hv'
      unfold maxLen at hc2
      exact ⟨g, rfl, hc', by omega, hW.all.cell.2.2.2 j _ (by rw [List.getElem?_map, hj]; rfl)⟩
  have hc0 := (cells_of hW.cells).1 0
  have hbl := lt_of_heap hW.cells
  have hc0 : w.cell? ⟨b, 0, none⟩ = some (.slice pA l.length cA) := hc0
  clear hW hfe
  obtain ⟨hn1, hsz1, hk1⟩ := new1 w (Obj.cells (opCells 2 on a s r) opT)
  by_cases hl0 : l.length = 0
  · have hl0i : (l.length : Int) = 0 := by omega
    have hc0' := hk1.read hc0 (fun h => h)
    obtain ⟨hcB, hfB⟩ := cells_of hn1
    clear hl0
    go_enter Tryz.func33, Tryz.ntmps33
    go_upto_region 1 with fail
    generalize w.heap.size = B3 at hn1 hcB hfB ⊢
    generalize w.alloc (Obj.cells (opCells 2 on a s r) opT) = w1 at *
    go_wp2
    go_ret
    exact ⟨rfl, .same h0 hk1 all (by omega)⟩
  have hl0i : ¬ (l.length : Int) = 0 := by omega
  have hpick := fun w => pick_law on l.length _ rfl hon (by omega) (by omega) w
  have hi := pickN_lt on (n := l.length) (by omega)
  generalize pickN on l.length = i at hpick hi
  obtain ⟨⟨bt, T, ft⟩, ht⟩ : ∃ t, l[i]? = some t := ⟨l[i], by simp [hi]⟩
  obtain ⟨g, rfl, hcA1, hcA2, hcg⟩ := hcA i _ ht
  have hcg : w.cell? ⟨g, i, none⟩ = some (ptrV bt) := hcg
  have okT : T.Ok N L := all i _ ht
  clear hcA hl0
  go_enter Tryz.func33, Tryz.ntmps33
  go_upto_region 1 with fail
  have h1 := h0.kept hk1 (fun _ _ h => h)
  have hraw1 := hraw.kept hk1 (fun _ h => h.elim)
  have hc01 := hk1.read hc0 (fun h => h)
  have hcg1 := hk1.read hcg (fun h => h)
  have hfrB : ∀ x ∈ fp, x ≠ w.heap.size := fun x hx e => by have := h0.lt x hx; omega
  have hB3B : B ≤ w.heap.size := hraw.low
  generalize w.heap.size = B3 at hn1 hfrB hB3B ⊢
  generalize w.alloc (Obj.cells (opCells 2 on a s r) opT) = w1 at *
  clear hc0 hcg hsz1 hraw
  obtain ⟨hcB, hfB⟩ := cells_of hn1
  go_upto_region 8 with fail
  have hrd : ∀ W, Kept no w1 W → W.cell? ⟨b, 0, none⟩ = some (.slice (some ⟨g, 0, none⟩) l.length cA) ∧ (∀ j, W.cell? ⟨B3, j, none⟩ = (opCells 2 on a s r)[j]?) ∧ W.cell? ⟨g, i, none⟩ = some (ptrV bt) := fun W hW => ⟨hW.read hc01 (fun h => h), (cells_of (hW.get hn1 (fun h => h))).1, hW.read hcg1 (fun h => h)⟩
  clear hcB hfB
  refine wp_region3 (fun W => Kept no w1 W) [(0, true), (1, true), (2, true), (3, false), (4, true), (5, false), (6, true), (7, true), (8, true), (9, false), (10, true)] [11, 12, 13, 14] (by kernel_rfl) (by kernel_rfl) (fun _ _ d _ _ h => by cases d <;> exact h) ((Kept.refl _ _).drew) ?_
  repeat ((first | refine wpPre3_pure rfl rfl (fun W => (by go_simp; rfl)) ?_ | refine wpPre3_read rfl rfl (fun W hW => (by obtain ⟨h1, h2, h3⟩ := hrd W hW; go_simp; rfl)) ?_); simp only [Act.put, List.setIfInBounds_toArray, List.set])
  refine wpPre3_nil ?_
  have hkd : Kept no w1 w1.drew := (Kept.refl _ _).drew
  have hk2 := hk1.step hkd
  have h2 := h1.kept hkd (fun _ _ h => h)
  have hn2 := hkd.get hn1 (fun h => h)
  have hraw2 := hraw1.kept hkd (fun _ h => h.elim)
  have hcg2 := hkd.read hcg1 (fun h => h)
  clear h1 hn1 hraw1 hc01 hcg1 hrd hk1 hkd
  generalize w1.drew = w2 at *
  refine wpTail3_cons rfl rfl (fun K hK => ?_)
  go_wp2_with fail
  refine (hpick _).mono ?_
  rintro e w3 ⟨rfl, hw⟩
  rw [hw]
  clear hw hpick
  refine hK _ _ ⟨fun h => h, ?_⟩
  clear hK
  refine wpTail3_cons rfl rfl (fun K hK => ?_)
  go_wp2_with fail
  refine ⟨fun h => h, ?_⟩
  refine wpTail3_cons rfl rfl (fun K hK => ?_)
  go_wp2_with fail
  refine ⟨fun h => h, ?_⟩
  refine wpTail3_cons rfl rfl (fun K hK => ?_)
  go_wp2_with fail
  refine ⟨fun h => h, ?_⟩
  refine wpTail3_nil ?_
  clear hcg2
  obtain ⟨hT2, hft2⟩ := h2.get ht
  have hT2 : TwinR w2 bt T ft := hT2
  have hplay : ∀ (w9 : World) (T' : TwinS) (N' : Nat), N' ≤ N + 501 → TwinTo w2 w9 bt ft T' → T'.Ok N' L → PlayTo w w9 b fp l (M + 1) (N + 501) L := fun w9 T' N' hle hT hok => .twin hk2 h2 all (by omega) ht hT (hok.mono hle)
  have hstay : ∀ w9, Kept no w2 w9 → PlayTo w w9 b fp l (M + 1) (N + 501) L := fun w9 hk => .same h0 (hk2.step hk) all (by omega)
  obtain ⟨hcB, hfB⟩ := cells_of hn2
  have hE := edits_insert hT2 okT (by omega) hL on a ha s hs r
  have okE := okT.insert a s
  go_wp2_with fail
  refine hE.mono ?_
  rintro e w3 ⟨rfl, hT3⟩
  go_wp2
  go_ret
  exact ⟨rfl, hplay _ _ (N + 1) (by omega) hT3 okE⟩

set_option maxRecDepth 100000 in
set_option maxHeartbeats 16000000 in
theorem plays_delete {w : World} {b : Nat} {l : TwL} {M : Nat} {fp : List Nat} {N L B : Nat} (h : WorldR w b l M fp) (all : AllOk l N L) (hM : M ≤ 900000000000) (hN : N ≤ 900000000000) (hL : L ≤ 1000000000000) (hll : l.length ≤ 1000000000) (on a : Int) (hon : RawOk on) (ha : RawOk a) (s : Str) (hs : s.length ≤ L) (r : Value) (raw : List Int) (hraw : IntsAt w B r raw) (hB : ∀ x ∈ fp, B ≤ x) :
    Calls Tryz.prog 33 #[ptrV b, .agg (opCells 3 on a s r)] w fun e w' => e = .returned (.bool true) ∧ PlayTo w w' b fp l (M + 1) (N + 501) L := by
  have h0 := h
  obtain ⟨ss, va, vs, lab, hW, hm, hfe⟩ := h
  obtain ⟨pA, cA, rfl⟩ := hW.all.slice
  have hcA : ∀ j t, l[j]? = some t → ∃ g, pA = some ⟨g, 0, none⟩ ∧ l.length ≤ cA ∧ cA ≤ 9223372036854775807 ∧ w.cell? ⟨g, j, none⟩ = some (ptrV t.1) := fun j t hj => by
    have hjl := (List.getElem?_eq_some_iff.1 hj).1
    rcases hW.all.shape with ⟨_, e0, _⟩ | ⟨g, c', hv', hc', hc2⟩
    · omega
    · simp only [Value.slice.injEq] at hv'
      obtain ⟨rfl, _, rfl⟩ := hv'
      unfold maxLen at hc2
      exact ⟨g, rfl, hc', by omega, hW.all.cell.2.2.2 j _ (by rw [List.getElem?_map, hj]; rfl)⟩
  have hc0 := (cells_of hW.cells).1 0
  have hbl := lt_of_heap hW.cells
  have hc0 : w.cell? ⟨b, 0, none⟩ = some (.slice pA l.length cA) := hc0
  clear hW hfe
  obtain ⟨hn1, hsz1, hk1⟩ := new1 w (Obj.cells (opCells 3 on a s r) opT)
  by_cases hl0 : l.length = 0
  · have hl0i : (l.length : Int) = 0 := by omega
    have hc0' := hk1.read hc0 (fun h => h)
    obtain ⟨hcB, hfB⟩ := cells_of hn1
    clear hl0
    go_enter Tryz.func33, Tryz.ntmps33
    go_upto_region 1 with fail
    generalize w.heap.size = B3 at hn1 hcB hfB ⊢
    generalize w.alloc (Obj.cells (opCells 3 on a s r) opT) = w1 at *
    go_wp2
    go_ret
    exact ⟨rfl, .same h0 hk1 all (by omega)⟩
  have hl0i : ¬ (l.length : Int) = 0 := by omega
  have hpick := fun w => pick_law on l.length _ rfl hon (by omega) (by omega) w
  have hi := pickN_lt on (n := l.length) (by omega)
  generalize pickN on l.length = i at hpick hi
  obtain ⟨⟨bt, T, ft⟩, ht⟩ : ∃ t, l[i]? = some t := ⟨l[i], by simp [hi]⟩
  obtain ⟨g, rfl, hcA1, hcA2, hcg⟩ := hcA i _ ht
  have hcg : w.cell? ⟨g, i, none⟩ = some (ptrV bt) := hcg
  have okT : T.Ok N L := all i _ ht
  clear hcA hl0
  go_enter Tryz.func33, Tryz.ntmps33
  go_upto_region 1 with fail
  have h1 := h0.kept hk1 (fun _ _ h => h)
  have hraw1 := hraw.kept hk1 (fun _ h => h.elim)
  have hc01 := hk1.read hc0 (fun h => h)
  have hcg1 := hk1.read hcg (fun h => h)
  have hfrB : ∀ x ∈ fp, x ≠ w.heap.size := fun x hx e => by have := h0.lt x hx; omega
  have hB3B : B ≤ w.heap.size := hraw.low
  generalize w.heap.size = B3 at hn1 hfrB hB3B ⊢
  generalize w.alloc (Obj.cells (opCells 3 on a s r) opT) = w1 at *
  clear hc0 hcg hsz1 hraw
  obtain ⟨hcB, hfB⟩ := cells_of hn1
  go_upto_region 8 with fail
  have hrd : ∀ W, Kept no w1 W → W.cell? ⟨b, 0, none⟩ = some (.slice (some ⟨g, 0, none⟩) l.length cA) ∧ (∀ j, W.cell? ⟨B3, j, none⟩ = (opCells 3 on a s r)[j]?) ∧ W.cell? ⟨g, i, none⟩ = some (ptrV bt) := fun W hW => ⟨hW.read hc01 (fun h => h), (cells_of (hW.get hn1 (fun h => h))).1, hW.read hcg1 (fun h => h)⟩
  clear hcB hfB
  refine wp_region3 (fun W => Kept no w1 W) [(0, true), (1, true), (2, true), (3, false), (4, true), (5, false), (6, true), (7, true), (8, true), (9, false), (10, true)] [11, 12, 13, 14] (by kernel_rfl) (by kernel_rfl) (fun _ _ d _ _ h => by cases d <;> exact h) ((Kept.refl _ _).drew) ?_
  repeat ((first | refine wpPre3_pure rfl rfl (fun W => (by go_simp; rfl)) ?_ | refine wpPre3_read rfl rfl (fun W hW => (by obtain ⟨h1, h2, h3⟩ := hrd W hW; go_simp; rfl)) ?_); simp only [Act.put, List.setIfInBounds_toArray, List.set])
  refine wpPre3_nil ?_
  have hkd : Kept no w1 w1.drew := (Kept.refl _ _).drew
  have hk2 := hk1.step hkd
  have h2 := h1.kept hkd (fun _ _ h => h)
  have hn2 := hkd.get hn1 (fun h => h)
  have hraw2 := hraw1.kept hkd (fun _ h => h.elim)
  have hcg2 := hkd.read hcg1 (fun h => h)
  clear h1 hn1 hraw1 hc01 hcg1 hrd hk1 hkd
  generalize w1.drew = w2 at *
  refine wpTail3_cons rfl rfl (fun K hK => ?_)
  go_wp2_with fail
  refine (hpick _).mono ?_
  rintro e w3 ⟨rfl, hw⟩
  rw [hw]
  clear hw hpick
  refine hK _ _ ⟨fun h => h, ?_⟩
  clear hK
  refine wpTail3_cons rfl rfl (fun K hK => ?_)
  go_wp2_with fail
  refine ⟨fun h => h, ?_⟩
  refine wpTail3_cons rfl rfl (fun K hK => ?_)
  go_wp2_with fail
  refine ⟨fun h => h, ?_⟩
  refine wpTail3_cons rfl rfl (fun K hK => ?_)
  go_wp2_with fail
  refine ⟨fun h => h, ?_⟩
  refine wpTail3_nil ?_
  clear hcg2
  obtain ⟨hT2, hft2⟩ := h2.get ht
  have hT2 : TwinR w2 bt T ft := hT2
  have hplay : ∀ (w9 : World) (T' : TwinS) (N' : Nat), N' ≤ N + 501 → TwinTo w2 w9 bt ft T' → T'.Ok N' L → PlayTo w w9 b fp l (M + 1) (N + 501) L := fun w9 T' N' hle hT hok => .twin hk2 h2 all (by omega) ht hT (hok.mono hle)
  have hstay : ∀ w9, Kept no w2 w9 → PlayTo w w9 b fp l (M + 1) (N + 501) L := fun w9 hk => .same h0 (hk2.step hk) all (by omega)
  obtain ⟨hcB, hfB⟩ := cells_of hn2
  have hE := edits_delete hT2 okT (by omega) hL on a ha s hs r
  have okE := okT.delete a
  go_wp2_with fail
  refine hE.mono ?_
  rintro e w3 ⟨rfl, hT3⟩
  go_wp2
  go_ret
  exact ⟨rfl, hplay _ _ (N + 1) (by omega) hT3 okE⟩

set_option maxRecDepth 100000 in
set_option maxHeartbeats 16000000 in
theorem plays_replace {w : World} {b : Nat} {l : TwL} {M : Nat} {fp : List Nat} {N L B : Nat} (h : WorldR w b l M fp) (all : AllOk l N L) (hM : M ≤ 900000000000) (hN : N ≤ 900000000000) (hL : L ≤ 1000000000000) (hll : l.length ≤ 1000000000) (on a : Int) (hon : RawOk on) (ha : RawOk a) (s : Str) (hs : s.length ≤ L) (r : Value) (raw : List Int) (hraw : IntsAt w B r raw) (hB : ∀ x ∈ fp, B ≤ x) :
    Calls Tryz.prog 33 #[ptrV b, .agg (opCells 4 on a s r)] w fun e w' => e = .returned (.bool true) ∧ PlayTo w w' b fp l (M + 1) (N + 501) L := by
  have h0 := h
  obtain ⟨ss, va, vs, lab, hW, hm, hfe⟩ := h
  obtain ⟨pA, cA, rfl⟩ := hW.all.slice
  have hcA : ∀ j t, l[j]? = some t → ∃ g, pA = some ⟨g, 0, none⟩ ∧ l.length ≤ cA ∧ cA ≤ 9223372036854775807 ∧ w.cell? ⟨g, j, none⟩ = some (ptrV t.1) := fun j t hj => by
    have hjl := (List.getElem?_eq_some_iff.1 hj).1
    rcases hW.all.shape with ⟨_, e0, _⟩ | ⟨g, c', hv', hc', hc2⟩
    · omega
    · simp only [Value.slice.injEq] at hv'
      obtain ⟨rfl, _, rfl⟩ := hv'
      unfold maxLen at hc2
      exact ⟨g, rfl, hc', by omega, hW.all.cell.2.2.2 j _ (by rw [List.getElem?_map, hj]; rfl)⟩
  have hc0 := (cells_of hW.cells).1 0
  have hbl := lt_of_heap hW.cells
  have hc0 : w.cell? ⟨b, 0, none⟩ = some (.slice pA l.length cA) := hc0
  clear hW hfe
  obtain ⟨hn1, hsz1, hk1⟩ := new1 w (Obj.cells (opCells 4 on a s r) opT)
  by_cases hl0 : l.length = 0
  · have hl0i : (l.length : Int) = 0 := by omega
    have hc0' := hk1.read hc0 (fun h => h)
    obtain ⟨hcB, hfB⟩ := cells_of hn1
    clear hl0
    go_enter Tryz.func33, Tryz.ntmps33
    go_upto_region 1 with fail
    generalize w.heap.size = B3 at hn1 hcB hfB ⊢
    generalize w.alloc (Obj.cells (opCells 4 on a s r) opT) = w1 at *
    go_wp2
    go_ret
    exact ⟨rfl, .same h0 hk1 all (by omega)⟩
  have hl0i : ¬ (l.length : Int) = 0 := by omega
  have hpick := fun w => pick_law on l.length _ rfl hon (by omega) (by omega) w
  have hi := pickN_lt on (n := l.length) (by omega)
  generalize pickN on l.length = i at hpick hi
  obtain ⟨⟨bt, T, ft⟩, ht⟩ : ∃ t, l[i]? = some t := ⟨l[i], by simp [hi]⟩
  obtain ⟨g, rfl, hcA1, hcA2, hcg⟩ := hcA i _ ht
  have hcg : w.cell? ⟨g, i, none⟩ = some (ptrV bt) := hcg
  have okT : T.Ok N L := all i _ ht
  clear hcA hl0
  go_enter Tryz.func33, Tryz.ntmps33
  go_upto_region 1 with fail
  have h1 := h0.kept hk1 (fun _ _ h => h)
  have hraw1 := hraw.kept hk1 (fun _ h => h.elim)
  have hc01 := hk1.read hc0 (fun h => h)
  have hcg1 := hk1.read hcg (fun h => h)
  have hfrB : ∀ x ∈ fp, x ≠ w.heap.size := fun x hx e => by have := h0.lt x hx; omega
  have hB3B : B ≤ w.heap.size := hraw.low
  generalize w.heap.size = B3 at hn1 hfrB hB3B ⊢
  generalize w.alloc (Obj.cells (opCells 4 on a s r) opT) = w1 at *
  clear hc0 hcg hsz1 hraw
  obtain ⟨hcB, hfB⟩ := cells_of hn1
  go_upto_region 8 with fail
  have hrd : ∀ W, Kept no w1 W → W.cell? ⟨b, 0, none⟩ = some (.slice (some ⟨g, 0, none⟩) l.length cA) ∧ (∀ j, W.cell? ⟨B3, j, none⟩ = (opCells 4 on a s r)[j]?) ∧ W.cell? ⟨g, i, none⟩ = some (ptrV bt) := fun W hW => ⟨hW.read hc01 (fun h => h), (cells_of (hW.get hn1 (fun h => h))).1, hW.read hcg1 (fun h => h)⟩
  clear hcB hfB
  refine wp_region3 (fun W => Kept no w1 W) [(0, true), (1, true), (2, true), (3, false), (4, true), (5, false), (6, true), (7, true), (8, true), (9, false), (10, true)] [11, 12, 13, 14] (by kernel_rfl) (by kernel_rfl) (fun _ _ d _ _ h => by cases d <;> exact h) ((Kept.refl _ _).drew) ?_
  repeat ((first | refine wpPre3_pure rfl rfl (fun W => (by go_simp; rfl)) ?_ | refine wpPre3_read rfl rfl (fun W hW => (by obtain ⟨h1, h2, h3⟩ := hrd W hW; go_simp; rfl)) ?_); simp only [Act.put, List.setIfInBounds_toArray, List.set])
  refine wpPre3_nil ?_
  have hkd : Kept no w1 w1.drew := (Kept.refl _ _).drew
  have hk2 := hk1.step hkd
  have h2 := h1.kept hkd (fun _ _ h => h)
  have hn2 := hkd.get hn1 (fun h => h)
  have hraw2 := hraw1.kept hkd (fun _ h => h.elim)
  have hcg2 := hkd.read hcg1 (fun h => h)
  clear h1 hn1 hraw1 hc01 hcg1 hrd hk1 hkd
  generalize w1.drew = w2 at *
  refine wpTail3_cons rfl rfl (fun K hK => ?_)
  go_wp2_with fail
  refine (hpick _).mono ?_
  rintro e w3 ⟨rfl, hw⟩
  rw [hw]
  clear hw hpick
  refine hK _ _ ⟨fun h => h, ?_⟩
  clear hK
  refine wpTail3_cons rfl rfl (fun K hK => ?_)
  go_wp2_with fail
  refine ⟨fun h => h, ?_⟩
  refine wpTail3_cons rfl rfl (fun K hK => ?_)
  go_wp2_with fail
  refine ⟨fun h => h, ?_⟩
  refine wpTail3_cons rfl rfl (fun K hK => ?_)
  go_wp2_with fail
  refine ⟨fun h => h, ?_⟩
  refine wpTail3_nil ?_
  clear hcg2
  obtain ⟨hT2, hft2⟩ := h2.get ht
  have hT2 : TwinR w2 bt T ft := hT2
  have hplay : ∀ (w9 : World) (T' : TwinS) (N' : Nat), N' ≤ N + 501 → TwinTo w2 w9 bt ft T' → T'.Ok N' L → PlayTo w w9 b fp l (M + 1) (N + 501) L := fun w9 T' N' hle hT hok => .twin hk2 h2 all (by omega) ht hT (hok.mono hle)
  have hstay : ∀ w9, Kept no w2 w9 → PlayTo w w9 b fp l (M + 1) (N + 501) L := fun w9 hk => .same h0 (hk2.step hk) all (by omega)
  obtain ⟨hcB, hfB⟩ := cells_of hn2
  have hE := edits_replace hT2 okT (by omega) hL on a ha s hs r
  have okE := okT.replace a s
  go_wp2_with fail
  refine hE.mono ?_
  rintro e w3 ⟨rfl, hT3⟩
  go_wp2
  go_ret
  exact ⟨rfl, hplay _ _ (N + 1) (by omega) hT3 okE⟩

set_option maxRecDepth 100000 in
set_option maxHeartbeats 16000000 in
theorem plays_line {w : World} {b : Nat} {l : TwL} {M : Nat} {fp : List Nat} {N L B : Nat} (h : WorldR w b l M fp) (all : AllOk l N L) (hM : M ≤ 900000000000) (hN : N ≤ 900000000000) (hL : L ≤ 1000000000000) (hll : l.length ≤ 1000000000) (on a : Int) (hon : RawOk on) (ha : RawOk a) (s : Str) (hs : s.length ≤ L) (r : Value) (raw : List Int) (hraw : IntsAt w B r raw) (hB : ∀ x ∈ fp, B ≤ x) :
    Calls Tryz.prog 33 #[ptrV b, .agg (opCells 5 on a s r)] w fun e w' => e = .returned (.bool true) ∧ PlayTo w w' b fp l (M + 1) (N + 501) L := by
  have h0 := h
  obtain ⟨ss, va, vs, lab, hW, hm, hfe⟩ := h
  obtain ⟨pA, cA, rfl⟩ := hW.all.slice
  have hcA : ∀ j t, l[j]? = some t → ∃ g, pA = some ⟨g, 0, none⟩ ∧ l.length ≤ cA ∧ cA ≤ 9223372036854775807 ∧ w.cell? ⟨g, j, none⟩ = some (ptrV t.1) := fun j t hj => by
    have hjl := (List.getElem?_eq_some_iff.1 hj).1
    rcases hW.all.shape with ⟨_, e0, _⟩ | ⟨g, c', hv', hc', hc2⟩
    · omega
    · simp only [Value.slice.injEq] at hv'
      obtain ⟨rfl, _, rfl⟩ := hv'
      unfold maxLen at hc2
      exact ⟨g, rfl, hc', by omega, hW.all.cell.2.2.2 j _ (by rw [List.getElem?_map, hj]; rfl)⟩
  have hc0 := (cells_of hW.cells).1 0
  have hbl := lt_of_heap hW.cells
  have hc0 : w.cell? ⟨b, 0, none⟩ = some (.slice pA l.length cA) := hc0
  clear hW hfe
  obtain ⟨hn1, hsz1, hk1⟩ := new1 w (Obj.cells (opCells 5 on a s r) opT)
  by_cases hl0 : l.length = 0
  · have hl0i : (l.length : Int) = 0 := by omega
    have hc0' := hk1.read hc0 (fun h => h)
    obtain ⟨hcB, hfB⟩ := cells_of hn1
    clear hl0
    go_enter Tryz.func33, Tryz.ntmps33
    go_upto_region 1 with fail
    generalize w.heap.size = B3 at hn1 hcB hfB ⊢
    generalize w.alloc (Obj.cells (opCells 5 on a s r) opT) = w1 at *
    go_wp2
    go_ret
    exact ⟨rfl, .same h0 hk1 all (by omega)⟩
  have hl0i : ¬ (l.length : Int) = 0 := by omega
  have hpick := fun w => pick_law on l.length _ rfl hon (by omega) (by omega) w
  have hi := pickN_lt on (n := l.length) (by omega)
  generalize pickN on l.length = i at hpick hi
  obtain ⟨⟨bt, T, ft⟩, ht⟩ : ∃ t, l[i]? = some t := ⟨l[i], by simp [hi]⟩
  obtain ⟨g, rfl, hcA1, hcA2, hcg⟩ := hcA i _ ht
  have hcg : w.cell? ⟨g, i, none⟩ = some (ptrV bt) := hcg
  have okT : T.Ok N L := all i _ ht
  clear hcA hl0
  go_enter Tryz.func33, Tryz.ntmps33
  go_upto_region 1 with fail
  have h1 := h0.kept hk1 (fun _ _ h => h)
  have hraw1 := hraw.kept hk1 (fun _ h => h.elim)
  have hc01 := hk1.read hc0 (fun h => h)
  have hcg1 := hk1.read hcg (fun h => h)
  have hfrB : ∀ x ∈ fp, x ≠ w.heap.size := fun x hx e => by have := h0.lt x hx; omega
  have hB3B : B ≤ w.heap.size := hraw.low
  generalize w.heap.size = B3 at hn1 hfrB hB3B ⊢
  generalize w.alloc (Obj.cells (opCells 5 on a s r) opT) = w1 at *
  clear hc0 hcg hsz1 hraw
  obtain ⟨hcB, hfB⟩ := cells_of hn1
  go_upto_region 8 with fail
  have hrd : ∀ W, Kept no w1 W → W.cell? ⟨b, 0, none⟩ = some (.slice (some ⟨g, 0, none⟩) l.length cA) ∧ (∀ j, W.cell? ⟨B3, j, none⟩ = (opCells 5 on a s r)[j]?) ∧ W.cell? ⟨g, i, none⟩ = some (ptrV bt) := fun W hW => ⟨hW.read hc01 (fun h => h), (cells_of (hW.get hn1 (fun h => h))).1, hW.read hcg1 (fun h => h)⟩
  clear hcB hfB
  refine wp_region3 (fun W => Kept no w1 W) [(0, true), (1, true), (2, true), (3, false), (4, true), (5, false), (6, true), (7, true), (8, true), (9, false), (10, true)] [11, 12, 13, 14] (by kernel_rfl) (by kernel_rfl) (fun _ _ d _ _ h => by cases d <;> exact h) ((Kept.refl _ _).drew) ?_
  repeat ((first | refine wpPre3_pure rfl rfl (fun W => (by go_simp; rfl)) ?_ | refine wpPre3_read rfl rfl (fun W hW => (by obtain ⟨h1, h2, h3⟩ := hrd W hW; go_simp; rfl)) ?_); simp only [Act.put, List.setIfInBounds_toArray, List.set])
  refine wpPre3_nil ?_
  have hkd : Kept no w1 w1.drew := (Kept.refl _ _).drew
  have hk2 := hk1.step hkd
  have h2 := h1.kept hkd (fun _ _ h => h)
  have hn2 := hkd.get hn1 (fun h => h)
  have hraw2 := hraw1.kept hkd (fun _ h => h.elim)
  have hcg2 := hkd.read hcg1 (fun h => h)
  clear h1 hn1 hraw1 hc01 hcg1 hrd hk1 hkd
  generalize w1.drew = w2 at *
  refine wpTail3_cons rfl rfl (fun K hK => ?_)
  go_wp2_with fail
  refine (hpick _).mono ?_
  rintro e w3 ⟨rfl, hw⟩
  rw [hw]
  clear hw hpick
  refine hK _ _ ⟨fun h => h, ?_⟩
  clear hK
  refine wpTail3_cons rfl rfl (fun K hK => ?_)
  go_wp2_with fail
  refine ⟨fun h => h, ?_⟩
  refine wpTail3_cons rfl rfl (fun K hK => ?_)
  go_wp2_with fail
  refine ⟨fun h => h, ?_⟩
  refine wpTail3_cons rfl rfl (fun K hK => ?_)
  go_wp2_with fail
  refine ⟨fun h => h, ?_⟩
  refine wpTail3_nil ?_
  clear hcg2
  obtain ⟨hT2, hft2⟩ := h2.get ht
  have hT2 : TwinR w2 bt T ft := hT2
  have hplay : ∀ (w9 : World) (T' : TwinS) (N' : Nat), N' ≤ N + 501 → TwinTo w2 w9 bt ft T' → T'.Ok N' L → PlayTo w w9 b fp l (M + 1) (N + 501) L := fun w9 T' N' hle hT hok => .twin hk2 h2 all (by omega) ht hT (hok.mono hle)
  have hstay : ∀ w9, Kept no w2 w9 → PlayTo w w9 b fp l (M + 1) (N + 501) L := fun w9 hk => .same h0 (hk2.step hk) all (by omega)
  obtain ⟨hcB, hfB⟩ := cells_of hn2
  by_cases hal : a < 0 ∨ (T.D.doc.lines.length : Int) ≤ a
  · have hE := edits_line_no hT2 okT on a hal s r
    clear hal
    go_wp2_with fail
    refine hE.mono ?_
    rintro e w3 ⟨rfl, hT3⟩
    go_wp2
    go_ret
    exact ⟨rfl, hplay _ _ N (by omega) hT3 okT⟩
  · obtain ⟨p, rfl⟩ : ∃ p : Nat, a = (p : Int) := ⟨a.toNat, by omega⟩
    have hE := edits_line_yes hT2 okT on p (by omega) s r
    clear hal
    go_wp2_with fail
    refine hE.mono ?_
    rintro e w3 ⟨rfl, hT3⟩
    go_wp2
    go_ret
    exact ⟨rfl, hplay _ _ N (by omega) hT3 okT⟩
end Go.Proofs.YtdpfohgkikjeaaaGreat

/- Part 42 of the proof: see its parts. -/
import Derived.Test.YtdpfohgkikjeaaaGreatV39
/- The statements' own: one step: crashes, reading back. -/
namespace Go.Proofs.YtdpfohgkikjeaaaGreat
open Go.RowKit
set_option linter.unusedVariables false
set_option linter.unusedSimpArgs false

set_option maxRecDepth 100000 in
set_option maxHeartbeats 16000000 in
theorem plays_crash {w : World} {b : Nat} {l : TwL} {M : Nat} {fp : List Nat} {N L B : Nat} (h : WorldR w b l M fp) (all : AllOk l N L) (hM : M ≤ 900000000000) (hN : N ≤ 900000000000) (hL : L ≤ 1000000000000) (hll : l.length ≤ 1000000000) (on a : Int) (hon : RawOk on) (ha : RawOk a) (s : Str) (hs : s.length ≤ L) (r : Value) (raw : List Int) (hraw : IntsAt w B r raw) (hB : ∀ x ∈ fp, B ≤ x) :
    Calls Tryz.prog 33 #[ptrV b, .agg (opCells 12 on a s r)] w fun e w' => e = .returned (.bool true) ∧ PlayTo w w' b fp l (M + 1) (N + 501) L := by
  have h0 := h
  obtain ⟨ss, va, vs, lab, hW, hm, hfe⟩ := h
  obtain ⟨pA, cA, rfl⟩ := hW.all.slice
  have hcA : ∀ j t, l[j]? = some t → ∃ g, pA = some ⟨g, 0, none⟩ ∧ l.length ≤ cA ∧ cA ≤ 9223372036854775807 ∧ w.cell? ⟨g, j, none⟩ = some (ptrV t.1) := fun j t hj => by
    have hjl := (List.getElem?_eq_some_iff.1 hj).1
    rcases hW.all.shape with ⟨_, e0, _⟩ | ⟨g, c', hv', hc', hc2⟩
    · omega
    · simp only [Value.slice.injEq] at hv'
      obtain ⟨rfl, _, rfl⟩ := hv'
      unfold maxLen at hc2
      exact ⟨g, rfl, hc', by omega, hW.all.cell.2.2.2 j _ (by rw [List.getElem?_map, hj]; rfl)⟩
  have hc0 := (cells_of hW.cells).1 0
  have hbl := lt_of_heap hW.cells
  have hc0 : w.cell? ⟨b, 0, none⟩ = some (.slice pA l.length cA) := hc0
  clear hW hfe
  obtain ⟨hn1, hsz1, hk1⟩ := new1 w (Obj.cells (opCells 12 on a s r) opT)
  by_cases hl0 : l.length = 0
  · have hl0i : (l.length : Int) = 0 := by omega
    have hc0' := hk1.read hc0 (fun h => h)
    obtain ⟨hcB, hfB⟩ := cells_of hn1
    clear hl0
    go_enter Tryz.func33, Tryz.ntmps33
    go_upto_region 1 with fail
    generalize w.heap.size = B3 at hn1 hcB hfB ⊢
    generalize w.alloc (Obj.cells (opCells 12 on a s r) opT) = w1 at *
    go_wp2
    go_ret
    exact ⟨rfl, .same h0 hk1 all (by omega)⟩
  have hl0i : ¬ (l.length : Int) = 0 := by omega
  have hpick := fun w => pick_law on l.length _ rfl hon (by omega) (by omega) w
  have hi := pickN_lt on (n := l.length) (by omega)
  generalize pickN on l.length = i at hpick hi
  obtain ⟨⟨bt, T, ft⟩, ht⟩ : ∃ t, l[i]? = some t := ⟨l[i], by simp [hi]⟩
  obtain ⟨g, rfl, hcA1, hcA2, hcg⟩ := hcA i _ ht
  have hcg : w.cell? ⟨g, i, none⟩ = some (ptrV bt) := hcg
  have okT : T.Ok N L := all i _ ht
  clear hcA hl0
  go_enter Tryz.func33, Tryz.ntmps33
  go_upto_region 1 with fail
  have h1 := h0.kept hk1 (fun _ _ h => h)
  have hraw1 := hraw.kept hk1 (fun _ h => h.elim)
  have hc01 := hk1.read hc0 (fun h => h)
  have hcg1 := hk1.read hcg (fun h => h)
  have hfrB : ∀ x ∈ fp, x ≠ w.heap.size := fun x hx e => by have := h0.lt x hx; omega
  have hB3B : B ≤ w.heap.size := hraw.low
  generalize w.heap.size = B3 at hn1 hfrB hB3B ⊢
  generalize w.alloc (Obj.cells (opCells 12 on a s r) opT) = w1 at *
  clear hc0 hcg hsz1 hraw
  obtain ⟨hcB, hfB⟩ := cells_of hn1
  go_upto_region 8 with fail
  have hrd : ∀ W, Kept no w1 W → W.cell? ⟨b, 0, none⟩ = some (.slice (some ⟨g, 0, none⟩) l.length cA) ∧ (∀ j, W.cell? ⟨B3, j, none⟩ = (opCells 12 on a s r)[j]?) ∧ W.cell? ⟨g, i, none⟩ = some (ptrV bt) := fun W hW => ⟨hW.read hc01 (fun h => h), (cells_of (hW.get hn1 (fun h => h))).1, hW.read hcg1 (fun h => h)⟩
  clear hcB hfB
  refine wp_region3 (fun W => Kept no w1 W) [(0, true), (1, true), (2, true), (3, false), (4, true), (5, false), (6, true), (7, true), (8, true), (9, false), (10, true)] [11, 12, 13, 14] (by kernel_rfl) (by kernel_rfl) (fun _ _ d _ _ h => by cases d <;> exact h) ((Kept.refl _ _).drew) ?_
  repeat ((first | refine wpPre3_pure rfl rfl (fun W => (by go_simp; rfl)) ?_ | refine wpPre3_read rfl rfl (fun W hW => (by obtain ⟨h1, h2, h3⟩ := hrd W hW; go_simp; rfl)) ?_); simp only [Act.put, List.setIfInBounds_toArray, List.set])
  refine wpPre3_nil ?_
  have hkd : Kept no w1 w1.drew := (Kept.refl _ _).drew
  have hk2 := hk1.step hkd
  have h2 := h1.kept hkd (fun _ _ h => h)
  have hn2 := hkd.get hn1 (fun h => h)
  have hraw2 := hraw1.kept hkd (fun _ h => h.elim)
  have hcg2 := hkd.read hcg1 (fun h => h)
  clear h1 hn1 hraw1 hc01 hcg1 hrd hk1 hkd
  generalize w1.drew = w2 at *
  refine wpTail3_cons rfl rfl (fun K hK => ?_)
  go_wp2_with fail
  refine (hpick _).mono ?_
  rintro e w3 ⟨rfl, hw⟩
  rw [hw]
  clear hw hpick
  refine hK _ _ ⟨fun h => h, ?_⟩
  clear hK
  refine wpTail3_cons rfl rfl (fun K hK => ?_)
  go_wp2_with fail
  refine ⟨fun h => h, ?_⟩
  refine wpTail3_cons rfl rfl (fun K hK => ?_)
  go_wp2_with fail
  refine ⟨fun h => h, ?_⟩
  refine wpTail3_cons rfl rfl (fun K hK => ?_)
  go_wp2_with fail
  refine ⟨fun h => h, ?_⟩
  refine wpTail3_nil ?_
  clear hcg2
  obtain ⟨hT2, hft2⟩ := h2.get ht
  have hT2 : TwinR w2 bt T ft := hT2
  have hplay : ∀ (w9 : World) (T' : TwinS) (N' : Nat), N' ≤ N + 501 → TwinTo w2 w9 bt ft T' → T'.Ok N' L → PlayTo w w9 b fp l (M + 1) (N + 501) L := fun w9 T' N' hle hT hok => .twin hk2 h2 all (by omega) ht hT (hok.mono hle)
  have hstay : ∀ w9, Kept no w2 w9 → PlayTo w w9 b fp l (M + 1) (N + 501) L := fun w9 hk => .same h0 (hk2.step hk) all (by omega)
  obtain ⟨hcB, hfB⟩ := cells_of hn2
  obtain ⟨bx, br, bd, fx, fr, fd, hM2, rfl⟩ := hT2
  have hM2 : TwinM w2 bt T.D.doc T.R T.D.disk T.acts bx br bd fx fr fd := hM2
  have hlens := okT.ok.lens
  have hrd : ∀ W, Kept no w2 W → W.cell? ⟨bt, 2, none⟩ = some (ptrV bd) ∧ (∀ j, W.cell? ⟨B3, j, none⟩ = (opCells 12 on a s r)[j]?) := fun W hW => ⟨hW.read (by rw [(cells_of hM2.cells).1]; rfl) (fun h => h), (cells_of (hW.get hn2 (fun h => h))).1⟩
  go_upto_region 46 with fail
  clear hcB hfB
  refine wp_region3 (fun W => Kept no w2 W) [(0, true), (1, true), (2, true), (3, false), (4, true), (5, false)] [6, 7] (by kernel_rfl) (by kernel_rfl) (fun _ _ d _ _ h => by cases d <;> exact h) ((Kept.refl _ _).drew) ?_
  repeat ((first | refine wpPre3_pure rfl rfl (fun W => (by go_simp; rfl)) ?_ | refine wpPre3_read rfl rfl (fun W hW => (by obtain ⟨h1, h2⟩ := hrd W hW; go_simp; rfl)) ?_); simp only [Act.put, List.setIfInBounds_toArray, List.set])
  refine wpPre3_nil ?_
  have hkd : Kept no w2 w2.drew := (Kept.refl _ _).drew
  have hM3 := hM2.kept hkd (fun _ _ h => h)
  have hraw3 := hraw2.kept hkd (fun _ h => h.elim)
  clear hrd
  generalize w2.drew = w3 at hkd hM3 hraw3 ⊢
  refine wpTail3_last (by kernel_rfl) rfl rfl (fun K hK => ?_)
  go_wp2_with fail
  refine (crash_any hM3.disk hlens (by omega) hL hraw3).mono ?_
  rintro e w5 ⟨⟨BK, fk, secs, f, rfl, hKD, hsl, hlv, hlf, hkn, hk5⟩⟩
  refine hK _ _ ?_
  clear hK
  refine wpTail3_last (by kernel_rfl) rfl rfl (fun K hK => ?_)
  go_wp2_with fail
  refine wpTail3_nil ?_
  have hk25 := hkd.step hk5
  have h5 := h2.kept hk25 (fun _ _ h => h)
  have hn5 := hk25.get hn2 (fun h => h)
  have hfl := leavesFile_le hlens hlf
  have h64 := leaves_size hlens hlv
  have hlens5 : (DiskS.of secs f).Lens 1 L := by
    refine ⟨by show (List.map _ secs).length = 400; rw [List.length_map]; exact hsl, fun r hr => ?_, fun r hr => ?_, fun r hr s hs => ?_, hfl, Nat.zero_le _, Nat.zero_le _, fun e => (by cases e), Nat.zero_le _⟩
    all_goals
      obtain ⟨x, hx, rfl⟩ := List.mem_map.1 hr
    · simp
    · simp
    · simp only [List.mem_cons, List.not_mem_nil, or_false] at hs
      rw [hs]; exact h64 x hx
  have hnow : (DiskS.of secs f).now = secs := by
    show List.map lastOf (List.map _ secs) = secs
    rw [List.map_map]
    conv => rhs; rw [← List.map_id secs]
    rfl
  have hagain := fun w9 (hw : WorldR w9 b l M fp) (hD : DiskR w9 BK (DiskS.of secs f) fk) => again_w hw (by omega) ht all (by omega) hL hD hlens5 (by decide) (by rw [hnow]; exact hlv) f hfl a
  have hrd : ∀ W, Kept no w5 W → W.cell? ⟨BK, 1, none⟩ = some (sv f) ∧ (∀ j, W.cell? ⟨B3, j, none⟩ = (opCells 12 on a s r)[j]?) := fun W hW => ⟨hW.read hKD.fileCell (fun h => h), (cells_of (hW.get hn5 (fun h => h))).1⟩
  obtain ⟨hcB5, hfB5⟩ := cells_of hn5
  go_upto_region 47 with fail
  clear hcB5 hfB5
  refine wp_region3 (fun W => Kept no w5 W) [(0, true), (1, true), (2, true), (3, true), (4, true), (5, true), (6, false), (7, true), (8, false)] [9, 10] (by kernel_rfl) (by kernel_rfl) (fun _ _ d _ _ h => by cases d <;> exact h) ((Kept.refl _ _).drew) ?_
  repeat ((first | refine wpPre3_pure rfl rfl (fun W => (by go_simp; rfl)) ?_ | refine wpPre3_read rfl rfl (fun W hW => (by obtain ⟨h1, h2⟩ := hrd W hW; go_simp; rfl)) ?_); simp only [Act.put, List.setIfInBounds_toArray, List.set])
  refine wpPre3_nil ?_
  have hkd6 : Kept no w5 w5.drew := (Kept.refl _ _).drew
  have h6 := h5.kept hkd6 (fun _ _ h => h)
  have hD6 := hKD.kept hkd6 (fun _ _ h => h)
  clear hrd
  generalize w5.drew = w6 at hkd6 h6 hD6 ⊢
  refine wpTail3_last (by kernel_rfl) rfl rfl (fun K hK => ?_)
  go_wp2_with fail
  refine (hagain w6 h6 hD6).mono ?_
  rintro e w7 ⟨rfl, l', hW7, hl7, hall7⟩
  refine hK _ _ ?_
  clear hK
  refine wpTail3_last (by kernel_rfl) rfl rfl (fun K hK => ?_)
  go_wp2_with fail
  refine wpTail3_nil ?_
  go_wp2
  go_ret
  exact ⟨rfl, l', hW7.after ((hk2.step hk25).step hkd6), hl7, hall7.mono (by omega)⟩

set_option maxRecDepth 100000 in
set_option maxHeartbeats 16000000 in
theorem plays_again {w : World} {b : Nat} {l : TwL} {M : Nat} {fp : List Nat} {N L B : Nat} (h : WorldR w b l M fp) (all : AllOk l N L) (hM : M ≤ 900000000000) (hN : N ≤ 900000000000) (hL : L ≤ 1000000000000) (hll : l.length ≤ 1000000000) (on a : Int) (hon : RawOk on) (ha : RawOk a) (s : Str) (hs : s.length ≤ L) (r : Value) (raw : List Int) (hraw : IntsAt w B r raw) (hB : ∀ x ∈ fp, B ≤ x) :
    Calls Tryz.prog 33 #[ptrV b, .agg (opCells 13 on a s r)] w fun e w' => e = .returned (.bool true) ∧ PlayTo w w' b fp l (M + 1) (N + 501) L := by
  have h0 := h
  obtain ⟨ss, va, vs, lab, hW, hm, hfe⟩ := h
  obtain ⟨pA, cA, rfl⟩ := hW.all.slice
  have hcA : ∀ j t, l[j]? = some t → ∃ g, pA = some ⟨g, 0, none⟩ ∧ l.length ≤ cA ∧ cA ≤ 9223372036854775807 ∧ w.cell? ⟨g, j, none⟩ = some (ptrV t.1) := fun j t hj => by
    have hjl := (List.getElem?_eq_some_iff.1 hj).1
    rcases hW.all.shape with ⟨_, e0, _⟩ | ⟨g, c', hv', hc', hc2⟩
    · omega
    · simp only [Value.slice.injEq] at hv'
      obtain ⟨rfl, _, rfl⟩ := hv'
      unfold maxLen at hc2
      exact ⟨g, rfl, hc', by omega, hW.all.cell.2.2.2 j _ (by rw [List.getElem?_map, hj]; rfl)⟩
  have hc0 := (cells_of hW.cells).1 0
  have hbl := lt_of_heap hW.cells
  have hc0 : w.cell? ⟨b, 0, none⟩ = some (.slice pA l.length cA) := hc0
  clear hW hfe
  obtain ⟨hn1, hsz1, hk1⟩ := new1 w (Obj.cells (opCells 13 on a s r) opT)
  by_cases hl0 : l.length = 0
  · have hl0i : (l.length : Int) = 0 := by omega
    have hc0' := hk1.read hc0 (fun h => h)
    obtain ⟨hcB, hfB⟩ := cells_of hn1
    clear hl0
    go_enter Tryz.func33, Tryz.ntmps33
    go_upto_region 1 with fail
    generalize w.heap.size = B3 at hn1 hcB hfB ⊢
    generalize w.alloc (Obj.cells (opCells 13 on a s r) opT) = w1 at *
    go_wp2
    go_ret
    exact ⟨rfl, .same h0 hk1 all (by omega)⟩
  have hl0i : ¬ (l.length : Int) = 0 := by omega
  have hpick := fun w => pick_law on l.length _ rfl hon (by omega) (by omega) w
  have hi := pickN_lt on (n := l.length) (by omega)
  generalize pickN on l.length = i at hpick hi
  obtain ⟨⟨bt, T, ft⟩, ht⟩ : ∃ t, l[i]? = some t := ⟨l[i], by simp [hi]⟩
  obtain ⟨g, rfl, hcA1, hcA2, hcg⟩ := hcA i _ ht
  have hcg : w.cell? ⟨g, i, none⟩ = some (ptrV bt) := hcg
  have okT : T.Ok N L := all i _ ht
  clear hcA hl0
  go_enter Tryz.func33, Tryz.ntmps33
  go_upto_region 1 with fail
  have h1 := h0.kept hk1 (fun _ _ h => h)
  have hraw1 := hraw.kept hk1 (fun _ h => h.elim)
  have hc01 := hk1.read hc0 (fun h => h)
  have hcg1 := hk1.read hcg (fun h => h)
  have hfrB : ∀ x ∈ fp, x ≠ w.heap.size := fun x hx e => by have := h0.lt x hx; omega
  have hB3B : B ≤ w.heap.size := hraw.low
  generalize w.heap.size = B3 at hn1 hfrB hB3B ⊢
  generalize w.alloc (Obj.cells (opCells 13 on a s r) opT) = w1 at *
  clear hc0 hcg hsz1 hraw
  obtain ⟨hcB, hfB⟩ := cells_of hn1
  go_upto_region 8 with fail
  have hrd : ∀ W, Kept no w1 W → W.cell? ⟨b, 0, none⟩ = some (.slice (some ⟨g, 0, none⟩) l.length cA) ∧ (∀ j, W.cell? ⟨B3, j, none⟩ = (opCells 13 on a s r)[j]?) ∧ W.cell? ⟨g, i, none⟩ = some (ptrV bt) := fun W hW => ⟨hW.read hc01 (fun h => h), (cells_of (hW.get hn1 (fun h => h))).1, hW.read hcg1 (fun h => h)⟩
  clear hcB hfB
  refine wp_region3 (fun W => Kept no w1 W) [(0, true), (1, true), (2, true), (3, false), (4, true), (5, false), (6, true), (7, true), (8, true), (9, false), (10, true)] [11, 12, 13, 14] (by kernel_rfl) (by kernel_rfl) (fun _ _ d _ _ h => by cases d <;> exact h) ((Kept.refl _ _).drew) ?_
  repeat ((first | refine wpPre3_pure rfl rfl (fun W => (by go_simp; rfl)) ?_ | refine wpPre3_read rfl rfl (fun W hW => (by obtain ⟨h1, h2, h3⟩ := hrd W hW; go_simp; rfl)) ?_); simp only [Act.put, List.setIfInBounds_toArray, List.set])
  refine wpPre3_nil ?_
  have hkd : Kept no w1 w1.drew := (Kept.refl _ _).drew
  have hk2 := hk1.step hkd
  have h2 := h1.kept hkd (fun _ _ h => h)
  have hn2 := hkd.get hn1 (fun h => h)
  have hraw2 := hraw1.kept hkd (fun _ h => h.elim)
  have hcg2 := hkd.read hcg1 (fun h => h)
  clear h1 hn1 hraw1 hc01 hcg1 hrd hk1 hkd
  generalize w1.drew = w2 at *
  refine wpTail3_cons rfl rfl (fun K hK => ?_)
  go_wp2_with fail
  refine (hpick _).mono ?_
  rintro e w3 ⟨rfl, hw⟩
  rw [hw]
  clear hw hpick
  refine hK _ _ ⟨fun h => h, ?_⟩
  clear hK
  refine wpTail3_cons rfl rfl (fun K hK => ?_)
  go_wp2_with fail
  refine ⟨fun h => h, ?_⟩
  refine wpTail3_cons rfl rfl (fun K hK => ?_)
  go_wp2_with fail
  refine ⟨fun h => h, ?_⟩
  refine wpTail3_cons rfl rfl (fun K hK => ?_)
  go_wp2_with fail
  refine ⟨fun h => h, ?_⟩
  refine wpTail3_nil ?_
  clear hcg2
  obtain ⟨hT2, hft2⟩ := h2.get ht
  have hT2 : TwinR w2 bt T ft := hT2
  have hplay : ∀ (w9 : World) (T' : TwinS) (N' : Nat), N' ≤ N + 501 → TwinTo w2 w9 bt ft T' → T'.Ok N' L → PlayTo w w9 b fp l (M + 1) (N + 501) L := fun w9 T' N' hle hT hok => .twin hk2 h2 all (by omega) ht hT (hok.mono hle)
  have hstay : ∀ w9, Kept no w2 w9 → PlayTo w w9 b fp l (M + 1) (N + 501) L := fun w9 hk => .same h0 (hk2.step hk) all (by omega)
  obtain ⟨hcB, hfB⟩ := cells_of hn2
  obtain ⟨bx, br, bd, fx, fr, fd, hM2, rfl⟩ := hT2
  have hM2 : TwinM w2 bt T.D.doc T.R T.D.disk T.acts bx br bd fx fr fd := hM2
  have hlens := okT.ok.lens
  have hrd : ∀ W, Kept no w2 W → W.cell? ⟨bt, 2, none⟩ = some (ptrV bd) ∧ (∀ j, W.cell? ⟨B3, j, none⟩ = (opCells 13 on a s r)[j]?) := fun W hW => ⟨hW.read (by rw [(cells_of hM2.cells).1]; rfl) (fun h => h), (cells_of (hW.get hn2 (fun h => h))).1⟩
  obtain ⟨hlen, h64⟩ := now_length hlens
  have hlens5 : (DiskS.of T.D.disk.now s).Lens 1 L := by
    refine ⟨by show (List.map _ T.D.disk.now).length = 400; rw [List.length_map]; exact hlen, fun r hr => ?_, fun r hr => ?_, fun r hr s hs => ?_, hs, Nat.zero_le _, Nat.zero_le _, fun e => (by cases e), Nat.zero_le _⟩
    all_goals
      obtain ⟨x, hx, rfl⟩ := List.mem_map.1 hr
    · simp
    · simp
    · simp only [List.mem_cons, List.not_mem_nil, or_false] at hs
      rw [hs]; exact h64 x hx
  have hnow : (DiskS.of T.D.disk.now s).now = T.D.disk.now := by
    show List.map lastOf (List.map _ T.D.disk.now) = T.D.disk.now
    rw [List.map_map]
    conv => rhs; rw [← List.map_id T.D.disk.now]
    rfl
  have hlv : T.D.disk.Leaves (DiskS.of T.D.disk.now s).now := by rw [hnow]; exact now_leaves hlens
  have hagain := fun w9 BK fk (hw : WorldR w9 b l M fp) (hD : DiskR w9 BK (DiskS.of T.D.disk.now s) fk) => again_w hw (by omega) ht all (by omega) hL hD hlens5 (by decide) hlv s hs a
  have hnowA := fun w9 (hD : DiskR w9 bd T.D.disk fd) => now_any hD hlens (by omega)
  clear hnow hlv
  generalize T.D.disk.now = secs at *
  go_upto_region 49 with fail
  clear hcB hfB
  refine wp_region3 (fun W => Kept no w2 W) [(0, true), (1, true), (2, true), (3, true), (4, true), (5, false), (7, true), (8, false), (10, true), (11, false), (12, true), (13, false)] [6, 9, 14, 15] (by kernel_rfl) (by kernel_rfl) (fun _ _ d _ _ h => by cases d <;> exact h) ((Kept.refl _ _).drew) ?_
  repeat ((first | refine wpPre3_pure rfl rfl (fun W => (by go_simp; rfl)) ?_ | refine wpPre3_read rfl rfl (fun W hW => (by obtain ⟨h1, h2⟩ := hrd W hW; go_simp; rfl)) ?_); simp only [Act.put, List.setIfInBounds_toArray, List.set])
  refine wpPre3_nil ?_
  have hkd : Kept no w2 w2.drew := (Kept.refl _ _).drew
  have hM3 := hM2.kept hkd (fun _ _ h => h)
  clear hrd
  generalize w2.drew = w3 at hkd hM3 ⊢
  refine wpTail3_cons rfl rfl (fun K hK => ?_)
  go_wp2_with fail
  refine (hnowA w3 hM3.disk).mono ?_
  rintro e w4 ⟨v, rfl, hrow, hvn, hk4⟩
  refine hK _ _ ⟨fun h => h.step hk4, ?_⟩
  clear hK
  refine wpTail3_cons rfl rfl (fun K hK => ?_)
  go_wp2_with fail
  refine (of_any (by rw [hlen]; exact hrow) hlen s).mono ?_
  rintro e w5 ⟨BK, fk, rfl, hKD, hfk, hk5⟩
  refine hK _ _ ⟨fun h => h.step hk5, ?_⟩
  clear hK
  have hk25 := (hkd.step hk4).step hk5
  have h5 := h2.kept hk25 (fun _ _ h => h)
  refine wpTail3_last (by kernel_rfl) rfl rfl (fun K hK => ?_)
  go_wp2_with fail
  refine (hagain w5 _ _ h5 hKD).mono ?_
  rintro e w7 ⟨rfl, l', hW7, hl7, hall7⟩
  refine hK _ _ ?_
  clear hK
  refine wpTail3_last (by kernel_rfl) rfl rfl (fun K hK => ?_)
  go_wp2_with fail
  refine wpTail3_nil ?_
  go_wp2
  go_ret
  exact ⟨rfl, l', hW7.after (hk2.step hk25), hl7, hall7.mono (by omega)⟩
end Go.Proofs.YtdpfohgkikjeaaaGreat

/- Part 41 of the proof: see its parts. -/
import Derived.Test.YtdpfohgkikjeaaaGreatV39
/- The statements' own: one step: Text, Look. -/
namespace Go.Proofs.YtdpfohgkikjeaaaGreat
open Go.RowKit
set_option linter.unusedVariables false
set_option linter.unusedSimpArgs false

set_option maxRecDepth 100000 in
set_option maxHeartbeats 16000000 in
theorem plays_text {w : World} {b : Nat} {l : TwL} {M : Nat} {fp : List Nat} {N L B : Nat} (h : WorldR w b l M fp) (all : AllOk l N L) (hM : M ≤ 900000000000) (hN : N ≤ 900000000000) (hL : L ≤ 1000000000000) (hll : l.length ≤ 1000000000) (on a : Int) (hon : RawOk on) (ha : RawOk a) (s : Str) (hs : s.length ≤ L) (r : Value) (raw : List Int) (hraw : IntsAt w B r raw) (hB : ∀ x ∈ fp, B ≤ x) :
    Calls Tryz.prog 33 #[ptrV b, .agg (opCells 6 on a s r)] w fun e w' => e = .returned (.bool true) ∧ PlayTo w w' b fp l (M + 1) (N + 501) L := by
  have h0 := h
  obtain ⟨ss, va, vs, lab, hW, hm, hfe⟩ := h
  obtain ⟨pA, cA, rfl⟩ := hW.all.slice
  have hcA : ∀ j t, l[j]? = some t → ∃ g, pA = some ⟨g, 0, none⟩ ∧ l.length ≤ cA ∧ cA ≤ 9223372036854775807 ∧ w.cell? ⟨g, j, none⟩ = some (ptrV t.1) := fun j t hj => by
    have hjl := (List.getElem?_eq_some_iff.1 hj).1
    rcases hW.all.shape with ⟨_, e0, _⟩ | ⟨g, c', hv', hc', hc2⟩
    · omega
    · simp only [Value.slice.injEq] at hv'
      obtain ⟨rfl, _, rfl⟩ := hv'
      unfold maxLen at hc2
      exact ⟨g, rfl, hc', by omega, hW.all.cell.2.2.2 j _ (by rw [List.getElem?_map, hj]; rfl)⟩
  have hc0 := (cells_of hW.cells).1 0
  have hbl := lt_of_heap hW.cells
  have hc0 : w.cell? ⟨b, 0, none⟩ = some (.slice pA l.length cA) := hc0
  clear hW hfe
  obtain ⟨hn1, hsz1, hk1⟩ := new1 w (Obj.cells (opCells 6 on a s r) opT)
  by_cases hl0 : l.length = 0
  · have hl0i : (l.length : Int) = 0 := by omega
    have hc0' := hk1.read hc0 (fun h => h)
    obtain ⟨hcB, hfB⟩ := cells_of hn1
    clear hl0
    go_enter Tryz.func33, Tryz.ntmps33
    go_upto_region 1 with fail
    generalize w.heap.size = B3 at hn1 hcB hfB ⊢
    generalize w.alloc (Obj.cells (opCells 6 on a s r) opT) = w1 at *
    go_wp2
    go_ret
    exact ⟨rfl, .same h0 hk1 all (by omega)⟩
  have hl0i : ¬ (l.length : Int) = 0 := by omega
  have hpick := fun w => pick_law on l.length _ rfl hon (by omega) (by omega) w
  have hi := pickN_lt on (n := l.length) (by omega)
  generalize pickN on l.length = i at hpick hi
  obtain ⟨⟨bt, T, ft⟩, ht⟩ : ∃ t, l[i]? = some t := ⟨l[i], by simp [hi]⟩
  obtain ⟨g, rfl, hcA1, hcA2, hcg⟩ := hcA i _ ht
  have hcg : w.cell? ⟨g, i, none⟩ = some (ptrV bt) := hcg
  have okT : T.Ok N L := all i _ ht
  clear hcA hl0
  go_enter Tryz.func33, Tryz.ntmps33
  go_upto_region 1 with fail
  have h1 := h0.kept hk1 (fun _ _ h => h)
  have hraw1 := hraw.kept hk1 (fun _ h => h.elim)
  have hc01 := hk1.read hc0 (fun h => h)
  have hcg1 := hk1.read hcg (fun h => h)
  have hfrB : ∀ x ∈ fp, x ≠ w.heap.size := fun x hx e => by have := h0.lt x hx; omega
  have hB3B : B ≤ w.heap.size := hraw.low
  generalize w.heap.size = B3 at hn1 hfrB hB3B ⊢
  generalize w.alloc (Obj.cells (opCells 6 on a s r) opT) = w1 at *
  clear hc0 hcg hsz1 hraw
  obtain ⟨hcB, hfB⟩ := cells_of hn1
  go_upto_region 8 with fail
  have hrd : ∀ W, Kept no w1 W → W.cell? ⟨b, 0, none⟩ = some (.slice (some ⟨g, 0, none⟩) l.length cA) ∧ (∀ j, W.cell? ⟨B3, j, none⟩ = (opCells 6 on a s r)[j]?) ∧ W.cell? ⟨g, i, none⟩ = some (ptrV bt) := fun W hW => ⟨hW.read hc01 (fun h => h), (cells_of (hW.get hn1 (fun h => h))).1, hW.read hcg1 (fun h => h)⟩
  clear hcB hfB
  refine wp_region3 (fun W => Kept no w1 W) [(0, true), (1, true), (2, true), (3, false), (4, true), (5, false), (6, true), (7, true), (8, true), (9, false), (10, true)] [11, 12, 13, 14] (by kernel_rfl) (by kernel_rfl) (fun _ _ d _ _ h => by cases d <;> exact h) ((Kept.refl _ _).drew) ?_
  repeat ((first | refine wpPre3_pure rfl rfl (fun W => (by go_simp; rfl)) ?_ | refine wpPre3_read rfl rfl (fun W hW => (by obtain ⟨h1, h2, h3⟩ := hrd W hW; go_simp; rfl)) ?_); simp only [Act.put, List.setIfInBounds_toArray, List.set])
  refine wpPre3_nil ?_
  have hkd : Kept no w1 w1.drew := (Kept.refl _ _).drew
  have hk2 := hk1.step hkd
  have h2 := h1.kept hkd (fun _ _ h => h)
  have hn2 := hkd.get hn1 (fun h => h)
  have hraw2 := hraw1.kept hkd (fun _ h => h.elim)
  have hcg2 := hkd.read hcg1 (fun h => h)
  clear h1 hn1 hraw1 hc01 hcg1 hrd hk1 hkd
  generalize w1.drew = w2 at *
  refine wpTail3_cons rfl rfl (fun K hK => ?_)
  go_wp2_with fail
  refine (hpick _).mono ?_
  rintro e w3 ⟨rfl, hw⟩
  rw [hw]
  clear hw hpick
  refine hK _ _ ⟨fun h => h, ?_⟩
  clear hK
  refine wpTail3_cons rfl rfl (fun K hK => ?_)
  go_wp2_with fail
  refine ⟨fun h => h, ?_⟩
  refine wpTail3_cons rfl rfl (fun K hK => ?_)
  go_wp2_with fail
  refine ⟨fun h => h, ?_⟩
  refine wpTail3_cons rfl rfl (fun K hK => ?_)
  go_wp2_with fail
  refine ⟨fun h => h, ?_⟩
  refine wpTail3_nil ?_
  clear hcg2
  obtain ⟨hT2, hft2⟩ := h2.get ht
  have hT2 : TwinR w2 bt T ft := hT2
  have hplay : ∀ (w9 : World) (T' : TwinS) (N' : Nat), N' ≤ N + 501 → TwinTo w2 w9 bt ft T' → T'.Ok N' L → PlayTo w w9 b fp l (M + 1) (N + 501) L := fun w9 T' N' hle hT hok => .twin hk2 h2 all (by omega) ht hT (hok.mono hle)
  have hstay : ∀ w9, Kept no w2 w9 → PlayTo w w9 b fp l (M + 1) (N + 501) L := fun w9 hk => .same h0 (hk2.step hk) all (by omega)
  obtain ⟨hcB, hfB⟩ := cells_of hn2
  obtain ⟨bx, br, bd, fx, fr, fd, hM2, rfl⟩ := hT2
  have hM2 : TwinM w2 bt T.D.doc T.R T.D.disk T.acts bx br bd fx fr fd := hM2
  obtain ⟨hct, hfT, hblt, hrlt, hcj⟩ := hM2.reads
  have htx := text_doc hM2.doc
  have hrx : ∀ w9, RefR w9 br T.R fr → Calls Tryz.prog 65 #[ptrV br] w9 fun e w' => e = .returned (sv T.D.doc.text) ∧ Kept no w9 w' := fun w9 hr => by
    obtain ⟨vl, va, vq, vs, fa, fq, hr, rfl⟩ := hr
    have := ref_text hr okT.ref.text
    rw [okT.beside.lines] at this
    exact this
  generalize T.D.doc.text = tx at htx hrx
  go_wp2_with fail
  refine htx.mono ?_
  rintro e w3 ⟨rfl, hk3⟩
  have hM3 := hM2.kept hk3 (fun _ _ h => h)
  clear hct hfT hcj hcB hfB
  obtain ⟨hct, hfT, hblt, hrlt, hcj⟩ := hM3.reads
  go_wp2_with fail
  refine (hrx w3 hM3.ref).mono ?_
  rintro e w4 ⟨rfl, hk4⟩
  go_wp2
  go_ret
  exact ⟨by simp, hstay _ (hk3.step hk4)⟩

set_option maxRecDepth 100000 in
set_option maxHeartbeats 16000000 in
theorem plays_look {w : World} {b : Nat} {l : TwL} {M : Nat} {fp : List Nat} {N L B : Nat} (h : WorldR w b l M fp) (all : AllOk l N L) (hM : M ≤ 900000000000) (hN : N ≤ 900000000000) (hL : L ≤ 1000000000000) (hll : l.length ≤ 1000000000) (on a : Int) (hon : RawOk on) (ha : RawOk a) (s : Str) (hs : s.length ≤ L) (r : Value) (raw : List Int) (hraw : IntsAt w B r raw) (hB : ∀ x ∈ fp, B ≤ x) :
    Calls Tryz.prog 33 #[ptrV b, .agg (opCells 7 on a s r)] w fun e w' => e = .returned (.bool true) ∧ PlayTo w w' b fp l (M + 1) (N + 501) L := by
  have h0 := h
  obtain ⟨ss, va, vs, lab, hW, hm, hfe⟩ := h
  obtain ⟨pA, cA, rfl⟩ := hW.all.slice
  have hcA : ∀ j t, l[j]? = some t → ∃ g, pA = some ⟨g, 0, none⟩ ∧ l.length ≤ cA ∧ cA ≤ 9223372036854775807 ∧ w.cell? ⟨g, j, none⟩ = some (ptrV t.1) := fun j t hj => by
    have hjl := (List.getElem?_eq_some_iff.1 hj).1
    rcases hW.all.shape with ⟨_, e0, _⟩ | ⟨g, c', hv', hc', hc2⟩
    · omega
    · simp only [Value.slice.injEq] at hv'
      obtain ⟨rfl, _, rfl⟩ := hv'
      unfold maxLen at hc2
      exact ⟨g, rfl, hc', by omega, hW.all.cell.2.2.2 j _ (by rw [List.getElem?_map, hj]; rfl)⟩
  have hc0 := (cells_of hW.cells).1 0
  have hbl := lt_of_heap hW.cells
  have hc0 : w.cell? ⟨b, 0, none⟩ = some (.slice pA l.length cA) := hc0
  clear hW hfe
  obtain ⟨hn1, hsz1, hk1⟩ := new1 w (Obj.cells (opCells 7 on a s r) opT)
  by_cases hl0 : l.length = 0
  · have hl0i : (l.length : Int) = 0 := by omega
    have hc0' := hk1.read hc0 (fun h => h)
    obtain ⟨hcB, hfB⟩ := cells_of hn1
    clear hl0
    go_enter Tryz.func33, Tryz.ntmps33
    go_upto_region 1 with fail
    generalize w.heap.size = B3 at hn1 hcB hfB ⊢
    generalize w.alloc (Obj.cells (opCells 7 on a s r) opT) = w1 at *
    go_wp2
    go_ret
    exact ⟨rfl, .same h0 hk1 all (by omega)⟩
  have hl0i : ¬ (l.length : Int) = 0 := by omega
  have hpick := fun w => pick_law on l.length _ rfl hon (by omega) (by omega) w
  have hi := pickN_lt on (n := l.length) (by omega)
  generalize pickN on l.length = i at hpick hi
  obtain ⟨⟨bt, T, ft⟩, ht⟩ : ∃ t, l[i]? = some t := ⟨l[i], by simp [hi]⟩
  obtain ⟨g, rfl, hcA1, hcA2, hcg⟩ := hcA i _ ht
  have hcg : w.cell? ⟨g, i, none⟩ = some (ptrV bt) := hcg
  have okT : T.Ok N L := all i _ ht
  clear hcA hl0
  go_enter Tryz.func33, Tryz.ntmps33
  go_upto_region 1 with fail
  have h1 := h0.kept hk1 (fun _ _ h => h)
  have hraw1 := hraw.kept hk1 (fun _ h => h.elim)
  have hc01 := hk1.read hc0 (fun h => h)
  have hcg1 := hk1.read hcg (fun h => h)
  have hfrB : ∀ x ∈ fp, x ≠ w.heap.size := fun x hx e => by have := h0.lt x hx; omega
  have hB3B : B ≤ w.heap.size := hraw.low
  generalize w.heap.size = B3 at hn1 hfrB hB3B ⊢
  generalize w.alloc (Obj.cells (opCells 7 on a s r) opT) = w1 at *
  clear hc0 hcg hsz1 hraw
  obtain ⟨hcB, hfB⟩ := cells_of hn1
  go_upto_region 8 with fail
  have hrd : ∀ W, Kept no w1 W → W.cell? ⟨b, 0, none⟩ = some (.slice (some ⟨g, 0, none⟩) l.length cA) ∧ (∀ j, W.cell? ⟨B3, j, none⟩ = (opCells 7 on a s r)[j]?) ∧ W.cell? ⟨g, i, none⟩ = some (ptrV bt) := fun W hW => ⟨hW.read hc01 (fun h => h), (cells_of (hW.get hn1 (fun h => h))).1, hW.read hcg1 (fun h => h)⟩
  clear hcB hfB
  refine wp_region3 (fun W => Kept no w1 W) [(0, true), (1, true), (2, true), (3, false), (4, true), (5, false), (6, true), (7, true), (8, true), (9, false), (10, true)] [11, 12, 13, 14] (by kernel_rfl) (by kernel_rfl) (fun _ _ d _ _ h => by cases d <;> exact h) ((Kept.refl _ _).drew) ?_
  repeat ((first | refine wpPre3_pure rfl rfl (fun W => (by go_simp; rfl)) ?_ | refine wpPre3_read rfl rfl (fun W hW => (by obtain ⟨h1, h2, h3⟩ := hrd W hW; go_simp; rfl)) ?_); simp only [Act.put, List.setIfInBounds_toArray, List.set])
  refine wpPre3_nil ?_
  have hkd : Kept no w1 w1.drew := (Kept.refl _ _).drew
  have hk2 := hk1.step hkd
  have h2 := h1.kept hkd (fun _ _ h => h)
  have hn2 := hkd.get hn1 (fun h => h)
  have hraw2 := hraw1.kept hkd (fun _ h => h.elim)
  have hcg2 := hkd.read hcg1 (fun h => h)
  clear h1 hn1 hraw1 hc01 hcg1 hrd hk1 hkd
  generalize w1.drew = w2 at *
  refine wpTail3_cons rfl rfl (fun K hK => ?_)
  go_wp2_with fail
  refine (hpick _).mono ?_
  rintro e w3 ⟨rfl, hw⟩
  rw [hw]
  clear hw hpick
  refine hK _ _ ⟨fun h => h, ?_⟩
  clear hK
  refine wpTail3_cons rfl rfl (fun K hK => ?_)
  go_wp2_with fail
  refine ⟨fun h => h, ?_⟩
  refine wpTail3_cons rfl rfl (fun K hK => ?_)
  go_wp2_with fail
  refine ⟨fun h => h, ?_⟩
  refine wpTail3_cons rfl rfl (fun K hK => ?_)
  go_wp2_with fail
  refine ⟨fun h => h, ?_⟩
  refine wpTail3_nil ?_
  clear hcg2
  obtain ⟨hT2, hft2⟩ := h2.get ht
  have hT2 : TwinR w2 bt T ft := hT2
  have hplay : ∀ (w9 : World) (T' : TwinS) (N' : Nat), N' ≤ N + 501 → TwinTo w2 w9 bt ft T' → T'.Ok N' L → PlayTo w w9 b fp l (M + 1) (N + 501) L := fun w9 T' N' hle hT hok => .twin hk2 h2 all (by omega) ht hT (hok.mono hle)
  have hstay : ∀ w9, Kept no w2 w9 → PlayTo w w9 b fp l (M + 1) (N + 501) L := fun w9 hk => .same h0 (hk2.step hk) all (by omega)
  obtain ⟨hcB, hfB⟩ := cells_of hn2
  obtain ⟨bx, br, bd, fx, fr, fd, hM2, rfl⟩ := hT2
  have hM2 : TwinM w2 bt T.D.doc T.R T.D.disk T.acts bx br bd fx fr fd := hM2
  obtain ⟨hct, hfT, hblt, hrlt, hcj⟩ := hM2.reads
  have htx := look_doc hM2.doc
  have hrx : ∀ w9, RefR w9 br T.R fr → Calls Tryz.prog 66 #[ptrV br] w9 fun e w' => e = .returned (.agg #[.int .i64 (T.D.doc.lines.length : Int), .int .i64 (T.D.doc.edits : Int), .int .i64 (T.D.doc.kind : Int)]) ∧ Kept no w9 w' := fun w9 hr => by
    have := look_ref hr
    rw [okT.beside.lines, okT.beside.edits, okT.beside.job] at this
    exact this
  generalize (T.D.doc.lines.length : Int) = q1 at htx hrx
  generalize (T.D.doc.edits : Int) = q2 at htx hrx
  generalize (T.D.doc.kind : Int) = q3 at htx hrx
  go_wp2_with fail
  refine htx.mono ?_
  rintro e w3 ⟨rfl, hk3⟩
  have hM3 := hM2.kept hk3 (fun _ _ h => h)
  clear hct hfT hcj hcB hfB
  obtain ⟨hct, hfT, hblt, hrlt, hcj⟩ := hM3.reads
  go_upto_region 21 with fail
  obtain ⟨hn4, hsz4, hk4⟩ := new1 w3 (Obj.cells #[.int .i64 q1, .int .i64 q2, .int .i64 q3] viewT)
  have hM4 := hM3.kept hk4 (fun _ _ h => h)
  generalize w3.heap.size = B8 at hn4 ⊢
  generalize w3.alloc (Obj.cells #[.int .i64 q1, .int .i64 q2, .int .i64 q3] viewT) = w4 at hn4 hsz4 hk4 hM4 ⊢
  clear hct hfT hcj hsz4
  obtain ⟨hct, hfT, hblt, hrlt, hcj⟩ := hM4.reads
  go_wp2_with fail
  refine (hrx w4 hM4.ref).mono ?_
  rintro e w5 ⟨rfl, hk5⟩
  obtain ⟨hc8, hf8⟩ := cells_of (hk5.get hn4 (fun h => h))
  have hb8l := lt_of_heap (hk5.get hn4 (fun h => h))
  clear hct hfT hcj
  go_wp2
  go_ret
  exact ⟨by simp, hstay _ (((hk3.step hk4).step hk5).alloc _)⟩
end Go.Proofs.YtdpfohgkikjeaaaGreat
/- The statements' own: one step: Sync, Save. -/
namespace Go.Proofs.YtdpfohgkikjeaaaGreat
open Go.RowKit
set_option linter.unusedVariables false
set_option linter.unusedSimpArgs false

theorem sync_d {w b d fp} (h : DocR w b d fp) : Calls Tryz.prog 28 #[.pointer (some ⟨b, 0, none⟩)] w fun e w' => e = .returned (.int .i64 (d.sync.1 : Int)) ∧ DocTo w w' b fp d.sync.2 := by
  obtain ⟨va, tfp, afp, h, rfl⟩ := h
  unfold DocS.sync
  by_cases hk : d.kind ≠ 0
  · rw [if_pos hk]
    refine (sync_busy h hk).mono ?_
    rintro e w' ⟨rfl, rfl⟩
    exact ⟨rfl, h.same⟩
  · rw [if_neg hk]
    by_cases he : d.edits = 0 ∧ d.wr.known = true
    · rw [if_pos he]
      refine (sync_idle h (by omega) he.1 he.2).mono ?_
      rintro e w' ⟨rfl, rfl⟩
      exact ⟨rfl, h.same⟩
    · rw [if_neg he]
      exact sync_yes h (by omega) he
theorem save_any {w b d fp} (h : DocR w b d fp) : Calls Tryz.prog 27 #[.pointer (some ⟨b, 0, none⟩)] w fun e w' => e = .returned (.int .i64 (d.save.1 : Int)) ∧ DocTo w w' b fp d.save.2 := by
  by_cases hk : d.kind = 0
  · refine (save_d h hk).mono ?_
    rintro e w' ⟨rfl, hT⟩
    exact ⟨by unfold DocS.save; rw [if_neg (by omega)]; rfl, hT⟩
  · obtain ⟨va, tfp, afp, h, rfl⟩ := h
    unfold DocS.save
    rw [if_pos hk]
    refine (save_busy h hk).mono ?_
    rintro e w' ⟨rfl, rfl⟩
    exact ⟨rfl, h.same⟩

set_option maxRecDepth 100000 in
set_option maxHeartbeats 16000000 in
theorem plays_sync {w : World} {b : Nat} {l : TwL} {M : Nat} {fp : List Nat} {N L B : Nat} (h : WorldR w b l M fp) (all : AllOk l N L) (hM : M ≤ 900000000000) (hN : N ≤ 900000000000) (hL : L ≤ 1000000000000) (hll : l.length ≤ 1000000000) (on a : Int) (hon : RawOk on) (ha : RawOk a) (s : Str) (hs : s.length ≤ L) (r : Value) (raw : List Int) (hraw : IntsAt w B r raw) (hB : ∀ x ∈ fp, B ≤ x) :
    Calls Tryz.prog 33 #[ptrV b, .agg (opCells 9 on a s r)] w fun e w' => e = .returned (.bool true) ∧ PlayTo w w' b fp l (M + 1) (N + 501) L := by
  have h0 := h
  obtain ⟨ss, va, vs, lab, hW, hm, hfe⟩ := h
  obtain ⟨pA, cA, rfl⟩ := hW.all.slice
  have hcA : ∀ j t, l[j]? = some t → ∃ g, pA = some ⟨g, 0, none⟩ ∧ l.length ≤ cA ∧ cA ≤ 9223372036854775807 ∧ w.cell? ⟨g, j, none⟩ = some (ptrV t.1) := fun j t hj => by
    have hjl := (List.getElem?_eq_some_iff.1 hj).1
    rcases hW.all.shape with ⟨_, e0, _⟩ | ⟨g, c', hv', hc', hc2⟩
    · omega
    · simp only [Value.slice.injEq] at hv'
      obtain ⟨rfl, _, rfl⟩ := hv'
      unfold maxLen at hc2
      exact ⟨g, rfl, hc', by omega, hW.all.cell.2.2.2 j _ (by rw [List.getElem?_map, hj]; rfl)⟩
  have hc0 := (cells_of hW.cells).1 0
  have hbl := lt_of_heap hW.cells
  have hc0 : w.cell? ⟨b, 0, none⟩ = some (.slice pA l.length cA) := hc0
  clear hW hfe
  obtain ⟨hn1, hsz1, hk1⟩ := new1 w (Obj.cells (opCells 9 on a s r) opT)
  by_cases hl0 : l.length = 0
  · have hl0i : (l.length : Int) = 0 := by omega
    have hc0' := hk1.read hc0 (fun h => h)
    obtain ⟨hcB, hfB⟩ := cells_of hn1
    clear hl0
    go_enter Tryz.func33, Tryz.ntmps33
    go_upto_region 1 with fail
    generalize w.heap.size = B3 at hn1 hcB hfB ⊢
    generalize w.alloc (Obj.cells (opCells 9 on a s r) opT) = w1 at *
    go_wp2
    go_ret
    exact ⟨rfl, .same h0 hk1 all (by omega)⟩
  have hl0i : ¬ (l.length : Int) = 0 := by omega
  have hpick := fun w => pick_law on l.length _ rfl hon (by omega) (by omega) w
  have hi := pickN_lt on (n := l.length) (by omega)
  generalize pickN on l.length = i at hpick hi
  obtain ⟨⟨bt, T, ft⟩, ht⟩ : ∃ t, l[i]? = some t := ⟨l[i], by simp [hi]⟩
  obtain ⟨g, rfl, hcA1, hcA2, hcg⟩ := hcA i _ ht
  have hcg : w.cell? ⟨g, i, none⟩ = some (ptrV bt) := hcg
  have okT : T.Ok N L := all i _ ht
  clear hcA hl0
  go_enter Tryz.func33, Tryz.ntmps33
  go_upto_region 1 with fail
  have h1 := h0.kept hk1 (fun _ _ h => h)
  have hraw1 := hraw.kept hk1 (fun _ h => h.elim)
  have hc01 := hk1.read hc0 (fun h => h)
  have hcg1 := hk1.read hcg (fun h => h)
  have hfrB : ∀ x ∈ fp, x ≠ w.heap.size := fun x hx e => by have := h0.lt x hx; omega
  have hB3B : B ≤ w.heap.size := hraw.low
  generalize w.heap.size = B3 at hn1 hfrB hB3B ⊢
  generalize w.alloc (Obj.cells (opCells 9 on a s r) opT) = w1 at *
  clear hc0 hcg hsz1 hraw
  obtain ⟨hcB, hfB⟩ := cells_of hn1
  go_upto_region 8 with fail
  have hrd : ∀ W, Kept no w1 W → W.cell? ⟨b, 0, none⟩ = some (.slice (some ⟨g, 0, none⟩) l.length cA) ∧ (∀ j, W.cell? ⟨B3, j, none⟩ = (opCells 9 on a s r)[j]?) ∧ W.cell? ⟨g, i, none⟩ = some (ptrV bt) := fun W hW => ⟨hW.read hc01 (fun h => h), (cells_of (hW.get hn1 (fun h => h))).1, hW.read hcg1 (fun h => h)⟩
  clear hcB hfB
  refine wp_region3 (fun W => Kept no w1 W) [(0, true), (1, true), (2, true), (3, false), (4, true), (5, false), (6, true), (7, true), (8, true), (9, false), (10, true)] [11, 12, 13, 14] (by kernel_rfl) (by kernel_rfl) (fun _ _ d _ _ h => by cases d <;> exact h) ((Kept.refl _ _).drew) ?_
  repeat ((first | refine wpPre3_pure rfl rfl (fun W => (by go_simp; rfl)) ?_ | refine wpPre3_read rfl rfl (fun W hW => (by obtain ⟨h1, h2, h3⟩ := hrd W hW; go_simp; rfl)) ?_); simp only [Act.put, List.setIfInBounds_toArray, List.set])
  refine wpPre3_nil ?_
  have hkd : Kept no w1 w1.drew := (Kept.refl _ _).drew
  have hk2 := hk1.step hkd
  have h2 := h1.kept hkd (fun _ _ h => h)
  have hn2 := hkd.get hn1 (fun h => h)
  have hraw2 := hraw1.kept hkd (fun _ h => h.elim)
  have hcg2 := hkd.read hcg1 (fun h => h)
  clear h1 hn1 hraw1 hc01 hcg1 hrd hk1 hkd
  generalize w1.drew = w2 at *
  refine wpTail3_cons rfl rfl (fun K hK => ?_)
  go_wp2_with fail
  refine (hpick _).mono ?_
  rintro e w3 ⟨rfl, hw⟩
  rw [hw]
  clear hw hpick
  refine hK _ _ ⟨fun h => h, ?_⟩
  clear hK
  refine wpTail3_cons rfl rfl (fun K hK => ?_)
  go_wp2_with fail
  refine ⟨fun h => h, ?_⟩
  refine wpTail3_cons rfl rfl (fun K hK => ?_)
  go_wp2_with fail
  refine ⟨fun h => h, ?_⟩
  refine wpTail3_cons rfl rfl (fun K hK => ?_)
  go_wp2_with fail
  refine ⟨fun h => h, ?_⟩
  refine wpTail3_nil ?_
  clear hcg2
  obtain ⟨hT2, hft2⟩ := h2.get ht
  have hT2 : TwinR w2 bt T ft := hT2
  have hplay : ∀ (w9 : World) (T' : TwinS) (N' : Nat), N' ≤ N + 501 → TwinTo w2 w9 bt ft T' → T'.Ok N' L → PlayTo w w9 b fp l (M + 1) (N + 501) L := fun w9 T' N' hle hT hok => .twin hk2 h2 all (by omega) ht hT (hok.mono hle)
  have hstay : ∀ w9, Kept no w2 w9 → PlayTo w w9 b fp l (M + 1) (N + 501) L := fun w9 hk => .same h0 (hk2.step hk) all (by omega)
  obtain ⟨hcB, hfB⟩ := cells_of hn2
  obtain ⟨bx, br, bd, fx, fr, fd, hM2, rfl⟩ := hT2
  have hM2 : TwinM w2 bt T.D.doc T.R T.D.disk T.acts bx br bd fx fr fd := hM2
  obtain ⟨hct, hfT, hblt, hrlt, hcj⟩ := hM2.reads
  have htx := sync_d hM2.doc
  have on2 := TwinOn.start hM2
  go_wp2_with fail
  refine htx.mono ?_
  rintro e w3 ⟨rfl, hT3⟩
  obtain ⟨fx3, on3⟩ := on2.doc_to hT3
  have hdk : T.D.doc.kind = 0 → T.D.doc.beginSync.Ok := fun _ => okT.ok.doc.begins
  obtain ⟨hsame, D', hD1, hD2, hok⟩ := okT.sync hdk
  have hrx : ∀ w9 fr9, RefR w9 br T.R fr9 → Calls Tryz.prog 69 #[ptrV br] w9 fun e w' => e = .returned (.int .i64 (T.D.doc.sync.1 : Int)) ∧ RefTo w9 w' br fr9 T.R.syncC.2 := fun w9 fr9 hr => by
    rw [hsame]
    exact sync_ref hr okT.ref (by omega) hL
  generalize (T.D.doc.sync.1 : Int) = er at hrx
  clear hct hfT hcj hcB hfB htx
  go_upto_region 36 with fail
  have hrd : ∀ W, Kept no w3 W → W.cell? ⟨bt, 1, none⟩ = some (ptrV br) := fun W hW => hW.read (by rw [(cells_of on3.at_.cells).1]; rfl) (fun h => h)
  refine wp_region3 (fun W => Kept no w3 W) [(0, true), (2, true), (3, true), (4, true), (5, false)] [1, 6, 7, 8] (by kernel_rfl) (by kernel_rfl) (fun _ _ d _ _ h => by cases d <;> exact h) ((Kept.refl _ _).drew) ?_
  repeat ((first | refine wpPre3_pure rfl rfl (fun W => (by go_simp; rfl)) ?_ | refine wpPre3_read rfl rfl (fun W hW => (by have h1 := hrd W hW; go_simp; rfl)) ?_); simp only [Act.put, List.setIfInBounds_toArray, List.set])
  refine wpPre3_nil ?_
  have on4 := on3.drew
  clear hrd
  generalize w3.drew = w4 at on4 ⊢
  refine wpTail3_cons rfl rfl (fun K hK => ?_)
  go_wp2_with fail
  refine (num_any _ w4).mono ?_
  rintro e w5 ⟨rfl, hw⟩
  rw [hw]
  clear hw
  refine hK _ _ ⟨fun h => h, ?_⟩
  clear hK
  refine wpTail3_last (by kernel_rfl) rfl rfl (fun K hK => ?_)
  go_wp2_with fail
  refine (hrx _ _ on4.at_.ref).mono ?_
  rintro e w6 ⟨rfl, hT6⟩
  obtain ⟨fr6, on6⟩ := on4.ref_to hT6
  refine hK _ _ ?_
  clear hK
  refine wpTail3_last (by kernel_rfl) rfl rfl (fun K hK => ?_)
  go_wp2_with fail
  refine wpTail3_last (by kernel_rfl) rfl rfl (fun K hK => ?_)
  go_wp2_with fail
  refine wpTail3_nil ?_
  go_wp2
  go_ret
  rw [← hD1, ← hD2] at on6
  exact ⟨by simp, hplay _ ⟨D', T.R.syncC.2, T.acts⟩ (N + 1) (by omega) (TwinOn.to (T' := ⟨D', T.R.syncC.2, T.acts⟩) on6) hok⟩

set_option maxRecDepth 100000 in
set_option maxHeartbeats 16000000 in
theorem plays_save {w : World} {b : Nat} {l : TwL} {M : Nat} {fp : List Nat} {N L B : Nat} (h : WorldR w b l M fp) (all : AllOk l N L) (hM : M ≤ 900000000000) (hN : N ≤ 900000000000) (hL : L ≤ 1000000000000) (hll : l.length ≤ 1000000000) (on a : Int) (hon : RawOk on) (ha : RawOk a) (s : Str) (hs : s.length ≤ L) (r : Value) (raw : List Int) (hraw : IntsAt w B r raw) (hB : ∀ x ∈ fp, B ≤ x) :
    Calls Tryz.prog 33 #[ptrV b, .agg (opCells 11 on a s r)] w fun e w' => e = .returned (.bool true) ∧ PlayTo w w' b fp l (M + 1) (N + 501) L := by
  have h0 := h
  obtain ⟨ss, va, vs, lab, hW, hm, hfe⟩ := h
  obtain ⟨pA, cA, rfl⟩ := hW.all.slice
  have hcA : ∀ j t, l[j]? = some t → ∃ g, pA = some ⟨g, 0, none⟩ ∧ l.length ≤ cA ∧ cA ≤ 9223372036854775807 ∧ w.cell? ⟨g, j, none⟩ = some (ptrV t.1) := fun j t hj => by
    have hjl := (List.getElem?_eq_some_iff.1 hj).1
    rcases hW.all.shape with ⟨_, e0, _⟩ | ⟨g, c', hv', hc', hc2⟩
    · omega
    · simp only [Value.slice.injEq] at hv'
      obtain ⟨rfl, _, rfl⟩ := hv'
      unfold maxLen at hc2
      exact ⟨g, rfl, hc', by omega, hW.all.cell.2.2.2 j _ (by rw [List.getElem?_map, hj]; rfl)⟩
  have hc0 := (cells_of hW.cells).1 0
  have hbl := lt_of_heap hW.cells
  have hc0 : w.cell? ⟨b, 0, none⟩ = some (.slice pA l.length cA) := hc0
  clear hW hfe
  obtain ⟨hn1, hsz1, hk1⟩ := new1 w (Obj.cells (opCells 11 on a s r) opT)
  by_cases hl0 : l.length = 0
  · have hl0i : (l.length : Int) = 0 := by omega
    have hc0' := hk1.read hc0 (fun h => h)
    obtain ⟨hcB, hfB⟩ := cells_of hn1
    clear hl0
    go_enter Tryz.func33, Tryz.ntmps33
    go_upto_region 1 with fail
    generalize w.heap.size = B3 at hn1 hcB hfB ⊢
    generalize w.alloc (Obj.cells (opCells 11 on a s r) opT) = w1 at *
    go_wp2
    go_ret
    exact ⟨rfl, .same h0 hk1 all (by omega)⟩
  have hl0i : ¬ (l.length : Int) = 0 := by omega
  have hpick := fun w => pick_law on l.length _ rfl hon (by omega) (by omega) w
  have hi := pickN_lt on (n := l.length) (by omega)
  generalize pickN on l.length = i at hpick hi
  obtain ⟨⟨bt, T, ft⟩, ht⟩ : ∃ t, l[i]? = some t := ⟨l[i], by simp [hi]⟩
  obtain ⟨g, rfl, hcA1, hcA2, hcg⟩ := hcA i _ ht
  have hcg : w.cell? ⟨g, i, none⟩ = some (ptrV bt) := hcg
  have okT : T.Ok N L := all i _ ht
  clear hcA hl0
  go_enter Tryz.func33, Tryz.ntmps33
  go_upto_region 1 with fail
  have h1 := h0.kept hk1 (fun _ _ h => h)
  have hraw1 := hraw.kept hk1 (fun _ h => h.elim)
  have hc01 := hk1.read hc0 (fun h => h)
  have hcg1 := hk1.read hcg (fun h => h)
  have hfrB : ∀ x ∈ fp, x ≠ w.heap.size := fun x hx e => by have := h0.lt x hx; omega
  have hB3B : B ≤ w.heap.size := hraw.low
  generalize w.heap.size = B3 at hn1 hfrB hB3B ⊢
  generalize w.alloc (Obj.cells (opCells 11 on a s r) opT) = w1 at *
  clear hc0 hcg hsz1 hraw
  obtain ⟨hcB, hfB⟩ := cells_of hn1
  go_upto_region 8 with fail
  have hrd : ∀ W, Kept no w1 W → W.cell? ⟨b, 0, none⟩ = some (.slice (some ⟨g, 0, none⟩) l.length cA) ∧ (∀ j, W.cell? ⟨B3, j, none⟩ = (opCells 11 on a s r)[j]?) ∧ W.cell? ⟨g, i, none⟩ = some (ptrV bt) := fun W hW => ⟨hW.read hc01 (fun h => h), (cells_of (hW.get hn1 (fun h => h))).1, hW.read hcg1 (fun h => h)⟩
  clear hcB hfB
  refine wp_region3 (fun W => Kept no w1 W) [(0, true), (1, true), (2, true), (3, false), (4, true), (5, false), (6, true), (7, true), (8, true), (9, false), (10, true)] [11, 12, 13, 14] (by kernel_rfl) (by kernel_rfl) (fun _ _ d _ _ h => by cases d <;> exact h) ((Kept.refl _ _).drew) ?_
  repeat ((first | refine wpPre3_pure rfl rfl (fun W => (by go_simp; rfl)) ?_ | refine wpPre3_read rfl rfl (fun W hW => (by obtain ⟨h1, h2, h3⟩ := hrd W hW; go_simp; rfl)) ?_); simp only [Act.put, List.setIfInBounds_toArray, List.set])
  refine wpPre3_nil ?_
  have hkd : Kept no w1 w1.drew := (Kept.refl _ _).drew
  have hk2 := hk1.step hkd
  have h2 := h1.kept hkd (fun _ _ h => h)
  have hn2 := hkd.get hn1 (fun h => h)
  have hraw2 := hraw1.kept hkd (fun _ h => h.elim)
  have hcg2 := hkd.read hcg1 (fun h => h)
  clear h1 hn1 hraw1 hc01 hcg1 hrd hk1 hkd
  generalize w1.drew = w2 at *
  refine wpTail3_cons rfl rfl (fun K hK => ?_)
  go_wp2_with fail
  refine (hpick _).mono ?_
  rintro e w3 ⟨rfl, hw⟩
  rw [hw]
  clear hw hpick
  refine hK _ _ ⟨fun h => h, ?_⟩
  clear hK
  refine wpTail3_cons rfl rfl (fun K hK => ?_)
  go_wp2_with fail
  refine ⟨fun h => h, ?_⟩
  refine wpTail3_cons rfl rfl (fun K hK => ?_)
  go_wp2_with fail
  refine ⟨fun h => h, ?_⟩
  refine wpTail3_cons rfl rfl (fun K hK => ?_)
  go_wp2_with fail
  refine ⟨fun h => h, ?_⟩
  refine wpTail3_nil ?_
  clear hcg2
  obtain ⟨hT2, hft2⟩ := h2.get ht
  have hT2 : TwinR w2 bt T ft := hT2
  have hplay : ∀ (w9 : World) (T' : TwinS) (N' : Nat), N' ≤ N + 501 → TwinTo w2 w9 bt ft T' → T'.Ok N' L → PlayTo w w9 b fp l (M + 1) (N + 501) L := fun w9 T' N' hle hT hok => .twin hk2 h2 all (by omega) ht hT (hok.mono hle)
  have hstay : ∀ w9, Kept no w2 w9 → PlayTo w w9 b fp l (M + 1) (N + 501) L := fun w9 hk => .same h0 (hk2.step hk) all (by omega)
  obtain ⟨hcB, hfB⟩ := cells_of hn2
  obtain ⟨bx, br, bd, fx, fr, fd, hM2, rfl⟩ := hT2
  have hM2 : TwinM w2 bt T.D.doc T.R T.D.disk T.acts bx br bd fx fr fd := hM2
  obtain ⟨hct, hfT, hblt, hrlt, hcj⟩ := hM2.reads
  have htx := save_any hM2.doc
  have on2 := TwinOn.start hM2
  go_wp2_with fail
  refine htx.mono ?_
  rintro e w3 ⟨rfl, hT3⟩
  obtain ⟨fx3, on3⟩ := on2.doc_to hT3
  have hdk : T.D.doc.kind = 0 → T.D.doc.save.2.Ok := fun e => okT.ok.doc.saves e
  obtain ⟨hsame, D', hD1, hD2, hok⟩ := okT.save hdk
  have hrx : ∀ w9 fr9, RefR w9 br T.R fr9 → Calls Tryz.prog 71 #[ptrV br] w9 fun e w' => e = .returned (.int .i64 (T.D.doc.save.1 : Int)) ∧ RefTo w9 w' br fr9 T.R.save.2 := fun w9 fr9 hr => by
    rw [hsame]
    exact save_ref hr okT.ref
  generalize (T.D.doc.save.1 : Int) = er at hrx
  clear hct hfT hcj hcB hfB htx
  go_upto_region 44 with fail
  have hrd : ∀ W, Kept no w3 W → W.cell? ⟨bt, 1, none⟩ = some (ptrV br) := fun W hW => hW.read (by rw [(cells_of on3.at_.cells).1]; rfl) (fun h => h)
  refine wp_region3 (fun W => Kept no w3 W) [(0, true), (2, true), (3, true), (4, true), (5, false)] [1, 6, 7, 8] (by kernel_rfl) (by kernel_rfl) (fun _ _ d _ _ h => by cases d <;> exact h) ((Kept.refl _ _).drew) ?_
  repeat ((first | refine wpPre3_pure rfl rfl (fun W => (by go_simp; rfl)) ?_ | refine wpPre3_read rfl rfl (fun W hW => (by have h1 := hrd W hW; go_simp; rfl)) ?_); simp only [Act.put, List.setIfInBounds_toArray, List.set])
  refine wpPre3_nil ?_
  have on4 := on3.drew
  clear hrd
  generalize w3.drew = w4 at on4 ⊢
  refine wpTail3_cons rfl rfl (fun K hK => ?_)
  go_wp2_with fail
  refine (num_any _ w4).mono ?_
  rintro e w5 ⟨rfl, hw⟩
  rw [hw]
  clear hw
  refine hK _ _ ⟨fun h => h, ?_⟩
  clear hK
  refine wpTail3_last (by kernel_rfl) rfl rfl (fun K hK => ?_)
  go_wp2_with fail
  refine (hrx _ _ on4.at_.ref).mono ?_
  rintro e w6 ⟨rfl, hT6⟩
  obtain ⟨fr6, on6⟩ := on4.ref_to hT6
  refine hK _ _ ?_
  clear hK
  refine wpTail3_last (by kernel_rfl) rfl rfl (fun K hK => ?_)
  go_wp2_with fail
  refine wpTail3_last (by kernel_rfl) rfl rfl (fun K hK => ?_)
  go_wp2_with fail
  refine wpTail3_nil ?_
  go_wp2
  go_ret
  rw [← hD1, ← hD2] at on6
  exact ⟨by simp, hplay _ ⟨D', T.R.save.2, T.acts⟩ (N + 1) (by omega) (TwinOn.to (T' := ⟨D', T.R.save.2, T.acts⟩) on6) hok⟩
end Go.Proofs.YtdpfohgkikjeaaaGreat
/- The statements' own: one step: Act. -/
namespace Go.Proofs.YtdpfohgkikjeaaaGreat
open Go.RowKit
set_option linter.unusedVariables false
set_option linter.unusedSimpArgs false

set_option maxRecDepth 100000 in
set_option maxHeartbeats 16000000 in
theorem plays_act {w : World} {b : Nat} {l : TwL} {M : Nat} {fp : List Nat} {N L B : Nat} (h : WorldR w b l M fp) (all : AllOk l N L) (hM : M ≤ 900000000000) (hN : N ≤ 900000000000) (hL : L ≤ 1000000000000) (hll : l.length ≤ 1000000000) (on a : Int) (hon : RawOk on) (ha : RawOk a) (s : Str) (hs : s.length ≤ L) (r : Value) (raw : List Int) (hraw : IntsAt w B r raw) (hB : ∀ x ∈ fp, B ≤ x) :
    Calls Tryz.prog 33 #[ptrV b, .agg (opCells 10 on a s r)] w fun e w' => e = .returned (.bool true) ∧ PlayTo w w' b fp l (M + 1) (N + 501) L := by
  have h0 := h
  obtain ⟨ss, va, vs, lab, hW, hm, hfe⟩ := h
  obtain ⟨pA, cA, rfl⟩ := hW.all.slice
  have hcA : ∀ j t, l[j]? = some t → ∃ g, pA = some ⟨g, 0, none⟩ ∧ l.length ≤ cA ∧ cA ≤ 9223372036854775807 ∧ w.cell? ⟨g, j, none⟩ = some (ptrV t.1) := fun j t hj => by
    have hjl := (List.getElem?_eq_some_iff.1 hj).1
    rcases hW.all.shape with ⟨_, e0, _⟩ | ⟨g, c', hv', hc', hc2⟩
    · omega
    · simp only [Value.slice.injEq] at hv'
      obtain ⟨rfl, _, rfl⟩ := hv'
      unfold maxLen at hc2
      exact ⟨g, rfl, hc', by omega, hW.all.cell.2.2.2 j _ (by rw [List.getElem?_map, hj]; rfl)⟩
  have hc0 := (cells_of hW.cells).1 0
  have hbl := lt_of_heap hW.cells
  have hc0 : w.cell? ⟨b, 0, none⟩ = some (.slice pA l.length cA) := hc0
  clear hW hfe
  obtain ⟨hn1, hsz1, hk1⟩ := new1 w (Obj.cells (opCells 10 on a s r) opT)
  by_cases hl0 : l.length = 0
  · have hl0i : (l.length : Int) = 0 := by omega
    have hc0' := hk1.read hc0 (fun h => h)
    obtain ⟨hcB, hfB⟩ := cells_of hn1
    clear hl0
    go_enter Tryz.func33, Tryz.ntmps33
    go_upto_region 1 with fail
    generalize w.heap.size = B3 at hn1 hcB hfB ⊢
    generalize w.alloc (Obj.cells (opCells 10 on a s r) opT) = w1 at *
    go_wp2
    go_ret
    exact ⟨rfl, .same h0 hk1 all (by omega)⟩
  have hl0i : ¬ (l.length : Int) = 0 := by omega
  have hpick := fun w => pick_law on l.length _ rfl hon (by omega) (by omega) w
  have hi := pickN_lt on (n := l.length) (by omega)
  generalize pickN on l.length = i at hpick hi
  obtain ⟨⟨bt, T, ft⟩, ht⟩ : ∃ t, l[i]? = some t := ⟨l[i], by simp [hi]⟩
  obtain ⟨g, rfl, hcA1, hcA2, hcg⟩ := hcA i _ ht
  have hcg : w.cell? ⟨g, i, none⟩ = some (ptrV bt) := hcg
  have okT : T.Ok N L := all i _ ht
  clear hcA hl0
  go_enter Tryz.func33, Tryz.ntmps33
  go_upto_region 1 with fail
  have h1 := h0.kept hk1 (fun _ _ h => h)
  have hraw1 := hraw.kept hk1 (fun _ h => h.elim)
  have hc01 := hk1.read hc0 (fun h => h)
  have hcg1 := hk1.read hcg (fun h => h)
  have hfrB : ∀ x ∈ fp, x ≠ w.heap.size := fun x hx e => by have := h0.lt x hx; omega
  have hB3B : B ≤ w.heap.size := hraw.low
  generalize w.heap.size = B3 at hn1 hfrB hB3B ⊢
  generalize w.alloc (Obj.cells (opCells 10 on a s r) opT) = w1 at *
  clear hc0 hcg hsz1 hraw
  obtain ⟨hcB, hfB⟩ := cells_of hn1
  go_upto_region 8 with fail
  have hrd : ∀ W, Kept no w1 W → W.cell? ⟨b, 0, none⟩ = some (.slice (some ⟨g, 0, none⟩) l.length cA) ∧ (∀ j, W.cell? ⟨B3, j, none⟩ = (opCells 10 on a s r)[j]?) ∧ W.cell? ⟨g, i, none⟩ = some (ptrV bt) := fun W hW => ⟨hW.read hc01 (fun h => h), (cells_of (hW.get hn1 (fun h => h))).1, hW.read hcg1 (fun h => h)⟩
  clear hcB hfB
  refine wp_region3 (fun W => Kept no w1 W) [(0, true), (1, true), (2, true), (3, false), (4, true), (5, false), (6, true), (7, true), (8, true), (9, false), (10, true)] [11, 12, 13, 14] (by kernel_rfl) (by kernel_rfl) (fun _ _ d _ _ h => by cases d <;> exact h) ((Kept.refl _ _).drew) ?_
  repeat ((first | refine wpPre3_pure rfl rfl (fun W => (by go_simp; rfl)) ?_ | refine wpPre3_read rfl rfl (fun W hW => (by obtain ⟨h1, h2, h3⟩ := hrd W hW; go_simp; rfl)) ?_); simp only [Act.put, List.setIfInBounds_toArray, List.set])
  refine wpPre3_nil ?_
  have hkd : Kept no w1 w1.drew := (Kept.refl _ _).drew
  have hk2 := hk1.step hkd
  have h2 := h1.kept hkd (fun _ _ h => h)
  have hn2 := hkd.get hn1 (fun h => h)
  have hraw2 := hraw1.kept hkd (fun _ h => h.elim)
  have hcg2 := hkd.read hcg1 (fun h => h)
  clear h1 hn1 hraw1 hc01 hcg1 hrd hk1 hkd
  generalize w1.drew = w2 at *
  refine wpTail3_cons rfl rfl (fun K hK => ?_)
  go_wp2_with fail
  refine (hpick _).mono ?_
  rintro e w3 ⟨rfl, hw⟩
  rw [hw]
  clear hw hpick
  refine hK _ _ ⟨fun h => h, ?_⟩
  clear hK
  refine wpTail3_cons rfl rfl (fun K hK => ?_)
  go_wp2_with fail
  refine ⟨fun h => h, ?_⟩
  refine wpTail3_cons rfl rfl (fun K hK => ?_)
  go_wp2_with fail
  refine ⟨fun h => h, ?_⟩
  refine wpTail3_cons rfl rfl (fun K hK => ?_)
  go_wp2_with fail
  refine ⟨fun h => h, ?_⟩
  refine wpTail3_nil ?_
  clear hcg2
  obtain ⟨hT2, hft2⟩ := h2.get ht
  have hT2 : TwinR w2 bt T ft := hT2
  have hplay : ∀ (w9 : World) (T' : TwinS) (N' : Nat), N' ≤ N + 501 → TwinTo w2 w9 bt ft T' → T'.Ok N' L → PlayTo w w9 b fp l (M + 1) (N + 501) L := fun w9 T' N' hle hT hok => .twin hk2 h2 all (by omega) ht hT (hok.mono hle)
  have hstay : ∀ w9, Kept no w2 w9 → PlayTo w w9 b fp l (M + 1) (N + 501) L := fun w9 hk => .same h0 (hk2.step hk) all (by omega)
  obtain ⟨hcB, hfB⟩ := cells_of hn2
  obtain ⟨bx, br, bd, fx, fr, fd, hM2, rfl⟩ := hT2
  have hM2 : TwinM w2 bt T.D.doc T.R T.D.disk T.acts bx br bd fx fr fd := hM2
  obtain ⟨hct, hfT, hblt, hrlt, hcj⟩ := hM2.reads
  have hA : ∃ (k a' : Int) (d : Str) (is : Bool), (∀ w9, DocR w9 bx T.D.doc fx → Calls Tryz.prog 42 #[ptrV bx] w9 fun e w' => e = .returned (.tuple #[.agg #[.int .i64 k, .int .i64 a', .string ⟨d.toArray⟩], .bool is]) ∧ Kept no w9 w') ∧ (∀ w9, TwinM w9 bt T.D.doc T.R T.D.disk T.acts bx br bd fx fr fd → Calls Tryz.prog 70 #[ptrV bt, .agg #[.int .i64 k, .int .i64 a', .string ⟨d.toArray⟩], .bool is] w9 fun e w' => e = .returned (.bool true) ∧ Kept no w9 w') := by
    by_cases hk : T.D.doc.kind = 0
    · exact ⟨0, 0, [], false, fun w9 hd => act_doc_no hd hk, fun w9 hm => act_t_no hm (by rw [okT.beside.job]; exact hk)⟩
    · obtain ⟨a, A, hA⟩ := okT.ok.next hk
      exact ⟨a.kind, a.at_, a.data, true, fun w9 hd => act_doc_yes hd a A hk hA, fun w9 hm => act_t okT hA w9 _ _ _ _ _ _ _ hm⟩
  obtain ⟨k1, k2, dd, is, hA1, hA2⟩ := hA
  go_wp2_with fail
  refine (hA1 w2 hM2.doc).mono ?_
  rintro e w3 ⟨rfl, hk3⟩
  have hM3 := hM2.kept hk3 (fun _ _ h => h)
  clear hct hfT hcj hcB hfB
  obtain ⟨hct, hfT, hblt, hrlt, hcj⟩ := hM3.reads
  go_upto_region 39 with fail
  obtain ⟨hn4, hsz4, hk4⟩ := new1 w3 (Obj.cells #[.int .i64 k1, .int .i64 k2, .string ⟨dd.toArray⟩] actT)
  have hM4 := hM3.kept hk4 (fun _ _ h => h)
  generalize w3.heap.size = B15 at hn4 ⊢
  generalize w3.alloc (Obj.cells #[.int .i64 k1, .int .i64 k2, .string ⟨dd.toArray⟩] actT) = w4 at hn4 hsz4 hk4 hM4 ⊢
  clear hct hfT hcj hsz4
  obtain ⟨hct, hfT, hblt, hrlt, hcj⟩ := hM4.reads
  go_wp2_with fail
  refine (hA1 w4 hM4.doc).mono ?_
  rintro e w5 ⟨rfl, hk5⟩
  have hM5 := hM4.kept hk5 (fun _ _ h => h)
  have hn5 := hk5.get hn4 (fun h => h)
  clear hct hfT hcj
  obtain ⟨hct, hfT, hblt, hrlt, hcj⟩ := hM5.reads
  go_upto_region 40 with fail
  obtain ⟨hn6, hsz6, hk6⟩ := new1 w5 (Obj.cells #[.int .i64 k1, .int .i64 k2, .string ⟨dd.toArray⟩] actT)
  have hM6 := hM5.kept hk6 (fun _ _ h => h)
  have hn5' := hk6.get hn5 (fun h => h)
  generalize w5.heap.size = B17 at hn6 ⊢
  generalize w5.alloc (Obj.cells #[.int .i64 k1, .int .i64 k2, .string ⟨dd.toArray⟩] actT) = w6 at hn6 hsz6 hk6 hM6 hn5' ⊢
  clear hct hfT hcj hsz6
  obtain ⟨hc15, hf15⟩ := cells_of hn5'
  go_wp2_with fail
  refine (hA2 w6 hM6).mono ?_
  rintro e w7 ⟨rfl, hk7⟩
  clear hc15 hf15
  obtain ⟨hc15, hf15⟩ := cells_of (hk7.get hn5' (fun h => h))
  obtain ⟨hc17, hf17⟩ := cells_of (hk7.get hn6 (fun h => h))
  go_wp2
  go_ret
  exact ⟨by simp, hstay _ ((((hk3.step hk4).step hk5).step hk6).step hk7)⟩
end Go.Proofs.YtdpfohgkikjeaaaGreat

/- Part 43 of the proof: see its parts. -/
import Derived.Test.YtdpfohgkikjeaaaGreatV39
import Derived.Test.YtdpfohgkikjeaaaGreatV40
import Derived.Test.YtdpfohgkikjeaaaGreatV41
import Derived.Test.YtdpfohgkikjeaaaGreatV42
/- The statements' own: one step: acts that are done. -/
namespace Go.Proofs.YtdpfohgkikjeaaaGreat
open Go.RowKit
set_option linter.unusedVariables false
set_option linter.unusedSimpArgs false

set_option maxRecDepth 100000 in
set_option maxHeartbeats 16000000 in
theorem plays_done {w : World} {b : Nat} {l : TwL} {M : Nat} {fp : List Nat} {N L B : Nat} (h : WorldR w b l M fp) (all : AllOk l N L) (hM : M ≤ 900000000000) (hN : N ≤ 900000000000) (hL : L ≤ 1000000000000) (hll : l.length ≤ 1000000000) (on a : Int) (hon : RawOk on) (ha : RawOk a) (s : Str) (hs : s.length ≤ L) (r : Value) (raw : List Int) (hraw : IntsAt w B r raw) (hB : ∀ x ∈ fp, B ≤ x) :
    Calls Tryz.prog 33 #[ptrV b, .agg (opCells 8 on a s r)] w fun e w' => e = .returned (.bool true) ∧ PlayTo w w' b fp l (M + 1) (N + 501) L := by
  have h0 := h
  obtain ⟨ss, va, vs, lab, hW, hm, hfe⟩ := h
  obtain ⟨pA, cA, rfl⟩ := hW.all.slice
  have hcA : ∀ j t, l[j]? = some t → ∃ g, pA = some ⟨g, 0, none⟩ ∧ l.length ≤ cA ∧ cA ≤ 9223372036854775807 ∧ w.cell? ⟨g, j, none⟩ = some (ptrV t.1) := fun j t hj => by
    have hjl := (List.getElem?_eq_some_iff.1 hj).1
    rcases hW.all.shape with ⟨_, e0, _⟩ | ⟨g, c', hv', hc', hc2⟩
    · omega
    · simp only [Value.slice.injEq] at hv'
      obtain ⟨rfl, _, rfl⟩ := hv'
      unfold maxLen at hc2
      exact ⟨g, rfl, hc', by omega, hW.all.cell.2.2.2 j _ (by rw [List.getElem?_map, hj]; rfl)⟩
  have hc0 := (cells_of hW.cells).1 0
  have hbl := lt_of_heap hW.cells
  have hc0 : w.cell? ⟨b, 0, none⟩ = some (.slice pA l.length cA) := hc0
  clear hW hfe
  obtain ⟨hn1, hsz1, hk1⟩ := new1 w (Obj.cells (opCells 8 on a s r) opT)
  by_cases hl0 : l.length = 0
  · have hl0i : (l.length : Int) = 0 := by omega
    have hc0' := hk1.read hc0 (fun h => h)
    obtain ⟨hcB, hfB⟩ := cells_of hn1
    clear hl0
    go_enter Tryz.func33, Tryz.ntmps33
    go_upto_region 1 with fail
    generalize w.heap.size = B3 at hn1 hcB hfB ⊢
    generalize w.alloc (Obj.cells (opCells 8 on a s r) opT) = w1 at *
    go_wp2
    go_ret
    exact ⟨rfl, .same h0 hk1 all (by omega)⟩
  have hl0i : ¬ (l.length : Int) = 0 := by omega
  have hpick := fun w => pick_law on l.length _ rfl hon (by omega) (by omega) w
  have hi := pickN_lt on (n := l.length) (by omega)
  generalize pickN on l.length = i at hpick hi
  obtain ⟨⟨bt, T, ft⟩, ht⟩ : ∃ t, l[i]? = some t := ⟨l[i], by simp [hi]⟩
  obtain ⟨g, rfl, hcA1, hcA2, hcg⟩ := hcA i _ ht
  have hcg : w.cell? ⟨g, i, none⟩ = some (ptrV bt) := hcg
  have okT : T.Ok N L := all i _ ht
  clear hcA hl0
  go_enter Tryz.func33, Tryz.ntmps33
  go_upto_region 1 with fail
  have h1 := h0.kept hk1 (fun _ _ h => h)
  have hraw1 := hraw.kept hk1 (fun _ h => h.elim)
  have hc01 := hk1.read hc0 (fun h => h)
  have hcg1 := hk1.read hcg (fun h => h)
  have hfrB : ∀ x ∈ fp, x ≠ w.heap.size := fun x hx e => by have := h0.lt x hx; omega
  have hB3B : B ≤ w.heap.size := hraw.low
  generalize w.heap.size = B3 at hn1 hfrB hB3B ⊢
  generalize w.alloc (Obj.cells (opCells 8 on a s r) opT) = w1 at *
  clear hc0 hcg hsz1 hraw
  obtain ⟨hcB, hfB⟩ := cells_of hn1
  go_upto_region 8 with fail
  have hrd : ∀ W, Kept no w1 W → W.cell? ⟨b, 0, none⟩ = some (.slice (some ⟨g, 0, none⟩) l.length cA) ∧ (∀ j, W.cell? ⟨B3, j, none⟩ = (opCells 8 on a s r)[j]?) ∧ W.cell? ⟨g, i, none⟩ = some (ptrV bt) := fun W hW => ⟨hW.read hc01 (fun h => h), (cells_of (hW.get hn1 (fun h => h))).1, hW.read hcg1 (fun h => h)⟩
  clear hcB hfB
  refine wp_region3 (fun W => Kept no w1 W) [(0, true), (1, true), (2, true), (3, false), (4, true), (5, false), (6, true), (7, true), (8, true), (9, false), (10, true)] [11, 12, 13, 14] (by kernel_rfl) (by kernel_rfl) (fun _ _ d _ _ h => by cases d <;> exact h) ((Kept.refl _ _).drew) ?_
  repeat ((first | refine wpPre3_pure rfl rfl (fun W => (by go_simp; rfl)) ?_ | refine wpPre3_read rfl rfl (fun W hW => (by obtain ⟨h1, h2, h3⟩ := hrd W hW; go_simp; rfl)) ?_); simp only [Act.put, List.setIfInBounds_toArray, List.set])
  refine wpPre3_nil ?_
  have hkd : Kept no w1 w1.drew := (Kept.refl _ _).drew
  have hk2 := hk1.step hkd
  have h2 := h1.kept hkd (fun _ _ h => h)
  have hn2 := hkd.get hn1 (fun h => h)
  have hraw2 := hraw1.kept hkd (fun _ h => h.elim)
  have hcg2 := hkd.read hcg1 (fun h => h)
  clear h1 hn1 hraw1 hc01 hcg1 hrd hk1 hkd
  generalize w1.drew = w2 at *
  refine wpTail3_cons rfl rfl (fun K hK => ?_)
  go_wp2_with fail
  refine (hpick _).mono ?_
  rintro e w3 ⟨rfl, hw⟩
  rw [hw]
  clear hw hpick
  refine hK _ _ ⟨fun h => h, ?_⟩
  clear hK
  refine wpTail3_cons rfl rfl (fun K hK => ?_)
  go_wp2_with fail
  refine ⟨fun h => h, ?_⟩
  refine wpTail3_cons rfl rfl (fun K hK => ?_)
  go_wp2_with fail
  refine ⟨fun h => h, ?_⟩
  refine wpTail3_cons rfl rfl (fun K hK => ?_)
  go_wp2_with fail
  refine ⟨fun h => h, ?_⟩
  refine wpTail3_nil ?_
  clear hcg2
  obtain ⟨hT2, hft2⟩ := h2.get ht
  have hT2 : TwinR w2 bt T ft := hT2
  have hplay : ∀ (w9 : World) (T' : TwinS) (N' : Nat), N' ≤ N + 501 → TwinTo w2 w9 bt ft T' → T'.Ok N' L → PlayTo w w9 b fp l (M + 1) (N + 501) L := fun w9 T' N' hle hT hok => .twin hk2 h2 all (by omega) ht hT (hok.mono hle)
  have hstay : ∀ w9, Kept no w2 w9 → PlayTo w w9 b fp l (M + 1) (N + 501) L := fun w9 hk => .same h0 (hk2.step hk) all (by omega)
  obtain ⟨hcB, hfB⟩ := cells_of hn2
  have hstart : WorldTo w2 w2 b fp l M := WorldTo.same h2 (Kept.refl _ _)
  go_upto_region 24 with fail
  clear hcB hfB
  have hrd : ∀ wr, Kept (fun x => x ∈ fp) w2 wr → wr.heap[B3]? = some (Obj.cells (opCells 8 on a s r) opT (0, 0)) ∧ IntsAt wr B r raw := fun wr hk => ⟨hk.get hn2 (fun hx => hfrB _ hx rfl), hraw2.kept hk hB⟩
  go_wp2_with fail
  go_loopw [10] (fun s10 wr => ∃ (k : Nat) (l' : TwL) (T' : TwinS) (f' : List Nat), k ≤ 500 ∧ s10 = .int .i64 ((k : Nat) : Int) ∧ WorldTo w2 wr b fp l' M ∧ l'.length = l.length ∧ AllOk l' (N + k) L ∧ l'[i]? = some (bt, T', f')) (fun s10 _ => 500 - (intOf s10).toNat)
  case atStart => exact ⟨0, l, T, ft, by omega, rfl, hstart, rfl, all, ht⟩
  case round =>
    obtain ⟨k, l', T', f', hk5, rfl, hW, hll', hall', ht'⟩ := hrel
    have hfin : ∀ (l9 : TwL) (w9 : World) (k9 : Nat), k9 ≤ 500 → WorldTo w2 w9 b fp l9 M → l9.length = l.length → AllOk l9 (N + k9) L → PlayTo w w9 b fp l (M + 1) (N + 501) L := fun l9 w9 k9 hk9 h9 hl9 hall9 => ⟨l9, (h9.after hk2).mono (Nat.le_succ M), hl9, hall9.mono (by omega)⟩
    obtain ⟨hnr, hrr⟩ := hrd wr hW.kept
    obtain ⟨hcB, hfB⟩ := cells_of hnr
    by_cases hlt : (k : Int) < a
    · by_cases hlt5 : k < 500
      · have hlt5i : (k : Int) < 500 := by omega
        obtain ⟨⟨fp1, hR1, hx1⟩, hkk⟩ := hW
        obtain ⟨hT1, _⟩ := hR1.get ht'
        have hT1 : TwinR wr bt T' f' := hT1
        have ok1 : T'.Ok (N + k) L := hall' i _ ht'
        have hdn := fun good al => done_t hT1 ok1 (by omega) hL good al
        have hrs : (∃ p c, r = .slice p 0 c ∧ raw = []) ∨ ∃ b2 o c x rest, r = .slice (some ⟨b2, o, none⟩) raw.length c ∧ raw = x :: rest ∧ wr.cell? ⟨b2, o, none⟩ = some (.int .i64 x) ∧ (∀ y rest', rest = y :: rest' → wr.cell? ⟨b2, o + 1, none⟩ = some (.int .i64 y)) := by
          rcases hrr.at_ with ⟨p, c, e1, e2⟩ | ⟨b2, o, c, e1, _, e2⟩
          · exact .inl ⟨p, c, e1, e2⟩
          · cases hraw : raw with
            | nil => exact .inl ⟨_, _, by rw [e1, hraw]; rfl, rfl⟩
            | cons x rest => exact .inr ⟨b2, o, c, x, rest, by rw [e1, hraw], rfl, e2 0 x (by rw [hraw]; rfl), fun y rest' hy => e2 1 y (by rw [hraw, hy]; rfl)⟩
        have hfewr : raw.length ≤ 9223372036854775807 := hrr.few
        clear hrr hrd
        go_upto_region 27 with fail
        go_cut [11] (fun s11 wx => (∃ gd : Bool, s11 = .bool gd) ∧ wx = wr)
        case first =>
          rcases hrs with ⟨p, c, rfl, rfl⟩ | ⟨b2, o, c, x, rest, rfl, rfl, hx0, _⟩
          · go_wp2
            go_meet
            case rel => exact ⟨⟨_, rfl⟩, rfl⟩
          · have hne : ¬ (((x :: rest).length : Nat) : Int) = 0 := by simp only [List.length_cons]; omega
            have hpos : 0 < (x :: rest).length := by simp
            generalize (x :: rest).length = m at *
            go_wp2
            go_meet
            case rel => exact ⟨⟨_, rfl⟩, rfl⟩
        case rest =>
        obtain ⟨⟨gd, rfl⟩, rfl⟩ := hcut
        go_upto_region 28 with fail
        go_cut [12] (fun s12 wx => (∃ ad : Bool, s12 = .bool ad) ∧ wx = wc)
        case first =>
          rcases hrs with ⟨p, c, rfl, rfl⟩ | ⟨b2, o, c, x, rest, rfl, rfl, _, hx1'⟩
          · go_wp2
            go_meet
            case rel => exact ⟨⟨_, rfl⟩, rfl⟩
          · cases rest with
            | nil =>
              have hne : ¬ ((([x] : List Int).length : Nat) : Int) > 1 := by simp
              clear hx1'
              go_wp2
              go_meet
              case rel => exact ⟨⟨_, rfl⟩, rfl⟩
            | cons y rest' =>
              have hy := hx1' y rest' rfl
              have hne : (((x :: y :: rest').length : Nat) : Int) > 1 := by simp only [List.length_cons]; omega
              have hpos : 1 < (x :: y :: rest').length := by simp
              clear hx1'
              generalize (x :: y :: rest').length = m at *
              go_wp2
              go_meet
              case rel => exact ⟨⟨_, rfl⟩, rfl⟩
        case rest =>
        obtain ⟨⟨ad, rfl⟩, rfl⟩ := hcut
        clear hcB hfB hrs
        go_wp2_with fail
        refine (hdn gd ad).mono ?_
        rintro e w3 ⟨rfl, T3, hT3, ok3⟩
        obtain ⟨f3, hW3⟩ := hR1.twin ht' hT3
        obtain ⟨fx3, hR3, _⟩ := hT3.ex
        obtain ⟨bx, br, bd, fx, fr, fd, hM3, _⟩ := hR3
        obtain ⟨hct, hfT, hblt, hrlt, hcj⟩ := hM3.reads
        have hW3' := WorldTo.step hx1 hkk hW3
        have hil : i < l'.length := (List.getElem?_eq_some_iff.1 ht').1
        have hall3 : AllOk (l'.set i (bt, T3, f3)) (N + (k + 1)) L := hall'.set (by omega) ok3
        by_cases hj : T3.R.job = 0
        · have hji : (T3.R.job : Int) = 0 := by omega
          clear hj
          go_wp2
          go_ret
          exact ⟨rfl, hfin _ _ (k + 1) (by omega) hW3' (by rw [List.length_set]; exact hll') hall3⟩
        · have hji : ¬ (T3.R.job : Int) = 0 := by omega
          clear hj
          go_wp2
          exact ⟨⟨k + 1, l'.set i (bt, T3, f3), T3, f3, by omega, by go_num, hW3', by rw [List.length_set]; exact hll', hall3, List.getElem?_set_self hil⟩, by simp [intOf]; omega⟩
      · have hlt5i : ¬ (k : Int) < 500 := by omega
        go_wp2
        go_ret
        exact ⟨rfl, hfin _ _ k hk5 hW hll' hall'⟩
    · go_wp2
      go_ret
      exact ⟨rfl, hfin _ _ k hk5 hW hll' hall'⟩
end Go.Proofs.YtdpfohgkikjeaaaGreat
/- The statements' own: one step: other steps; Open; a swap that may not be. -/
namespace Go.Proofs.YtdpfohgkikjeaaaGreat
open Go.RowKit
set_option linter.unusedVariables false
set_option linter.unusedSimpArgs false

set_option maxRecDepth 100000 in
set_option maxHeartbeats 16000000 in
theorem plays_other {w : World} {b : Nat} {l : TwL} {M : Nat} {fp : List Nat} {N L B : Nat} (h : WorldR w b l M fp) (all : AllOk l N L) (hM : M ≤ 900000000000) (hN : N ≤ 900000000000) (hL : L ≤ 1000000000000) (hll : l.length ≤ 1000000000) (kd : Int) (on a : Int) (hon : RawOk on) (ha : RawOk a) (s : Str) (hs : s.length ≤ L) (r : Value) (raw : List Int) (hraw : IntsAt w B r raw) (hB : ∀ x ∈ fp, B ≤ x) (hno : kd ≠ 1 ∧ kd ≠ 2 ∧ kd ≠ 3 ∧ kd ≠ 4 ∧ kd ≠ 5 ∧ kd ≠ 6 ∧ kd ≠ 7 ∧ kd ≠ 8 ∧ kd ≠ 9 ∧ kd ≠ 10 ∧ kd ≠ 11 ∧ kd ≠ 12 ∧ kd ≠ 13 ∧ kd ≠ 14) :
    Calls Tryz.prog 33 #[ptrV b, .agg (opCells kd on a s r)] w fun e w' => e = .returned (.bool true) ∧ PlayTo w w' b fp l (M + 1) (N + 501) L := by
  have h0 := h
  obtain ⟨q1, q2, q3, q4, q5, q6, q7, q8, q9, q10, q11, q12, q13, q14⟩ := hno
  obtain ⟨ss, va, vs, lab, hW, hm, hfe⟩ := h
  obtain ⟨pA, cA, rfl⟩ := hW.all.slice
  have hcA : ∀ j t, l[j]? = some t → ∃ g, pA = some ⟨g, 0, none⟩ ∧ l.length ≤ cA ∧ cA ≤ 9223372036854775807 ∧ w.cell? ⟨g, j, none⟩ = some (ptrV t.1) := fun j t hj => by
    have hjl := (List.getElem?_eq_some_iff.1 hj).1
    rcases hW.all.shape with ⟨_, e0, _⟩ | ⟨g, c', hv', hc', hc2⟩
    · omega
    · simp only [Value.slice.injEq] at hv'
      obtain ⟨rfl, _, rfl⟩ := hv'
      unfold maxLen at hc2
      exact ⟨g, rfl, hc', by omega, hW.all.cell.2.2.2 j _ (by rw [List.getElem?_map, hj]; rfl)⟩
  have hc0 := (cells_of hW.cells).1 0
  have hbl := lt_of_heap hW.cells
  have hc0 : w.cell? ⟨b, 0, none⟩ = some (.slice pA l.length cA) := hc0
  clear hW hfe
  obtain ⟨hn1, hsz1, hk1⟩ := new1 w (Obj.cells (opCells kd on a s r) opT)
  by_cases hl0 : l.length = 0
  · have hl0i : (l.length : Int) = 0 := by omega
    have hc0' := hk1.read hc0 (fun h => h)
    obtain ⟨hcB, hfB⟩ := cells_of hn1
    clear hl0
    go_enter Tryz.func33, Tryz.ntmps33
    go_upto_region 1 with fail
    generalize w.heap.size = B3 at hn1 hcB hfB ⊢
    generalize w.alloc (Obj.cells (opCells kd on a s r) opT) = w1 at *
    go_wp2
    go_ret
    exact ⟨rfl, .same h0 hk1 all (by omega)⟩
  have hl0i : ¬ (l.length : Int) = 0 := by omega
  have hpick := fun w => pick_law on l.length _ rfl hon (by omega) (by omega) w
  have hi := pickN_lt on (n := l.length) (by omega)
  generalize pickN on l.length = i at hpick hi
  obtain ⟨⟨bt, T, ft⟩, ht⟩ : ∃ t, l[i]? = some t := ⟨l[i], by simp [hi]⟩
  obtain ⟨g, rfl, hcA1, hcA2, hcg⟩ := hcA i _ ht
  have hcg : w.cell? ⟨g, i, none⟩ = some (ptrV bt) := hcg
  have okT : T.Ok N L := all i _ ht
  clear hcA hl0
  go_enter Tryz.func33, Tryz.ntmps33
  go_upto_region 1 with fail
  have h1 := h0.kept hk1 (fun _ _ h => h)
  have hraw1 := hraw.kept hk1 (fun _ h => h.elim)
  have hc01 := hk1.read hc0 (fun h => h)
  have hcg1 := hk1.read hcg (fun h => h)
  have hfrB : ∀ x ∈ fp, x ≠ w.heap.size := fun x hx e => by have := h0.lt x hx; omega
  have hB3B : B ≤ w.heap.size := hraw.low
  generalize w.heap.size = B3 at hn1 hfrB hB3B ⊢
  generalize w.alloc (Obj.cells (opCells kd on a s r) opT) = w1 at *
  clear hc0 hcg hsz1 hraw
  obtain ⟨hcB, hfB⟩ := cells_of hn1
  go_upto_region 8 with fail
  have hrd : ∀ W, Kept no w1 W → W.cell? ⟨b, 0, none⟩ = some (.slice (some ⟨g, 0, none⟩) l.length cA) ∧ (∀ j, W.cell? ⟨B3, j, none⟩ = (opCells kd on a s r)[j]?) ∧ W.cell? ⟨g, i, none⟩ = some (ptrV bt) := fun W hW => ⟨hW.read hc01 (fun h => h), (cells_of (hW.get hn1 (fun h => h))).1, hW.read hcg1 (fun h => h)⟩
  clear hcB hfB
  refine wp_region3 (fun W => Kept no w1 W) [(0, true), (1, true), (2, true), (3, false), (4, true), (5, false), (6, true), (7, true), (8, true), (9, false), (10, true)] [11, 12, 13, 14] (by kernel_rfl) (by kernel_rfl) (fun _ _ d _ _ h => by cases d <;> exact h) ((Kept.refl _ _).drew) ?_
  repeat ((first | refine wpPre3_pure rfl rfl (fun W => (by go_simp; rfl)) ?_ | refine wpPre3_read rfl rfl (fun W hW => (by obtain ⟨h1, h2, h3⟩ := hrd W hW; go_simp; rfl)) ?_); simp only [Act.put, List.setIfInBounds_toArray, List.set])
  refine wpPre3_nil ?_
  have hkd : Kept no w1 w1.drew := (Kept.refl _ _).drew
  have hk2 := hk1.step hkd
  have h2 := h1.kept hkd (fun _ _ h => h)
  have hn2 := hkd.get hn1 (fun h => h)
  have hraw2 := hraw1.kept hkd (fun _ h => h.elim)
  have hcg2 := hkd.read hcg1 (fun h => h)
  clear h1 hn1 hraw1 hc01 hcg1 hrd hk1 hkd
  generalize w1.drew = w2 at *
  refine wpTail3_cons rfl rfl (fun K hK => ?_)
  go_wp2_with fail
  refine (hpick _).mono ?_
  rintro e w3 ⟨rfl, hw⟩
  rw [hw]
  clear hw hpick
  refine hK _ _ ⟨fun h => h, ?_⟩
  clear hK
  refine wpTail3_cons rfl rfl (fun K hK => ?_)
  go_wp2_with fail
  refine ⟨fun h => h, ?_⟩
  refine wpTail3_cons rfl rfl (fun K hK => ?_)
  go_wp2_with fail
  refine ⟨fun h => h, ?_⟩
  refine wpTail3_cons rfl rfl (fun K hK => ?_)
  go_wp2_with fail
  refine ⟨fun h => h, ?_⟩
  refine wpTail3_nil ?_
  clear hcg2
  obtain ⟨hT2, hft2⟩ := h2.get ht
  have hT2 : TwinR w2 bt T ft := hT2
  have hplay : ∀ (w9 : World) (T' : TwinS) (N' : Nat), N' ≤ N + 501 → TwinTo w2 w9 bt ft T' → T'.Ok N' L → PlayTo w w9 b fp l (M + 1) (N + 501) L := fun w9 T' N' hle hT hok => .twin hk2 h2 all (by omega) ht hT (hok.mono hle)
  have hstay : ∀ w9, Kept no w2 w9 → PlayTo w w9 b fp l (M + 1) (N + 501) L := fun w9 hk => .same h0 (hk2.step hk) all (by omega)
  obtain ⟨hcB, hfB⟩ := cells_of hn2
  go_wp2
  go_ret
  exact ⟨rfl, hstay _ (Kept.refl _ _)⟩

set_option maxRecDepth 100000 in
set_option maxHeartbeats 4000000 in
theorem plays_bad {w : World} {b : Nat} {l : TwL} {M : Nat} {fp : List Nat} {N L : Nat} (h : WorldR w b l M fp) (all : AllOk l N L) (hM : M ≤ 900000000000) (hL : L ≤ 1000000000000) (on a : Int) (hon : RawOk on) (ha : RawOk a) (s : Str) (hs : s.length ≤ L) (r : Value) :
    Calls Tryz.prog 33 #[ptrV b, .agg (opCells 14 on a s r)] w fun e w' => e = .returned (.bool true) ∧ PlayTo w w' b fp l (M + 1) (N + 501) L := by
  obtain ⟨hn1, hsz1, hk1⟩ := new1 w (Obj.cells (opCells 14 on a s r) opT)
  have h1 := h.kept hk1 (fun _ _ h => h)
  have hE := bad_w h1 (by omega) 14 on a hon ha s (by omega) r
  clear hsz1
  obtain ⟨hcB, hfB⟩ := cells_of hn1
  go_enter Tryz.func33, Tryz.ntmps33
  go_upto_region 1 with fail
  generalize w.heap.size = B3 at hn1 hcB hfB ⊢
  generalize w.alloc (Obj.cells (opCells 14 on a s r) opT) = w1 at *
  go_wp2_with fail
  refine hE.mono ?_
  rintro e w2 ⟨rfl, hW⟩
  go_wp2
  go_ret
  exact ⟨rfl, l, hW.after hk1, rfl, all.mono (by omega)⟩

set_option maxRecDepth 100000 in
set_option maxHeartbeats 4000000 in
theorem plays_open {w : World} {b : Nat} {l : TwL} {M : Nat} {fp : List Nat} {N L : Nat} (h : WorldR w b l M fp) (all : AllOk l N L) (hN1 : 1 ≤ N) (hM : M ≤ 900000000000) (hL : L ≤ 1000000000000) (hL2 : 2460 ≤ L) (hll : l.length ≤ 1000000000) (on a : Int) (s : Str) (hs : s.length ≤ L) (r : Value) :
    Calls Tryz.prog 33 #[ptrV b, .agg (opCells 1 on a s r)] w fun e w' => e = .returned (.bool true) ∧ ∃ l', WorldTo w w' b fp l' (M + 1) ∧ AllOk l' (N + 501) L ∧ l'.length ≤ l.length + 1 ∧ ((1 ≤ a ∧ a ≤ 20 ∧ IsText s) → l'.length = l.length + 1) := by
  obtain ⟨hn1, hsz1, hk1⟩ := new1 w (Obj.cells (opCells 1 on a s r) opT)
  have h1 := h.kept hk1 (fun _ _ h => h)
  have hE : Calls Tryz.prog 61 #[ptrV b, .agg (opCells 1 on a s r)] (w.alloc (Obj.cells (opCells 1 on a s r) opT)) fun e w' => e = .returned (.bool true) ∧ ∃ l', WorldTo (w.alloc (Obj.cells (opCells 1 on a s r) opT)) w' b fp l' M ∧ AllOk l' (N + 501) L ∧ l'.length ≤ l.length + 1 ∧ ((1 ≤ a ∧ a ≤ 20 ∧ IsText s) → l'.length = l.length + 1) := by
    by_cases ha : a < 1 ∨ 20 < a
    · exact (begin_no h1 1 on a s (by omega) r 1 (by decide) (fun w1 => (open_arg s a w1 ha).mono (fun e w' ⟨he, hw⟩ => ⟨he, by subst hw; exact Kept.refl _ _⟩)) (fun w1 => (open_ref_arg s a w1 ha).mono (fun e w' ⟨he, hw⟩ => ⟨he, by subst hw; exact Kept.refl _ _⟩))).mono fun e w' ⟨he, hw⟩ => ⟨he, l, hw, all.mono (by omega), by omega, fun hh => by omega⟩
    · obtain ⟨n, rfl⟩ : ∃ n : Nat, a = (n : Int) := ⟨a.toNat, by omega⟩
      by_cases ht : IsText s
      · obtain ⟨ls, hok, rfl⟩ := ht
        exact (begin_yes h1 hll 1 on ls hok r n (by omega) (by omega) hL2).mono fun e w' ⟨he, bT, fT, hok, hw⟩ => ⟨he, _, hw, fun i t hi => by
          rcases getElem?_snoc hi with hi | ⟨_, rfl⟩
          · exact (all i t hi).mono (by omega)
          · exact hok.mono (by omega), by simp, fun _ => by simp⟩
      · exact (begin_no h1 1 on (n : Int) s (by omega) r 2 (by decide) (fun w1 => open_text s (by omega) (n : Int) w1 (by omega) (by omega) ht) (fun w1 => open_ref_text s (by omega) (n : Int) w1 (by omega) (by omega) ht)).mono fun e w' ⟨he, hw⟩ => ⟨he, l, hw, all.mono (by omega), by omega, fun hh => absurd hh.2.2 ht⟩
  clear hsz1
  obtain ⟨hcB, hfB⟩ := cells_of hn1
  go_enter Tryz.func33, Tryz.ntmps33
  go_upto_region 1 with fail
  generalize w.heap.size = B3 at hn1 hcB hfB ⊢
  generalize w.alloc (Obj.cells (opCells 1 on a s r) opT) = w1 at *
  go_wp2_with fail
  refine hE.mono ?_
  rintro e w2 ⟨rfl, l', hW, hall, hl1, hl2⟩
  go_wp2
  go_ret
  exact ⟨rfl, l', (hW.after hk1).mono (Nat.le_succ M), hall, hl1, hl2⟩
end Go.Proofs.YtdpfohgkikjeaaaGreat
/- The statements' own: one step, whatever it is; the document's example. -/
namespace Go.Proofs.YtdpfohgkikjeaaaGreat
open Go.RowKit
set_option linter.unusedVariables false
set_option linter.unusedSimpArgs false

/-- What any step leaves. -/
def StepTo (w w' : World) (b : Nat) (fp : List Nat) (l : TwL) (m : OpS) (M N L : Nat) : Prop := ∃ l', WorldTo w w' b fp l' M ∧ AllOk l' N L ∧ l'.length ≤ l.length + 1 ∧ (m.kind ≠ 1 → l'.length = l.length) ∧ ((m.kind = 1 ∧ 1 ≤ m.a ∧ m.a ≤ 20 ∧ IsText m.s) → l'.length = l.length + 1)

theorem plays_step {w : World} {b : Nat} {l : TwL} {M : Nat} {fp : List Nat} {N L B : Nat} (h : WorldR w b l M fp) (all : AllOk l N L) (hN1 : 1 ≤ N) (hM : M ≤ 900000000000) (hN : N ≤ 900000000000) (hL : L ≤ 1000000000000) (hL2 : 2460 ≤ L) (hll : l.length ≤ 1000000000) (m : OpS) (hm : m.Ok L) (r : Value) (hraw : IntsAt w B r m.raw) (hB : ∀ x ∈ fp, B ≤ x) :
    Calls Tryz.prog 33 #[ptrV b, .agg (opCells m.kind m.on m.a m.s r)] w fun e w' => e = .returned (.bool true) ∧ StepTo w w' b fp l m (M + 1) (N + 501) L := by
  obtain ⟨kd, on, a, s, raw⟩ := m
  obtain ⟨_, hon, ha, hs⟩ := hm
  have go : ∀ {e : Ending} {w' : World}, kd ≠ 1 → (e = .returned (.bool true) ∧ PlayTo w w' b fp l (M + 1) (N + 501) L) → e = .returned (.bool true) ∧ StepTo w w' b fp l ⟨kd, on, a, s, raw⟩ (M + 1) (N + 501) L := fun {e w'} hk ⟨h1, l', h2, h3, h4⟩ => ⟨h1, l', h2, h4, by omega, fun _ => h3, fun hh => absurd hh.1 hk⟩
  by_cases k1 : kd = 1
  · subst k1
    exact (plays_open h all hN1 hM hL hL2 hll on a s hs r).mono fun e w' ⟨h1, l', h2, h3, h4, h5⟩ => ⟨h1, l', h2, h3, h4, fun hh => absurd rfl hh, fun hh => h5 hh.2⟩
  by_cases k2 : kd = 2
  · subst k2; exact (plays_insert h all hM hN hL hll on a hon ha s hs r raw hraw hB).mono fun e w' hh => go (by decide) hh
  by_cases k3 : kd = 3
  · subst k3; exact (plays_delete h all hM hN hL hll on a hon ha s hs r raw hraw hB).mono fun e w' hh => go (by decide) hh
  by_cases k4 : kd = 4
  · subst k4; exact (plays_replace h all hM hN hL hll on a hon ha s hs r raw hraw hB).mono fun e w' hh => go (by decide) hh
  by_cases k5 : kd = 5
  · subst k5; exact (plays_line h all hM hN hL hll on a hon ha s hs r raw hraw hB).mono fun e w' hh => go (by decide) hh
  by_cases k6 : kd = 6
  · subst k6; exact (plays_text h all hM hN hL hll on a hon ha s hs r raw hraw hB).mono fun e w' hh => go (by decide) hh
  by_cases k7 : kd = 7
  · subst k7; exact (plays_look h all hM hN hL hll on a hon ha s hs r raw hraw hB).mono fun e w' hh => go (by decide) hh
  by_cases k8 : kd = 8
  · subst k8; exact (plays_done h all hM hN hL hll on a hon ha s hs r raw hraw hB).mono fun e w' hh => go (by decide) hh
  by_cases k9 : kd = 9
  · subst k9; exact (plays_sync h all hM hN hL hll on a hon ha s hs r raw hraw hB).mono fun e w' hh => go (by decide) hh
  by_cases k10 : kd = 10
  · subst k10; exact (plays_act h all hM hN hL hll on a hon ha s hs r raw hraw hB).mono fun e w' hh => go (by decide) hh
  by_cases k11 : kd = 11
  · subst k11; exact (plays_save h all hM hN hL hll on a hon ha s hs r raw hraw hB).mono fun e w' hh => go (by decide) hh
  by_cases k12 : kd = 12
  · subst k12; exact (plays_crash h all hM hN hL hll on a hon ha s hs r raw hraw hB).mono fun e w' hh => go (by decide) hh
  by_cases k13 : kd = 13
  · subst k13; exact (plays_again h all hM hN hL hll on a hon ha s hs r raw hraw hB).mono fun e w' hh => go (by decide) hh
  by_cases k14 : kd = 14
  · subst k14; exact (plays_bad h all hM hL on a hon ha s hs r).mono fun e w' hh => go (by decide) hh
  exact (plays_other h all hM hN hL hll kd on a hon ha s hs r raw hraw hB ⟨k1, k2, k3, k4, k5, k6, k7, k8, k9, k10, k11, k12, k13, k14⟩).mono fun e w' hh => go k1 hh

/-- The document's example. -/
def knownOps : List OpS := [⟨1, 0, 5, [97, 10, 98, 10], []⟩, ⟨2, 0, 0, [120], []⟩, ⟨6, 0, 0, [], []⟩, ⟨7, 0, 0, [], []⟩, ⟨8, 0, 500, [], []⟩, ⟨2, 0, 2, [99], []⟩, ⟨4, 0, 0, [65], []⟩, ⟨3, 0, 1, [], []⟩, ⟨6, 0, 0, [], []⟩, ⟨7, 0, 0, [], []⟩, ⟨12, 0, 4, [], []⟩, ⟨6, 0, 0, [], []⟩]
def opsCells (l : List OpS) : List Value := (l.map fun m => (opCells m.kind m.on m.a m.s (.slice none 0 0)).toList).flatten

theorem opsCells_get : ∀ (l : List OpS) (i : Nat) (m : OpS), l[i]? = some m → (opsCells l)[i * 5]? = some (.int .i64 m.kind) ∧ (opsCells l)[i * 5 + 1]? = some (.int .i64 m.on) ∧ (opsCells l)[i * 5 + 2]? = some (.int .i64 m.a) ∧ (opsCells l)[i * 5 + 3]? = some (sv m.s) ∧ (opsCells l)[i * 5 + 4]? = some (.slice none 0 0)
  | [], i, c, h => by simp at h
  | a :: l, 0, c, h => by
    simp at h
    subst h
    exact ⟨rfl, rfl, rfl, rfl, rfl⟩
  | a :: l, i + 1, c, h => by
    have h' : l[i]? = some c := by simpa using h
    obtain ⟨h1, h2, h3, h4, h5⟩ := opsCells_get l i c h'
    have e : opsCells (a :: l) = (opCells a.kind a.on a.a a.s (.slice none 0 0)).toList ++ opsCells l := rfl
    have e2 : ((opCells a.kind a.on a.a a.s (.slice none 0 0)).toList).length = 5 := rfl
    rw [e]
    refine ⟨?_, ?_, ?_, ?_, ?_⟩
    · rw [List.getElem?_append_right (by omega), e2, show (i + 1) * 5 - 5 = i * 5 by omega]; exact h1
    · rw [List.getElem?_append_right (by omega), e2, show (i + 1) * 5 + 1 - 5 = i * 5 + 1 by omega]; exact h2
    · rw [List.getElem?_append_right (by omega), e2, show (i + 1) * 5 + 2 - 5 = i * 5 + 2 by omega]; exact h3
    · rw [List.getElem?_append_right (by omega), e2, show (i + 1) * 5 + 3 - 5 = i * 5 + 3 by omega]; exact h4
    · rw [List.getElem?_append_right (by omega), e2, show (i + 1) * 5 + 4 - 5 = i * 5 + 4 by omega]; exact h5

theorem known_kinds : ∀ (i : Nat) (m : OpS), knownOps[i]? = some m → m.Ok 2460 ∧ m.raw = [] ∧ (i = 0 → m.kind = 1 ∧ 1 ≤ m.a ∧ m.a ≤ 20 ∧ IsText m.s) ∧ (i ≠ 0 → m.kind ≠ 1) := by
  intro i m h
  have hraw : ∀ c : Int, -100 ≤ c ∧ c ≤ 1000 → RawOk c := fun c hc => ⟨by omega, by omega⟩
  have ht : IsText [97, 10, 98, 10] := ⟨[[97], [98]], ⟨by decide, by decide⟩, by decide⟩
  match i, h with
  | 0, h => simp only [knownOps, List.getElem?_cons_zero, Option.some.injEq] at h; subst h; exact ⟨⟨hraw _ (by decide), hraw _ (by decide), hraw _ (by decide), by decide⟩, rfl, fun _ => ⟨rfl, by decide, by decide, ht⟩, fun hh => absurd rfl hh⟩
  | 1, h | 2, h | 3, h | 4, h | 5, h | 6, h | 7, h | 8, h | 9, h | 10, h | 11, h =>
    simp only [knownOps, List.getElem?_cons_succ, List.getElem?_cons_zero, Option.some.injEq] at h
    subst h
    exact ⟨⟨hraw _ (by decide), hraw _ (by decide), hraw _ (by decide), by decide⟩, rfl, fun hh => absurd hh (by decide), fun _ => by decide⟩
  | n + 12, h => simp [knownOps] at h

theorem WorldR.allLen {w : World} {b : Nat} {l : TwL} {M : Nat} {fp : List Nat} (h : WorldR w b l M fp) : b < w.heap.size ∧ b ∈ fp ∧ ∃ p c, w.cell? ⟨b, 0, none⟩ = some (.slice p l.length c) := by
  obtain ⟨ss, va, vs, lab, h, hm, rfl⟩ := h
  obtain ⟨p, c, hv⟩ := h.all.slice
  exact ⟨lt_of_heap h.cells, mem_worldFp.2 (.inl rfl), p, c, by rw [(cells_of h.cells).1, ← hv]; rfl⟩

theorem ints_none {w : World} : IntsAt w 0 (.slice none 0 0) [] := ⟨by simp, by decide, Nat.zero_le _, .inl ⟨_, _, rfl, rfl⟩⟩

set_option maxRecDepth 100000 in
set_option maxHeartbeats 8000000 in
theorem known_w {w : World} {b : Nat} {fp : List Nat} (h : WorldR w b [] 0 fp) (last : Int) (hlast : 8 ≤ last) {L : Nat} (hL2 : 2460 ≤ L) (hL : L ≤ 1000000000000) :
    Calls Tryz.prog 32 #[ptrV b, .int .i64 last] w fun e w' => e = .returned (.bool true) ∧ ∃ l', WorldTo w w' b fp l' 12 ∧ AllOk l' 7000 L ∧ l'.length = 1 := by
  go_enter Tryz.func32, Tryz.ntmps32
  go_upto_region 2 with fail
  obtain ⟨hn1, hsz1, hk1⟩ := new1 w (Obj.cells #[.int .i64 1, .int .i64 0, .int .i64 5, .string ⟨#[97, 10, 98, 10]⟩, .slice none 0 0, .int .i64 2, .int .i64 0, .int .i64 0, .string ⟨#[120]⟩, .slice none 0 0, .int .i64 6, .int .i64 0, .int .i64 0, .string ⟨#[]⟩, .slice none 0 0, .int .i64 7, .int .i64 0, .int .i64 0, .string ⟨#[]⟩, .slice none 0 0, .int .i64 8, .int .i64 0, .int .i64 500, .string ⟨#[]⟩, .slice none 0 0, .int .i64 2, .int .i64 0, .int .i64 2, .string ⟨#[99]⟩, .slice none 0 0, .int .i64 4, .int .i64 0, .int .i64 0, .string ⟨#[65]⟩, .slice none 0 0, .int .i64 3, .int .i64 0, .int .i64 1, .string ⟨#[]⟩, .slice none 0 0, .int .i64 6, .int .i64 0, .int .i64 0, .string ⟨#[]⟩, .slice none 0 0, .int .i64 7, .int .i64 0, .int .i64 0, .string ⟨#[]⟩, .slice none 0 0, .int .i64 12, .int .i64 0, .int .i64 4, .string ⟨#[]⟩, .slice none 0 0, .int .i64 6, .int .i64 0, .int .i64 0, .string ⟨#[]⟩, .slice none 0 0] opT)
  have hGfp : ∀ x ∈ fp, x ≠ w.heap.size := fun x hx e => by have := h.lt x hx; omega
  have h1 := h.kept hk1 (fun _ _ h => h)
  have hn1' : (w.alloc (Obj.cells #[.int .i64 1, .int .i64 0, .int .i64 5, .string ⟨#[97, 10, 98, 10]⟩, .slice none 0 0, .int .i64 2, .int .i64 0, .int .i64 0, .string ⟨#[120]⟩, .slice none 0 0, .int .i64 6, .int .i64 0, .int .i64 0, .string ⟨#[]⟩, .slice none 0 0, .int .i64 7, .int .i64 0, .int .i64 0, .string ⟨#[]⟩, .slice none 0 0, .int .i64 8, .int .i64 0, .int .i64 500, .string ⟨#[]⟩, .slice none 0 0, .int .i64 2, .int .i64 0, .int .i64 2, .string ⟨#[99]⟩, .slice none 0 0, .int .i64 4, .int .i64 0, .int .i64 0, .string ⟨#[65]⟩, .slice none 0 0, .int .i64 3, .int .i64 0, .int .i64 1, .string ⟨#[]⟩, .slice none 0 0, .int .i64 6, .int .i64 0, .int .i64 0, .string ⟨#[]⟩, .slice none 0 0, .int .i64 7, .int .i64 0, .int .i64 0, .string ⟨#[]⟩, .slice none 0 0, .int .i64 12, .int .i64 0, .int .i64 4, .string ⟨#[]⟩, .slice none 0 0, .int .i64 6, .int .i64 0, .int .i64 0, .string ⟨#[]⟩, .slice none 0 0] opT)).heap[w.heap.size]? = some (.cells (opsCells knownOps).toArray opT (0, 0)) := hn1
  clear hn1
  have hGl := lt_of_heap hn1'
  generalize w.heap.size = G at hn1' hGfp hGl ⊢
  generalize w.alloc (Obj.cells #[.int .i64 1, .int .i64 0, .int .i64 5, .string ⟨#[97, 10, 98, 10]⟩, .slice none 0 0, .int .i64 2, .int .i64 0, .int .i64 0, .string ⟨#[120]⟩, .slice none 0 0, .int .i64 6, .int .i64 0, .int .i64 0, .string ⟨#[]⟩, .slice none 0 0, .int .i64 7, .int .i64 0, .int .i64 0, .string ⟨#[]⟩, .slice none 0 0, .int .i64 8, .int .i64 0, .int .i64 500, .string ⟨#[]⟩, .slice none 0 0, .int .i64 2, .int .i64 0, .int .i64 2, .string ⟨#[99]⟩, .slice none 0 0, .int .i64 4, .int .i64 0, .int .i64 0, .string ⟨#[65]⟩, .slice none 0 0, .int .i64 3, .int .i64 0, .int .i64 1, .string ⟨#[]⟩, .slice none 0 0, .int .i64 6, .int .i64 0, .int .i64 0, .string ⟨#[]⟩, .slice none 0 0, .int .i64 7, .int .i64 0, .int .i64 0, .string ⟨#[]⟩, .slice none 0 0, .int .i64 12, .int .i64 0, .int .i64 4, .string ⟨#[]⟩, .slice none 0 0, .int .i64 6, .int .i64 0, .int .i64 0, .string ⟨#[]⟩, .slice none 0 0] opT) = w1 at hn1' hGl h1 hk1 hsz1 ⊢
  clear hsz1
  have hget : ∀ (wr : World) (i : Nat) (m : OpS), wr.heap[G]? = some (.cells (opsCells knownOps).toArray opT (0, 0)) → knownOps[i]? = some m → wr.cell? ⟨G, i * 5, none⟩ = some (.int .i64 m.kind) ∧ wr.cell? ⟨G, i * 5 + 1, none⟩ = some (.int .i64 m.on) ∧ wr.cell? ⟨G, i * 5 + 2, none⟩ = some (.int .i64 m.a) ∧ wr.cell? ⟨G, i * 5 + 3, none⟩ = some (sv m.s) ∧ wr.cell? ⟨G, i * 5 + 4, none⟩ = some (.slice none 0 0) := fun wr i m hh hi => by
    obtain ⟨q0, q1, q2, q3, q4⟩ := opsCells_get knownOps i m hi
    obtain ⟨hc, _⟩ := cells_of hh
    exact ⟨by rw [hc, List.getElem?_toArray]; exact q0, by rw [hc, List.getElem?_toArray]; exact q1, by rw [hc, List.getElem?_toArray]; exact q2, by rw [hc, List.getElem?_toArray]; exact q3, by rw [hc, List.getElem?_toArray]; exact q4⟩
  have hkl : knownOps.length = 12 := rfl
  have hkk := known_kinds
  generalize knownOps = KO at hn1' hget hkl hkk
  go_wp2_with fail
  go_loopw [6] (fun s6 wr => ∃ (i : Nat) (l' : TwL), i ≤ 12 ∧ s6 = .int .i64 ((i : Nat) : Int) ∧ WorldTo w1 wr b fp l' i ∧ AllOk l' (1 + 501 * i) L ∧ l'.length = (if i = 0 then 0 else 1)) (fun s6 _ => 12 - (intOf s6).toNat)
  case atStart => exact ⟨0, [], by omega, rfl, WorldTo.same h1 (Kept.refl _ _), fun i t hi => by simp at hi, rfl⟩
  case round =>
    obtain ⟨i, l', hi, rfl, hW, hall, hlen⟩ := hrel
    have hl1 : l'.length ≤ 1 := by rw [hlen]; split <;> omega
    have hGr : wr.heap[G]? = some (.cells (opsCells KO).toArray opT (0, 0)) := hW.kept.get hn1' (fun hx => hGfp G hx rfl)
    obtain ⟨⟨fp1, hR1, hx1⟩, hkk1⟩ := hW
    by_cases hlt : i < 12
    · obtain ⟨m, hm⟩ : ∃ m, KO[i]? = some m := ⟨KO[i]'(by omega), by simp [hkl, hlt]⟩
      obtain ⟨okm, hraw, hm0, hm1⟩ := hkk i m hm
      obtain ⟨c0, c1, c2, c3, c4⟩ := hget wr i m hGr hm
      have okL : m.Ok L := ⟨okm.kind, okm.on, okm.a, Nat.le_trans okm.s hL2⟩
      have hstep := plays_step hR1 hall (by omega) (by omega) (by omega) hL hL2 (by omega) m okL (.slice none 0 0) (B := 0) (by rw [hraw]; exact ints_none) (fun x _ => Nat.zero_le x)
      clear hm hraw okm okL hGr hget hkk
      by_cases hk : m.kind ≤ last
      · go_wp2_with fail
        refine hstep.mono ?_
        rintro e w3 ⟨rfl, l3, hW3, hall3, _, hne, heq⟩
        have hW3' := WorldTo.step hx1 hkk1 hW3
        have hlen3 : l3.length = 1 := by
          by_cases h0 : i = 0
          · subst h0
            obtain ⟨a1, a2, a3, a4⟩ := hm0 rfl
            rw [heq ⟨a1, a2, a3, a4⟩, hlen]; rfl
          · rw [hne (hm1 h0), hlen, if_neg h0]
        clear hne heq hm0 hm1
        go_wp2
        exact ⟨⟨i + 1, l3, by omega, by go_num, hW3', hall3.mono (by omega), by rw [hlen3]; rfl⟩, by simp [intOf]; omega⟩
      · have h0 : i ≠ 0 := fun e => hk (by rw [(hm0 e).1]; omega)
        clear hm0 hm1 hstep
        go_wp2
        exact ⟨⟨i + 1, l', by omega, by go_num, ⟨⟨fp1, hR1.mono (by omega), hx1⟩, hkk1⟩, hall.mono (by omega), by rw [hlen, if_neg h0]; rfl⟩, by simp [intOf]; omega⟩
    · obtain rfl : i = 12 := by omega
      rw [if_neg (by decide)] at hlen
      obtain ⟨hbl, hbf, p, c, hc0⟩ := hR1.allLen
      rw [hlen] at hc0
      clear hget hkk hGr
      go_wp2
      go_ret
      exact ⟨rfl, l', WorldTo.after ⟨⟨fp1, hR1, hx1⟩, hkk1⟩ hk1, hall.mono (by omega), hlen⟩
end Go.Proofs.YtdpfohgkikjeaaaGreat

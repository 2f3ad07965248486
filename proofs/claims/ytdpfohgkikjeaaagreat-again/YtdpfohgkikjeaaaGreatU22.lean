/- Part 22 of the proof: see its parts. -/
import Derived.ArgAppend
import Derived.Test.YtdpfohgkikjeaaaGreatU21
/- Crash: the sectors. -/
namespace Go.Proofs.YtdpfohgkikjeaaaGreat
open Go.RowKit
set_option linter.unusedVariables false
set_option linter.unusedSimpArgs false

/-- What is left of the first k sectors. -/
def LeftTo (d : DiskS) (k : Nat) (secs : List Str) : Prop := secs.length = k ∧ ∀ (i : Nat) (s : Str), secs[i]? = some s → ∃ l : List Str, d.sw[i]? = some l ∧ s ∈ l

theorem LeftTo.leaves {d : DiskS} {secs : List Str} (h : LeftTo d 400 secs) (hl : d.sw.length = 400) : d.Leaves secs := by
  refine ⟨by rw [h.1, hl], fun i hi => ?_⟩
  have hi' : i < secs.length := by rw [h.1, ← hl]; exact hi
  obtain ⟨l, hl, hs⟩ := h.2 i secs[i] (by simp [hi'])
  simp only [List.getD_eq_getElem?_getD, hl, Option.getD_some, List.getElem?_eq_getElem hi']
  exact hs

theorem LeftTo.snoc {d : DiskS} {k : Nat} {secs : List Str} (h : LeftTo d k secs) {l : List Str} {s : Str} (hl : d.sw[k]? = some l) (hs : s ∈ l) : LeftTo d (k + 1) (secs ++ [s]) := by
  refine ⟨by simp [h.1], fun i x hx => ?_⟩
  by_cases hi : i < secs.length
  · rw [List.getElem?_append_left hi] at hx; exact h.2 i x hx
  · have hi2 : i = k := by
      have := (List.getElem?_eq_some_iff.1 hx).1
      simp [h.1] at this
      have := h.1
      omega
    subst hi2
    rw [List.getElem?_append_right (by have := h.1; omega)] at hx
    simp [h.1] at hx
    subst hx
    exact ⟨l, hl, hs⟩

structure CrashTo (d : DiskS) (w w' : World) (e : Ending) : Prop where
  ex : ∃ B fp secs f, e = .returned (.pointer (some ⟨B, 0, none⟩)) ∧ DiskR w' B (DiskS.of secs f) fp ∧ secs.length = 400 ∧ d.Leaves secs ∧ d.LeavesFile f ∧ (∀ x ∈ fp, w.heap.size ≤ x) ∧ Kept no w w'

set_option maxRecDepth 100000 in
set_option maxHeartbeats 20000000 in
theorem crash_any {w b d fp} (h : DiskR w b d fp) {N L : Nat} (hL : d.Lens N L) (hN : N ≤ 8000000000000) (hLL : L ≤ 8000000000000) {B : Nat} {v : Value} {raw : List Int} (hraw : IntsAt w B v raw) :
    Calls Tryz.prog 15 #[.pointer (some ⟨b, 0, none⟩), v] w fun e w' => CrashTo d w w' e := by
  obtain ⟨vs, vals, bl, h, rfl⟩ := h
  have hlen := h.len
  have hsw := hL.sw
  obtain ⟨pv, c, hvs⟩ := h.row.slice
  have hV : vals.length = 400 := by omega
  rw [hV] at hvs
  have hbw : b < w.heap.size := lt_of_heap h.cells
  go_enter Tryz.func15, Tryz.ntmps15
  go_wp2_with fail
  go_loopw [5, 6, 7] (fun s5 s6 s7 wr => ∃ (k a : Nat) (secs : List Str), k ≤ 400 ∧ a ≤ k + 1 ∧ s7 = .int .i64 ((k : Nat) : Int) ∧ s6 = .int .i64 ((a : Nat) : Int) ∧ LeftTo d k secs ∧ Row wr 9 1 s5 k (secs.map sv) ∧ (∀ x ∈ fpv s5, w.heap.size ≤ x) ∧ Kept no w wr) (fun _ _ s7 _ => 400 - (intOf s7).toNat)
  case atStart => exact ⟨0, 1, [], Nat.zero_le _, by omega, rfl, rfl, ⟨rfl, by simp⟩, ⟨rfl, .inl ⟨rfl, rfl⟩⟩, by simp [fpv_nil], Kept.refl _ _⟩
  case round =>
    obtain ⟨k, a, secs, hk, ha, rfl, rfl, hleft, hr, hnew, hkw⟩ := hrel
    have hB0 : ∀ W, Kept no wr W → W.cell? ⟨b, 0, none⟩ = some (.slice pv 400 c) := fun W hW => (hkw.step hW).read (by rw [(cells_of h.cells).1, hvs]; rfl) (fun h => h)
    have hB := hB0 wr (Kept.refl _ _)
    by_cases hlt : k < 400
    · obtain ⟨l, hl⟩ : ∃ l, d.sw[k]? = some l := ⟨d.sw[k], by simp [hsw, hlt]⟩
      have hlm : l ∈ d.sw := List.mem_of_getElem? hl
      have hll := hL.rows l hlm
      have hlp : 0 < l.length := List.length_pos_iff.2 (hL.some l hlm)
      obtain ⟨g, c', g2, o2, c2, hvs', hpv, hc1, hc2, hgb, hgl', hcp, hg2, hg2l, h21, h22, hs2⟩ := h.sec (p := k) hl
      rw [hvs, hV] at hvs'
      simp only [Value.slice.injEq, true_and] at hvs'
      obtain ⟨rfl, rfl⟩ := hvs'
      have hgp : ∀ W, Kept no wr W → W.cell? ⟨g, k, none⟩ = some (.slice (some ⟨g2, o2, none⟩) l.length c2) := fun W hW => (hkw.step hW).read hcp (fun h => h)
      have hgpr := hgp wr (Kept.refl _ _)
      have hsec : ∀ W, Kept no wr W → ∀ j s, l[j]? = some s → W.cell? ⟨g2, o2 + j, none⟩ = some (sv s) := fun W hW j s hs => (hkw.step hW).read (hs2 j s hs) (fun h => h)
      have hsn := fun j s (hs : l[j]? = some s) => hleft.snoc hl (List.mem_of_getElem? hs)
      generalize hm : l.length = m at *
      go_upto_if 28 with fail
      go_cut [8, 6] (fun s8 s6 wx => ∃ j a' : Nat, j < m ∧ a' ≤ k + 2 ∧ s8 = .int .i64 ((j : Nat) : Int) ∧ s6 = .int .i64 ((a' : Nat) : Int) ∧ Kept no wr wx)
      case first =>
        by_cases h1m : 1 < m
        · have hrawr := hraw.kept hkw (fun _ h => h.elim)
          go_wp2_with fail
          refine wp_region3 (fun W => Kept no wr W) [(0, true), (1, true), (3, true), (4, true), (5, true), (6, false), (7, true), (8, true), (9, false), (10, true)] [2, 11, 12] (by kernel_rfl) (by kernel_rfl) (fun _ _ d _ _ h => by cases d <;> exact h) ((Kept.refl _ _).drew) ?_
          repeat ((first | refine wpPre3_pure rfl rfl (fun W => (by go_simp; rfl)) ?_ | refine wpPre3_read rfl rfl (fun W hW => (by have h1 := hB0 W hW; have h2 := hgp W hW; go_simp; rfl)) ?_); simp only [Act.put, List.setIfInBounds_toArray, List.set])
          refine wpPre3_nil ?_
          have hk12 : Kept no wr wr.drew := (Kept.refl _ _).drew
          have hraw2 := hrawr.kept hk12 (fun _ h => h.elim)
          generalize wr.drew = w2 at hk12 hraw2 ⊢
          refine wpTail3_cons rfl rfl (fun K hK => ?_)
          go_wp2_with fail
          refine (raw_any hraw2 a _ rfl (by omega)).mono ?_
          rintro e w3 ⟨rfl, hw⟩
          rw [hw]
          clear hw
          refine hK _ _ ⟨fun h => h, ?_⟩
          clear hK
          refine wpTail3_cons rfl rfl (fun K hK => ?_)
          go_wp2_with fail
          refine (pick_fs (rawN raw a) m _ rfl (rawN_ok hraw.fits a) (by omega) (by omega) w2).mono ?_
          rintro e w3 ⟨rfl, hw⟩
          rw [hw]
          clear hw
          refine hK _ _ ⟨fun h => h, ?_⟩
          clear hK
          have hpl := pickN_lt (rawN raw a) (n := m) (by omega)
          generalize pickN (rawN raw a) m = j at hpl ⊢
          refine wpTail3_cons rfl rfl (fun K hK => ?_)
          go_wp2_with fail
          refine ⟨fun h => h, ?_⟩
          refine wpTail3_nil ?_
          go_wp2
          go_meet
          case rel => exact ⟨j, a + 1, hpl, by omega, rfl, by go_num, hk12⟩
        · go_wp2
          go_meet
          case rel => exact ⟨0, a, hlp, by omega, rfl, rfl, Kept.refl _ _⟩
      case rest =>
        obtain ⟨j, a', hj, ha', rfl, rfl, hkc⟩ := hcut
        obtain ⟨s, hs⟩ : ∃ s, l[j]? = some s := ⟨l[j]'(by omega), by simp [show j < l.length by omega]⟩
        have hB1 := hB0 wc hkc
        have hB2 := hgp wc hkc
        have hB3 := hsec wc hkc j s hs
        have hsn' := hsn j s hs
        clear hB hgpr hs hsn hsec
        have hrc := hr.kept hkc (fun _ _ h => h)
        go_wp2_with (at_builtin; apply hold)
        delta Hid
        obtain ⟨hn5, hsz5, hk5⟩ := new1 wc (Obj.cells #[sv s] 9)
        generalize hG5 : wc.heap.size = G5 at hn5 hsz5 ⊢
        generalize wc.alloc (Obj.cells #[sv s] 9) = w5 at hn5 hsz5 hk5 ⊢
        refine wpList_push rfl _ _ 34 rfl tyStr u5 _ _ rfl (hrc.kept hk5 (fun _ _ h => h)) G5 1 (sv s) rfl (by rw [(cells_of hn5).1]; rfl) rfl (by decide) (by omega) ?_
        intro v6 w6 hr6 hG6
        have hs1 := hkw.size
        have hs2' := hkc.size
        have hs5 := hk5.size
        go_wp2
        refine ⟨⟨k + 1, a', _, by omega, by omega, by go_num, rfl, hsn', ?_, fun x hx => ?_, ?_⟩, by simp [intOf]; omega⟩
        · simpa using hr6
        · rcases hG6.2 x hx with hx | hx
          · exact hnew x hx
          · omega
        · exact ((hkw.step hkc).step hk5).step' hG6.1 (fun x hx hlt => by have := hnew x hx; omega)
    · obtain rfl : k = 400 := by omega
      have hrawr := hraw.kept hkw (fun _ h => h.elim)
      have hd := h.kept hkw (fun _ _ h => h)
      obtain ⟨hc, _⟩ := cells_of hd.cells
      have hr' : Row wr 9 1 u5 secs.length (secs.map sv) := by rw [hleft.1]; exact hr
      have hlv := hleft.leaves hsw
      have hl4 := hleft.1
      have hofs := fun (f : Str) (w2 : World) (hk2 : Kept no wr w2) => of_any (hr'.kept hk2 (fun _ _ h => h)) hl4 f
      have hfin : ∀ (f : Str) (w2 w3 : World) (B' : Nat) (fp : List Nat), d.LeavesFile f → Kept no wr w2 → DiskR w3 B' (DiskS.of secs f) fp → (∀ x ∈ fp, w2.heap.size ≤ x) → Kept no w2 w3 → CrashTo d w w3 (.returned (.pointer (some ⟨B', 0, none⟩))) := fun f w2 w3 B' fp hf hk2 hD hx hk3 =>
        ⟨B', fp, secs, f, rfl, hD, hl4, hlv, hf, fun x hxx => by have := hx x hxx; have := hk2.size; have := hkw.size; omega, (hkw.step hk2).step hk3⟩
      have HF : Hid (∀ (f : Str) (w2 w3 : World) (B' : Nat) (fp : List Nat), d.LeavesFile f → Kept no wr w2 → DiskR w3 B' (DiskS.of secs f) fp → (∀ x ∈ fp, w2.heap.size ≤ x) → Kept no w2 w3 → CrashTo d w w3 (.returned (.pointer (some ⟨B', 0, none⟩)))) := hfin
      clear hfin hr hr' hleft hlv
      cases hren : d.renamed with
      | false =>
        go_wp2_with fail
        refine (hofs d.file wr (Kept.refl _ _)).mono ?_
        rintro e w3 ⟨B', fp, rfl, hD, hx, hk3⟩
        go_wp2
        go_ret
        exact HF.out _ _ _ _ _ (.inl rfl) (Kept.refl _ _) hD hx hk3
      | true =>
        have hwok := rawN_ok hraw.fits 0
        go_wp2_with fail
        refine (raw_any hrawr 0 _ rfl (by omega)).mono ?_
        rintro e w2 ⟨rfl, hw⟩
        rw [hw]
        clear hw
        generalize rawN raw 0 = x at hwok ⊢
        obtain ⟨hx1, hx2⟩ := hwok
        by_cases hev : x.tmod 2 = 0
        · by_cases hx0 : 0 ≤ x
          · rw [Int.tmod_eq_emod_of_nonneg hx0] at hev
            go_wp2_with fail
            refine (hofs d.before wr (Kept.refl _ _)).mono ?_
            rintro e w3 ⟨B', fp, rfl, hD, hx, hk3⟩
            go_wp2
            go_ret
            exact HF.out _ _ _ _ _ (.inr ⟨hren, .inl rfl⟩) (Kept.refl _ _) hD hx hk3
          · go_wp2_with fail
            refine (hofs d.before wr (Kept.refl _ _)).mono ?_
            rintro e w3 ⟨B', fp, rfl, hD, hx, hk3⟩
            go_wp2
            go_ret
            exact HF.out _ _ _ _ _ (.inr ⟨hren, .inl rfl⟩) (Kept.refl _ _) hD hx hk3
        · have hsf := hL.safe hren
          have hfl := hL.file
          have hl1 : ∀ W, Kept no wr W → W.cell? ⟨b, 1, none⟩ = some (sv d.file) := fun W hW => hW.read (by rw [hc]; rfl) (fun h => h)
          have hl4' : ∀ W, Kept no wr W → W.cell? ⟨b, 4, none⟩ = some (.int .i64 (d.safe : Int)) := fun W hW => hW.read (by rw [hc]; rfl) (fun h => h)
          have hlf : ∀ j, j ≤ d.file.length - d.safe → d.LeavesFile (d.file.take (d.safe + j)) := fun j hj => .inr ⟨hren, .inr ⟨d.safe + j, by omega, by omega, rfl⟩⟩
          have HLF : Hid (∀ j, j ≤ d.file.length - d.safe → d.LeavesFile (d.file.take (d.safe + j))) := hlf
          clear hlf
          generalize hfn : d.file = F at *
          generalize hsn : d.safe = Z at *
          have hmore : ∀ (q : Int) (W : World), RawOk q → _ := fun q W hq => pick_fs q (F.length - Z + 1) ((F.length : Int) - (Z : Int) + 1) (by omega) hq (by omega) (by omega) W
          have hplt := fun q => pickN_lt q (n := F.length - Z + 1) (by omega)
          by_cases hx0 : 0 ≤ x
          · rw [Int.tmod_eq_emod_of_nonneg hx0] at hev
            go_wp2_with fail
            refine wp_region3 (fun W => Kept no wr W) [(0, true), (1, true), (2, true), (3, false), (4, true), (5, true), (6, true), (7, false), (8, true), (9, true), (10, true), (11, true), (12, true), (13, false), (14, true), (15, true), (16, true), (17, true), (18, false), (19, true), (20, true)] [21, 22, 23, 24] (by kernel_rfl) (by kernel_rfl) (fun _ _ d _ _ h => by cases d <;> exact h) ((Kept.refl _ _).drew) ?_
            repeat ((first | refine wpPre3_pure rfl rfl (fun W => (by go_simp; rfl)) ?_ | refine wpPre3_read rfl rfl (fun W hW => (by have h1 := hl1 W hW; have h2 := hl4' W hW; go_simp; rfl)) ?_); simp only [Act.put, List.setIfInBounds_toArray, List.set])
            refine wpPre3_nil ?_
            have hk12 : Kept no wr wr.drew := (Kept.refl _ _).drew
            generalize wr.drew = w2 at hk12 ⊢
            refine wpTail3_cons rfl rfl (fun K hK => ?_)
            go_wp2_with fail
            refine (hmore (x / 2) w2 ⟨by omega, by omega⟩).mono ?_
            rintro e w3 ⟨rfl, hw⟩
            rw [hw]
            clear hw
            refine hK _ _ ⟨fun h => h, ?_⟩
            clear hK
            have hj := hplt (x / 2)
            generalize pickN (x / 2) (F.length - Z + 1) = j at hj ⊢
            have hjF : Z + j ≤ F.length := by omega
            refine wpTail3_cons rfl rfl (fun K hK => ?_)
            go_wp2_with fail
            refine ⟨fun h => h, ?_⟩
            refine wpTail3_cons rfl rfl (fun K hK => ?_)
            go_wp2_with fail
            refine ⟨fun h => h, ?_⟩
            refine wpTail3_cons rfl rfl (fun K hK => ?_)
            go_wp2_with fail
            refine ⟨fun h => h, ?_⟩
            refine wpTail3_nil ?_
            go_wp2_with fail
            have hext : (⟨F.toArray⟩ : ByteArray).extract 0 (Z + j) = ⟨(F.take (Z + j)).toArray⟩ := by rw [extract_list]; simp
            rw [hext]
            clear hext
            refine (hofs (F.take (Z + j)) w2 hk12).mono ?_
            rintro e w3 ⟨B', fp, rfl, hD, hx, hk3⟩
            go_wp2
            go_ret
            exact HF.out _ _ _ _ _ (HLF.out j (by omega)) hk12 hD hx hk3
          · have hq1 : -9223372036854775808 ≤ x.tdiv 2 ∧ x.tdiv 2 < 9223372036854775808 := by
              have hnt := Int.neg_tdiv (a := -x) (b := 2)
              rw [Int.neg_neg] at hnt
              rw [hnt, Int.tdiv_eq_ediv_of_nonneg (by omega)]
              omega
            obtain ⟨hq1, hq2⟩ := hq1
            go_wp2_with fail
            refine wp_region3 (fun W => Kept no wr W) [(0, true), (1, true), (2, true), (3, false), (4, true), (5, true), (6, true), (7, false), (8, true), (9, true), (10, true), (11, true), (12, true), (13, false), (14, true), (15, true), (16, true), (17, true), (18, false), (19, true), (20, true)] [21, 22, 23, 24] (by kernel_rfl) (by kernel_rfl) (fun _ _ d _ _ h => by cases d <;> exact h) ((Kept.refl _ _).drew) ?_
            repeat ((first | refine wpPre3_pure rfl rfl (fun W => (by go_simp; rfl)) ?_ | refine wpPre3_read rfl rfl (fun W hW => (by have h1 := hl1 W hW; have h2 := hl4' W hW; go_simp; rfl)) ?_); simp only [Act.put, List.setIfInBounds_toArray, List.set])
            refine wpPre3_nil ?_
            have hk12 : Kept no wr wr.drew := (Kept.refl _ _).drew
            generalize wr.drew = w2 at hk12 ⊢
            refine wpTail3_cons rfl rfl (fun K hK => ?_)
            go_wp2_with fail
            refine (hmore (x.tdiv 2) w2 ⟨hq1, hq2⟩).mono ?_
            rintro e w3 ⟨rfl, hw⟩
            rw [hw]
            clear hw
            refine hK _ _ ⟨fun h => h, ?_⟩
            clear hK
            have hj := hplt (x.tdiv 2)
            generalize pickN (x.tdiv 2) (F.length - Z + 1) = j at hj ⊢
            have hjF : Z + j ≤ F.length := by omega
            refine wpTail3_cons rfl rfl (fun K hK => ?_)
            go_wp2_with fail
            refine ⟨fun h => h, ?_⟩
            refine wpTail3_cons rfl rfl (fun K hK => ?_)
            go_wp2_with fail
            refine ⟨fun h => h, ?_⟩
            refine wpTail3_cons rfl rfl (fun K hK => ?_)
            go_wp2_with fail
            refine ⟨fun h => h, ?_⟩
            refine wpTail3_nil ?_
            go_wp2_with fail
            have hext : (⟨F.toArray⟩ : ByteArray).extract 0 (Z + j) = ⟨(F.take (Z + j)).toArray⟩ := by rw [extract_list]; simp
            rw [hext]
            clear hext
            refine (hofs (F.take (Z + j)) w2 hk12).mono ?_
            rintro e w3 ⟨B', fp, rfl, hD, hx, hk3⟩
            go_wp2
            go_ret
            exact HF.out _ _ _ _ _ (HLF.out j (by omega)) hk12 hD hx hk3
end Go.Proofs.YtdpfohgkikjeaaaGreat
/- Texts in a row, from some place on; what an append makes of them. -/
namespace Go.Proofs.YtdpfohgkikjeaaaGreat
open Go.RowKit
set_option linter.unusedVariables false
set_option linter.unusedSimpArgs false

abbrev strT : TypeId := 9

/-- Texts in a row that is owned, from some place on. -/
def TextsAt (w : World) (v : Value) (l : List Str) (fp : List Nat) : Prop :=
  (v = .slice none 0 0 ∧ l = [] ∧ fp = []) ∨ ∃ (g o c : Nat) (cur : Array Value), v = .slice (some ⟨g, o, none⟩) l.length c ∧ fp = [g] ∧ w.heap[g]? = some (.cells cur strT (0, 0)) ∧ l.length ≤ c ∧ c ≤ maxLen ∧ o + c ≤ cur.size ∧ ∀ (j : Nat) (s : Str), l[j]? = some s → cur[o + j]? = some (sv s)

theorem TextsAt.kept {S : Blocks} {w w' : World} {v l fp} (h : TextsAt w v l fp) (k : Kept S w w') (hn : ∀ x ∈ fp, ¬ S x) : TextsAt w' v l fp := by
  rcases h with h | ⟨g, o, c, cur, hv, hf, hg, hr⟩
  · exact .inl h
  · exact .inr ⟨g, o, c, cur, hv, hf, k.get hg (hn g (by simp [hf])), hr⟩

theorem TextsAt.lt {w : World} {v l fp} (h : TextsAt w v l fp) : ∀ x ∈ fp, x < w.heap.size := fun x hx => by
  rcases h with ⟨_, _, h⟩ | ⟨g, o, c, cur, hv, hf, hg, hr⟩
  · rw [h] at hx; cases hx
  · rw [hf] at hx; simp at hx; rw [hx]; exact lt_of_heap hg

theorem TextsAt.slice {w : World} {v l fp} (h : TextsAt w v l fp) : ∃ pv c, v = .slice pv l.length c ∧ l.length ≤ c ∧ c ≤ 9223372036854775807 ∧ ∀ k (hk : k < l.length), ∃ b o, pv = some ⟨b, o, none⟩ ∧ w.cell? ⟨b, o + k, none⟩ = some (sv l[k]) := by
  rcases h with ⟨rfl, rfl, _⟩ | ⟨g, o, c, cur, rfl, hf, hg, h1, h2, h3, h4⟩
  · exact ⟨none, 0, rfl, Nat.zero_le _, by decide, fun k hk => by simp at hk⟩
  · refine ⟨some ⟨g, o, none⟩, c, rfl, h1, by unfold maxLen at h2; omega, fun k hk => ⟨g, o, rfl, ?_⟩⟩
    rw [cells_of' hg]
    exact h4 k l[k] (by simp [hk])

theorem TextsAt.of_row {w : World} {v : Value} {l : List Str} (h : Row w strT 1 v l.length (l.map sv)) : TextsAt w v l (fpv v) := by
  rcases h.2 with ⟨rfl, h0⟩ | ⟨g, cap, cur, rfl, hg0, hh, h1, h2, h3, h4⟩
  · exact .inl ⟨rfl, List.eq_nil_of_length_eq_zero h0, fpv_nil⟩
  · refine .inr ⟨g, 0, cap, cur, rfl, fpv_some, hh, h1, h2, by omega, fun j s hs => ?_⟩
    have hs' : (l.map sv)[j]? = some (sv s) := by rw [List.getElem?_map, hs]; rfl
    rw [← h4, List.getElem?_take] at hs'
    split at hs'
    · simpa using hs'
    · cases hs'

/-- The last one alone. -/
theorem TextsAt.last {w : World} {pv : Option Addr} {n c : Nat} {l : List Str} {fp} (h : TextsAt w (.slice pv n c) l fp) (hne : l ≠ []) : ∃ g o, pv = some ⟨g, o, none⟩ ∧ n = l.length ∧ TextsAt w (.slice (some ⟨g, o + (n - 1), none⟩) 1 (c - (n - 1))) (lastOne l) fp := by
  have hl : 0 < l.length := List.length_pos_iff.2 hne
  rcases h with ⟨_, rfl, _⟩ | ⟨g, o, c', cur, hv, hf, hg, h1, h2, h3, h4⟩
  · exact absurd rfl hne
  · simp only [Value.slice.injEq] at hv
    obtain ⟨rfl, rfl, rfl⟩ := hv
    have e : (lastOne l).length = 1 := by simp [lastOne]; omega
    refine ⟨g, o, rfl, rfl, .inr ⟨g, o + (l.length - 1), c - (l.length - 1), cur, by rw [e], hf, hg, by omega, by omega, by omega, fun j s hs => ?_⟩⟩
    have hj : j < 1 := by have := (List.getElem?_eq_some_iff.1 hs).1; omega
    have := h4 (l.length - 1 + j) s (by unfold lastOne at hs; rw [List.getElem?_drop] at hs; exact hs)
    rw [← Nat.add_assoc] at this
    exact this

theorem run_push_text (ty : TypeId) (w : World) (v : Value) (l : List Str) (fp : List Nat) (h : TextsAt w v l fp) (g c : Nat) (s : Str) (hu : w.cell? ⟨g, 0, none⟩ = some (sv s)) (hn : l.length ≤ 8000000000000) :
    ∃ v' w' fp', (Builtin.append_ #[34, 34] ty #[v, .slice (some ⟨g, 0, none⟩) 1 c]).run Tryz.prog w = .ok v' w' ∧ TextsAt w' v' (l ++ [s]) fp' ∧ Kept (fun x => x ∈ fp) w w' ∧ (∀ x ∈ fp', x ∈ fp ∨ w.heap.size ≤ x) ∧ ∃ pv cv, v' = .slice pv (l.length + 1) cv := by
  have hcell : ∀ j u', [sv s][j]? = some u' → w.cell? ⟨g, 0 + j, none⟩ = some u' := fun j u' hj => by
    match j, hj with
    | 0, hj => simp at hj; subst hj; simpa using hu
  have hone : ∀ u' ∈ [sv s], u'.oneCell' = true := fun u' hu' => by simp at hu'; subst hu'; rfl
  have hap : (l ++ [s]).map sv = l.map sv ++ [sv s] := by simp
  rcases h with ⟨rfl, rfl, rfl⟩ | ⟨G, o, C, cur, rfl, rfl, hg, h1, h2, h3, h4⟩
  · obtain ⟨v', w', hr, h2, h3, _⟩ := run_app tyStr ty w (.slice none 0 0) 0 [] ⟨rfl, .inl ⟨rfl, rfl⟩⟩ g 0 1 c [sv s] rfl hcell hone (by decide) (by decide)
    refine ⟨v', w', fpv v', hr, TextsAt.of_row (by simpa using h2), h3.1.mono (fun i hi _ => by simp [fpv_nil] at hi), fun x hx => ?_, ?_⟩
    · rcases h3.2 x hx with hx | hx
      · simp [fpv_nil] at hx
      · exact .inr hx
    · obtain ⟨pv, cv, e⟩ := h2.slice
      exact ⟨pv, cv, e⟩
  · obtain ⟨i, z, hi, hz, hs, hb, hzs⟩ := tyStr.info
    unfold maxLen at h2
    by_cases hroom : l.length + 1 ≤ C
    · obtain ⟨hc, hf⟩ := cells_of hg
      have hrun := run_append_room_cells (P := Tryz.prog) w 34 ty strT i tyStr.under hi G o l.length C ⟨g, 0, none⟩ 1 c [sv s] (by rw [hs]; rfl) (fun j u hj => by rw [add_at]; exact hcell j u hj) hone hroom
        (fun j hj => by
          rw [hc, hs]
          have : o + l.length * 1 + j < cur.size := by simp at hj; omega
          rw [Array.getElem?_eq_getElem this]; rfl) (fun j hj => hf _)
      rw [hs, Nat.mul_one] at hrun
      refine ⟨_, _, [G], hrun, .inr ⟨G, o, C, cur.setIfInBounds (o + l.length) (sv s), by simp, rfl, ?_, by simpa using hroom, by unfold maxLen; omega, by simpa using h3, fun j x hx => ?_⟩, ?_, fun x hx => .inl hx, ⟨_, _, rfl⟩⟩
      · show (w.setCell ⟨G, o + l.length, none⟩ (sv s)).heap[G]? = _
        exact heap_set_same hg
      · rw [Array.getElem?_setIfInBounds]
        by_cases hj : j < l.length
        · rw [List.getElem?_append_left hj] at hx
          rw [if_neg (by omega)]
          exact h4 j x hx
        · have hj2 : j = l.length := by
            have := (List.getElem?_eq_some_iff.1 hx).1
            simp at this; omega
          subst hj2
          rw [List.getElem?_append_right (Nat.le_refl _)] at hx
          simp at hx
          subst hx
          rw [if_pos rfl, if_pos (by omega)]
      · show Kept _ w (w.setCell ⟨G, o + l.length, none⟩ (sv s))
        exact (Kept.cell1 (b := G)).mono (fun i e _ => by rw [e]; simp)
    · have hcl : ∀ (j : Nat) (u : Value), (l.map sv)[j]? = some u → w.cell? (Addr.add ⟨G, o, none⟩ j) = some u := fun j u hj => by
        rw [add_at, cells_of' hg]
        simp only [List.getElem?_map, Option.map_eq_some_iff] at hj
        obtain ⟨x, hx, rfl⟩ := hj
        exact h4 j x hx
      obtain ⟨v', w', hr, hown, hgr⟩ := run_append_arg_grows (P := Tryz.prog) w 34 ty strT i z 1 16 tyStr.under hi hz hs hb hzs (by decide) ⟨G, o, none⟩ l.length C (l.map sv) (by simp) hcl ⟨g, 0, none⟩ 1 c [sv s] rfl (fun j u hj => by rw [add_at]; exact hcell j u hj) (by omega) (by unfold maxLen; omega) (by omega)
      have hrow : Row w' strT 1 v' (l ++ [s]).length ((l ++ [s]).map sv) := by
        rw [hap, List.length_append]
        exact ⟨hown.1, hown.2.imp id (fun ⟨g, cap, cur, hv, _, hr⟩ => ⟨g, cap, cur, hv, Nat.zero_le _, hr⟩)⟩
      refine ⟨v', w', fpv v', hr, TextsAt.of_row hrow, (Kept.of_grown hgr (fun k hk _ => by cases hk)), fun x hx => ?_, ?_⟩
      · rcases hown.2 with ⟨e, _⟩ | ⟨g', cap, cur', hv, hge, _⟩
        · rw [e, fpv_nil] at hx; cases hx
        · rw [hv, fpv_some] at hx; simp at hx; exact .inr (hx ▸ hge)
      · obtain ⟨pv, cv, e⟩ := hrow.slice
        exact ⟨pv, cv, by rw [e]; simp⟩

theorem wp_push_text {w : World} {o : Oper} {a : Act} {Q : Exit → Act → World → Prop} {K : Act → World → Prop} (s x : Operand) (ho : o.op = .call { callee := .builtin .append, args := #[s, x], argTypes := #[34, 34] })
    (v : Value) (l : List Str) (fp : List Nat) (hs : a.eval s = v) (h : TextsAt w v l fp) (g c : Nat) (u : Str) (hx : a.eval x = .slice (some ⟨g, 0, none⟩) 1 c) (hu : w.cell? ⟨g, 0, none⟩ = some (sv u)) (hn : l.length ≤ 8000000000000)
    (k : ∀ v' w' fp', TextsAt w' v' (l ++ [u]) fp' → Kept (fun x => x ∈ fp) w w' → (∀ x ∈ fp', x ∈ fp ∨ w.heap.size ≤ x) → (∃ pv cv, v' = .slice pv (l.length + 1) cv) → K (a.put o.dst v') w') : o.wp Tryz.prog a w K Q := by
  obtain ⟨v', w', fp', hr, h1, h2, h3, h4⟩ := run_push_text o.type w v l fp h g c u hu hn
  unfold Oper.wp execOp
  simp only [ho, resolve, invoke, builtin, Sem.run_bind, Sem.run_pure, Result.andThen_ok, List.map_toArray, List.map_cons, List.map_nil, hs, hx, hr]
  exact k v' w' fp' h1 h2 h3 h4
end Go.Proofs.YtdpfohgkikjeaaaGreat
/- A desk in memory. -/
namespace Go.Proofs.YtdpfohgkikjeaaaGreat
open Go.RowKit
set_option linter.unusedVariables false
set_option linter.unusedSimpArgs false

abbrev deskT : TypeId := 36

/-- What the cells of a desk tell beside its parts. -/
structure Nums where
  now : Str
  every : Nat
  since : Nat
  most : Nat

abbrev deskCells (bx bd : Nat) (vt vf : Value) (n : Nums) : Array Value := #[.pointer (some ⟨bx, 0, none⟩), .pointer (some ⟨bd, 0, none⟩), vt, vf, sv n.now, .int .i64 (n.every : Int), .int .i64 (n.since : Int), .int .i64 (n.most : Int)]

/-- Lists of blocks that have nothing in common. -/
abbrev Apart (l : List (List Nat)) : Prop := l.Pairwise fun a b => ∀ x ∈ a, x ∉ b

structure DeskM (w : World) (b : Nat) (d : DocS) (k : DiskS) (texts files : List Str) (n : Nums) (bx bd : Nat) (vt vf : Value) (fx fd ft ff : List Nat) : Prop where
  cells : w.heap[b]? = some (.cells (deskCells bx bd vt vf n) deskT (0, 0))
  doc : DocR w bx d fx
  disk : DiskR w bd k fd
  texts : TextsAt w vt texts ft
  files : TextsAt w vf files ff
  apart : Apart [[b], fx, fd, ft, ff]

abbrev deskFp (b : Nat) (fx fd ft ff : List Nat) : List Nat := b :: (fx ++ (fd ++ (ft ++ ff)))

theorem DeskM.kept {S : Blocks} {w w' : World} {b d k texts files n bx bd vt vf fx fd ft ff} (h : DeskM w b d k texts files n bx bd vt vf fx fd ft ff) (hk : Kept S w w') (hn : ∀ x ∈ deskFp b fx fd ft ff, ¬ S x) : DeskM w' b d k texts files n bx bd vt vf fx fd ft ff :=
  ⟨hk.get h.cells (hn b (by simp)), h.doc.kept hk (fun x hx => hn x (by simp [hx])), h.disk.kept hk (fun x hx => hn x (by simp [hx])), h.texts.kept hk (fun x hx => hn x (by simp [hx])), h.files.kept hk (fun x hx => hn x (by simp [hx])), h.apart⟩

theorem DeskM.lt {w : World} {b d k texts files n bx bd vt vf fx fd ft ff} (h : DeskM w b d k texts files n bx bd vt vf fx fd ft ff) : ∀ x ∈ deskFp b fx fd ft ff, x < w.heap.size := fun x hx => by
  simp only [deskFp, List.mem_cons, List.mem_append] at hx
  rcases hx with rfl | hx | hx | hx | hx
  · exact lt_of_heap h.cells
  · exact h.doc.lt x hx
  · exact h.disk.lt x hx
  · exact h.texts.lt x hx
  · exact h.files.lt x hx

/-- Blocks that are of the old ones or new have nothing in common with what was apart from the old ones. -/
theorem apart_new {w : World} {fp fp' l : List Nat} (h : ∀ x ∈ fp', x ∈ fp ∨ w.heap.size ≤ x) (hl : ∀ x ∈ l, x < w.heap.size) (ha : ∀ x ∈ fp, x ∉ l) : ∀ x ∈ fp', x ∉ l := fun x hx hx2 => by
  rcases h x hx with h | h
  · exact ha x h hx2
  · have := hl x hx2; omega

section
variable {w w' : World} {b : Nat} {d d' : DocS} {k k' : DiskS} {texts files texts' : List Str} {n n' : Nums} {bx bd : Nat} {vt vf vt' : Value} {fx fd ft ff ft' : List Nat}

theorem DeskM.ap (h : DeskM w b d k texts files n bx bd vt vf fx fd ft ff) : (b ∉ fx ∧ b ∉ fd ∧ b ∉ ft ∧ b ∉ ff) ∧ ((∀ x ∈ fx, x ∉ fd) ∧ (∀ x ∈ fx, x ∉ ft) ∧ (∀ x ∈ fx, x ∉ ff)) ∧ ((∀ x ∈ fd, x ∉ ft) ∧ (∀ x ∈ fd, x ∉ ff)) ∧ (∀ x ∈ ft, x ∉ ff) := by
  have := h.apart
  simpa [Apart, List.pairwise_cons] using this

theorem apart_mk (h1 : b ∉ fx ∧ b ∉ fd ∧ b ∉ ft ∧ b ∉ ff) (h2 : (∀ x ∈ fx, x ∉ fd) ∧ (∀ x ∈ fx, x ∉ ft) ∧ (∀ x ∈ fx, x ∉ ff)) (h3 : (∀ x ∈ fd, x ∉ ft) ∧ (∀ x ∈ fd, x ∉ ff)) (h4 : ∀ x ∈ ft, x ∉ ff) : Apart [[b], fx, fd, ft, ff] := by
  simpa [Apart, List.pairwise_cons] using And.intro h1 ⟨h2, h3, h4⟩

/-- A call of the document. -/
theorem DeskM.doc_to (h : DeskM w b d k texts files n bx bd vt vf fx fd ft ff) (t : DocTo w w' bx fx d') : ∃ fx', DeskM w' b d' k texts files n bx bd vt vf fx' fd ft ff ∧ (∀ x ∈ fx', x ∈ fx ∨ w.heap.size ≤ x) := by
  obtain ⟨⟨fx', hd, hx⟩, hk⟩ := t
  obtain ⟨⟨a1, a2, a3, a4⟩, ⟨b1, b2, b3⟩, c1, c2⟩ := h.ap
  have hlt := h.lt
  have hbl : b < w.heap.size := hlt b (by simp)
  refine ⟨fx', ⟨hk.get h.cells a1, hd, h.disk.kept hk (fun x hx hx2 => b1 x hx2 hx), h.texts.kept hk (fun x hx hx2 => b2 x hx2 hx), h.files.kept hk (fun x hx hx2 => b3 x hx2 hx), apart_mk ⟨fun hb => ?_, a2, a3, a4⟩ ⟨?_, ?_, ?_⟩ c1 c2⟩, hx⟩
  · rcases hx b hb with hb | hb
    · exact a1 hb
    · omega
  · exact apart_new hx h.disk.lt b1
  · exact apart_new hx h.texts.lt b2
  · exact apart_new hx h.files.lt b3

/-- A call of the disk. -/
theorem DeskM.disk_to (h : DeskM w b d k texts files n bx bd vt vf fx fd ft ff) (t : DiskTo w w' bd fd k') : ∃ fd', DeskM w' b d k' texts files n bx bd vt vf fx fd' ft ff ∧ (∀ x ∈ fd', x ∈ fd ∨ w.heap.size ≤ x) := by
  obtain ⟨⟨fd', hd, hx⟩, hk⟩ := t
  obtain ⟨⟨a1, a2, a3, a4⟩, ⟨b1, b2, b3⟩, ⟨c1, c2⟩, c3⟩ := h.ap
  have hlt := h.lt
  have hbl : b < w.heap.size := hlt b (by simp)
  refine ⟨fd', ⟨hk.get h.cells a2, h.doc.kept hk (fun x hx hx2 => b1 x hx hx2), hd, h.texts.kept hk (fun x hx hx2 => c1 x hx2 hx), h.files.kept hk (fun x hx hx2 => c2 x hx2 hx), apart_mk ⟨a1, fun hb => ?_, a3, a4⟩ ⟨fun x hx1 hx2 => ?_, b2, b3⟩ ⟨?_, ?_⟩ c3⟩, hx⟩
  · rcases hx b hb with hb | hb
    · exact a2 hb
    · omega
  · rcases hx x hx2 with h2 | h2
    · exact b1 x hx1 h2
    · have := h.doc.lt x hx1; omega
  · exact apart_new hx h.texts.lt c1
  · exact apart_new hx h.files.lt c2

/-- The cells of the desk are turned. -/
theorem DeskM.store (h : DeskM w b d k texts files n bx bd vt vf fx fd ft ff) (hk : Kept (fun x => x = b) w w') (hc : w'.heap[b]? = some (.cells (deskCells bx bd vt' vf n') deskT (0, 0))) (ht : TextsAt w vt' texts' ft') (ha : (b ∉ ft') ∧ (∀ x ∈ fx, x ∉ ft') ∧ (∀ x ∈ fd, x ∉ ft') ∧ (∀ x ∈ ft', x ∉ ff)) : DeskM w' b d k texts' files n' bx bd vt' vf fx fd ft' ff := by
  obtain ⟨⟨a1, a2, a3, a4⟩, ⟨b1, b2, b3⟩, ⟨c1, c2⟩, c3⟩ := h.ap
  refine ⟨hc, h.doc.kept hk (fun x hx e => a1 (e ▸ hx)), h.disk.kept hk (fun x hx e => a2 (e ▸ hx)), ht.kept hk (fun x hx e => ha.1 (e ▸ hx)), h.files.kept hk (fun x hx e => a4 (e ▸ hx)), apart_mk ⟨a1, a2, ha.1, a4⟩ ⟨b1, ha.2.1, b3⟩ ⟨ha.2.2.1, c2⟩ ha.2.2.2⟩

theorem DeskM.store0 (h : DeskM w b d k texts files n bx bd vt vf fx fd ft ff) (hk : Kept (fun x => x = b) w w') (hc : w'.heap[b]? = some (.cells (deskCells bx bd vt vf n') deskT (0, 0))) : DeskM w' b d k texts files n' bx bd vt vf fx fd ft ff := by
  obtain ⟨⟨a1, a2, a3, a4⟩, ⟨b1, b2, b3⟩, ⟨c1, c2⟩, c3⟩ := h.ap
  exact h.store hk hc h.texts ⟨a3, b2, c1, c3⟩

/-- The files' row is turned. -/
theorem DeskM.storeF {vf' : Value} {files' : List Str} {ff' : List Nat} (h : DeskM w b d k texts files n bx bd vt vf fx fd ft ff) (hk : Kept (fun x => x = b) w w') (hc : w'.heap[b]? = some (.cells (deskCells bx bd vt vf' n') deskT (0, 0))) (ht : TextsAt w vf' files' ff') (ha : (b ∉ ff') ∧ (∀ x ∈ fx, x ∉ ff') ∧ (∀ x ∈ fd, x ∉ ff') ∧ (∀ x ∈ ft, x ∉ ff')) : DeskM w' b d k texts files' n' bx bd vt vf' fx fd ft ff' := by
  obtain ⟨⟨a1, a2, a3, a4⟩, ⟨b1, b2, b3⟩, ⟨c1, c2⟩, c3⟩ := h.ap
  exact ⟨hc, h.doc.kept hk (fun x hx e => a1 (e ▸ hx)), h.disk.kept hk (fun x hx e => a2 (e ▸ hx)), h.texts.kept hk (fun x hx e => a3 (e ▸ hx)), ht.kept hk (fun x hx e => ha.1 (e ▸ hx)), apart_mk ⟨a1, a2, a3, ha.1⟩ ⟨b1, b2, ha.2.1⟩ ⟨c1, ha.2.2.1⟩ ha.2.2.2⟩

/-- The texts' row has grown. -/
theorem DeskM.grewT (h : DeskM w b d k texts files n bx bd vt vf fx fd ft ff) (hk : Kept (fun x => x ∈ ft) w w') (hx : ∀ x ∈ ft', x ∈ ft ∨ w.heap.size ≤ x) :
    w'.heap[b]? = some (.cells (deskCells bx bd vt vf n) deskT (0, 0)) ∧ DocR w' bx d fx ∧ DiskR w' bd k fd ∧ TextsAt w' vf files ff ∧ Apart [[b], fx, fd, ft', ff] := by
  obtain ⟨⟨a1, a2, a3, a4⟩, ⟨b1, b2, b3⟩, ⟨c1, c2⟩, c3⟩ := h.ap
  have hbl : b < w.heap.size := h.lt b (by simp)
  refine ⟨hk.get h.cells a3, h.doc.kept hk (fun x hx hx2 => b2 x hx hx2), h.disk.kept hk (fun x hx hx2 => c1 x hx hx2), h.files.kept hk (fun x hx hx2 => c3 x hx2 hx), apart_mk ⟨a1, a2, fun hb => ?_, a4⟩ ⟨b1, fun x h1 h2 => ?_, b3⟩ ⟨fun x h1 h2 => ?_, c2⟩ ?_⟩
  · rcases hx b hb with hb | hb
    · exact a3 hb
    · omega
  · rcases hx x h2 with h2 | h2
    · exact b2 x h1 h2
    · have := h.doc.lt x h1; omega
  · rcases hx x h2 with h2 | h2
    · exact c1 x h1 h2
    · have := h.disk.lt x h1; omega
  · exact apart_new hx h.files.lt c3

theorem DeskM.grewF {ff' : List Nat} (h : DeskM w b d k texts files n bx bd vt vf fx fd ft ff) (hk : Kept (fun x => x ∈ ff) w w') (hx : ∀ x ∈ ff', x ∈ ff ∨ w.heap.size ≤ x) :
    w'.heap[b]? = some (.cells (deskCells bx bd vt vf n) deskT (0, 0)) ∧ DocR w' bx d fx ∧ DiskR w' bd k fd ∧ TextsAt w' vt texts ft ∧ Apart [[b], fx, fd, ft, ff'] := by
  obtain ⟨⟨a1, a2, a3, a4⟩, ⟨b1, b2, b3⟩, ⟨c1, c2⟩, c3⟩ := h.ap
  have hbl : b < w.heap.size := h.lt b (by simp)
  refine ⟨hk.get h.cells a4, h.doc.kept hk (fun x hx hx2 => b3 x hx hx2), h.disk.kept hk (fun x hx hx2 => c2 x hx hx2), h.texts.kept hk (fun x hx hx2 => c3 x hx hx2), apart_mk ⟨a1, a2, a3, fun hb => ?_⟩ ⟨b1, b2, fun x h1 h2 => ?_⟩ ⟨c1, fun x h1 h2 => ?_⟩ (fun x h1 h2 => ?_)⟩
  · rcases hx b hb with hb | hb
    · exact a4 hb
    · omega
  · rcases hx x h2 with h2 | h2
    · exact b3 x h1 h2
    · have := h.doc.lt x h1; omega
  · rcases hx x h2 with h2 | h2
    · exact c2 x h1 h2
    · have := h.disk.lt x h1; omega
  · rcases hx x h2 with h2 | h2
    · exact c3 x h1 h2
    · have := h.texts.lt x h1; omega
end

/-- The desk D lies at b, its document at bx, its disk at bd; its blocks are fp. -/
def DeskR (w : World) (b bx bd : Nat) (D : DeskS) (fp : List Nat) : Prop := ∃ vt vf fx fd ft ff, DeskM w b D.doc D.disk D.mt D.mf ⟨D.doc.text, D.doc.every, D.doc.counted, D.most⟩ bx bd vt vf fx fd ft ff ∧ fp = deskFp b fx fd ft ff

theorem DeskR.kept {S : Blocks} {w w' : World} {b bx bd D fp} (h : DeskR w b bx bd D fp) (k : Kept S w w') (hn : ∀ x ∈ fp, ¬ S x) : DeskR w' b bx bd D fp := by
  obtain ⟨vt, vf, fx, fd, ft, ff, h, rfl⟩ := h
  exact ⟨vt, vf, fx, fd, ft, ff, h.kept k hn, rfl⟩
theorem DeskR.lt {w : World} {b bx bd D fp} (h : DeskR w b bx bd D fp) : ∀ x ∈ fp, x < w.heap.size := by
  obtain ⟨vt, vf, fx, fd, ft, ff, h, rfl⟩ := h
  exact h.lt

/-- What a call leaves of a desk. -/
structure DeskTo (w w' : World) (b bx bd : Nat) (fp : List Nat) (D' : DeskS) : Prop where
  ex : ∃ fp', DeskR w' b bx bd D' fp' ∧ ∀ x ∈ fp', x ∈ fp ∨ w.heap.size ≤ x
  kept : Kept (fun x => x ∈ fp) w w'

/-- A desk whose own numbers are nm, whatever its document tells. -/
def DeskRn (w : World) (b bx bd : Nat) (D : DeskS) (nm : Nums) (fp : List Nat) : Prop := ∃ vt vf fx fd ft ff, DeskM w b D.doc D.disk D.mt D.mf nm bx bd vt vf fx fd ft ff ∧ fp = deskFp b fx fd ft ff
structure DeskTon (w w' : World) (b bx bd : Nat) (nm : Nums) (fp : List Nat) (D' : DeskS) : Prop where
  ex : ∃ fp', DeskRn w' b bx bd D' nm fp' ∧ ∀ x ∈ fp', x ∈ fp ∨ w.heap.size ≤ x
  kept : Kept (fun x => x ∈ fp) w w'
end Go.Proofs.YtdpfohgkikjeaaaGreat

/- Part XAny 1 of the proof: see its parts. -/
import Derived.Deep.Strs
import Derived.Lib.ConvBytes
import Derived.Test.YtdpfohgkikjeaaaGreatW12
/- Again: the walk. -/
namespace Go.Proofs.YtdpfohgkikjeaaaGreat
open Go.RowKit
set_option linter.unusedVariables false
set_option linter.unusedSimpArgs false

theorem of_now (secs : List Str) (f : Str) : (DiskS.of secs f).now = secs := by
  show List.map lastOf (List.map _ secs) = secs
  rw [List.map_map]
  conv => rhs; rw [← List.map_id secs]
  rfl

set_option maxRecDepth 100000 in
set_option maxHeartbeats 16000000 in
theorem again_walk {w : World} {B : Nat} {v vs1 vl vs2 : Value} {raw left : List Int} (hr : IntsAt w B v raw) (every : Int) (he : RawOk every) (l1 : List (Int × Int × List Int)) (hl1 : MovesAt w B vs1 l1) (hleft : IntsAt w B vl left) (l2 : List (Int × Int × List Int)) (hl2 : MovesAt w B vs2 l2) (hn1 : l1.length ≤ 1000000000) (hn2 : l2.length ≤ 1000000000) :
    Calls Tryz.prog 8 #[v, .int .i64 every, vs1, vl, vs2] w fun e w' => e = .returned (.bool true) ∧ Kept no w w' := by
  go_enter Tryz.func8, Tryz.ntmps8
  go_wp2_with fail
  refine (begin_any hr every he).mono ?_
  rintro e w1 ⟨b, bx, bd, fp, D, rfl, hR, hB, hge, hk1⟩
  have hl11 := hl1.kept hk1 (fun _ h => h.elim)
  have g := hB.going
  clear hB
  have hBl := hl1.low
  go_wp2_with fail
  refine (plays_any hR g vs1 l1 hl11 (by omega) (by decide) (fun x hx => Nat.le_trans hBl (hge x hx))).mono ?_
  rintro e w2 ⟨rfl, bx2, bd2, fp2, D2, hR2, g2, -, hx2, hk2⟩
  have hge2 : ∀ x ∈ fp2, w.heap.size ≤ x := fun x hx => (hx2 x hx).elim (hge x) (fun h => Nat.le_trans hk1.size h)
  have hkw2 : Kept no w w2 := hk1.step' hk2 (fun x hx hlt => by have := hge x hx; omega)
  obtain ⟨vt, vf, fx, fd, ft, ff, hM, rfl⟩ := hR2
  have hbd := (cells_of hM.cells).1
  go_wp2_with fail
  refine (crash_any hM.disk g2.ok.lens (by omega) (by decide) (hleft.kept hkw2 (fun _ h => h.elim))).mono ?_
  rintro e w5 ⟨⟨BK, fk, secs, f, rfl, hKD, hsl, hlv, hlf, hkn, hk5⟩⟩
  have hM5 := hM.kept hk5 (fun _ _ h => h)
  have hR5 : DeskR w5 b bx2 bd2 D2 (deskFp b fx fd ft ff) := ⟨_, _, _, _, _, _, hM5, rfl⟩
  have h64 := leaves_size g2.ok.lens hlv
  go_wp2_with fail
  refine (back_any hR5 g2.ok g2.known (by omega) (by decide) hKD hsl hlv (g2.ok.file.leaves hlf) g2.mf g2.mt (leavesFile_len g2.ok.lens hlf) (fun x hx hx2' => by have := hkn x hx; have := hM.lt x hx2'; omega)).mono ?_
  rintro e w6 ⟨rfl, ls, hh, hd, bx', fp', hls, hch, hF, hR6, hok6, hx6, hk6⟩
  have hge6 : ∀ x ∈ fp', w.heap.size ≤ x := fun x hx => by
    have hs1 := hkw2.size
    have hs2 := hk5.size
    rcases hx6 x hx with h | h | h
    · exact hge2 x h
    · have := hkn x h; omega
    · omega
  have hkw6 : Kept no w w6 := (hkw2.step hk5).step' hk6 (fun x hx hlt => by have := hge2 x hx; omega)
  have hgo6 : Going (DeskS.back ls f D2.doc.every hh hd secs D2.most) 1 2460 := ⟨hok6, rfl, rfl, rfl⟩
  have htx6 : (DeskS.back ls f D2.doc.every hh hd secs D2.most).doc.text = textOf ls := rfl
  have hdk6 : (DeskS.back ls f D2.doc.every hh hd secs D2.most).disk = DiskS.of secs f := rfl
  have hfl2 : f.length ≤ 1099511627776 := by have := leavesFile_len g2.ok.lens hlf; omega
  clear hM hM5 hR5 hKD hlv hlf hkn hbd hR hl11 g g2 hch hx2 hx6 hk6 hk5 hk2
  generalize hD3 : DeskS.back ls f D2.doc.every hh hd secs D2.most = D3 at hR6 hok6 hgo6 htx6 hdk6
  clear hD3
  obtain ⟨same, hsame⟩ : ∃ same : Bool, same = true ↔ markOf f = hd.file := by
    by_cases e : markOf f = hd.file
    · exact ⟨true, by simp [e]⟩
    · exact ⟨false, by simp [e]⟩
  obtain ⟨vt6, vf6, fx6, fd6, ft6, ff6, hM6, rfl⟩ := hR6
  have hK6 := hM6.disk
  rw [hdk6] at hK6
  have hok6d := hok6.lens
  rw [hdk6] at hok6d
  go_wp2_with fail
  -- Recover of the swap as it stands
  have hcx : ∀ W, Kept no w6 W → W.cell? ⟨BK, 1, none⟩ = some (sv f) := fun W hW => hW.read hK6.fileCell (fun h => h)
  refine wp_region5 (fun W => Kept no w6 W) [(0, true), (2, true), (3, true), (4, true), (5, false)] [(1, false), (6, false), (7, true), (8, true), (9, true), (10, true), (11, true), (12, true), (13, true)] (by kernel_rfl) (by kernel_rfl) (fun _ _ d _ _ h => by cases d <;> exact h) ((Kept.refl _ _).drew) ?_
  repeat ((first | refine wpPre3_pure rfl rfl (fun W => (by go_simp; rfl)) ?_ | refine wpPre3_read rfl rfl (fun W hW => (by have h1 := hcx W hW; go_simp; rfl)) ?_); simp only [Act.put, List.setIfInBounds_toArray, List.set])
  refine wpPre3_nil ?_
  have hkxa : Kept no w6 w6.drew := (Kept.refl _ _).drew
  generalize w6.drew = wxa at hkxa ⊢
  have hdxa := hK6.kept hkxa (fun _ _ h => h)
  refine wpMix_cons rfl rfl (fun K hK => ?_)
  go_wp2_with fail
  refine (now_any hdxa hok6d (by decide)).mono ?_
  rintro e wxb ⟨vx, rfl, hrowx, hvnx, hkxb⟩
  refine hK _ _ ⟨fun h => h.step hkxb, ?_⟩
  clear hK
  rw [of_now] at hrowx
  refine wpMix_cons rfl rfl (fun K hK => ?_)
  go_wp2_with fail
  refine (recover_yes hrowx hsl h64 hls hF f hfl2 3 _ rfl (by decide) (by decide) same hsame).mono ?_
  rintro e wxc ⟨Bx, fx, rfl, hDocx, hBx, hkxc⟩
  refine hK _ _ ⟨fun h => h.step hkxc, ?_⟩
  clear hK
  repeat (refine wpMix_pure rfl rfl (fun W => (by go_simp; rfl)) ?_; simp only [Act.put, List.setIfInBounds_toArray, List.set])
  refine wpMix_nil ?_
  have hkx : Kept no w6 wxc := (hkxa.step hkxb).step hkxc
  clear hcx hdxa hrowx
  have hKx := hK6.kept hkx (fun _ _ h => h)
  go_wp2_with fail
  -- Recover of the swap as it stands
  have hcy : ∀ W, Kept no wxc W → W.cell? ⟨BK, 1, none⟩ = some (sv f) := fun W hW => hW.read hKx.fileCell (fun h => h)
  refine wp_region5 (fun W => Kept no wxc W) [(0, true), (2, true), (3, true), (4, true), (5, false)] [(1, false), (6, false), (7, true), (8, true), (9, true), (10, true), (11, true), (12, true), (13, true)] (by kernel_rfl) (by kernel_rfl) (fun _ _ d _ _ h => by cases d <;> exact h) ((Kept.refl _ _).drew) ?_
  repeat ((first | refine wpPre3_pure rfl rfl (fun W => (by go_simp; rfl)) ?_ | refine wpPre3_read rfl rfl (fun W hW => (by have h1 := hcy W hW; go_simp; rfl)) ?_); simp only [Act.put, List.setIfInBounds_toArray, List.set])
  refine wpPre3_nil ?_
  have hkya : Kept no wxc wxc.drew := (Kept.refl _ _).drew
  generalize wxc.drew = wya at hkya ⊢
  have hdya := hKx.kept hkya (fun _ _ h => h)
  refine wpMix_cons rfl rfl (fun K hK => ?_)
  go_wp2_with fail
  refine (now_any hdya hok6d (by decide)).mono ?_
  rintro e wyb ⟨vy, rfl, hrowy, hvny, hkyb⟩
  refine hK _ _ ⟨fun h => h.step hkyb, ?_⟩
  clear hK
  rw [of_now] at hrowy
  refine wpMix_cons rfl rfl (fun K hK => ?_)
  go_wp2_with fail
  refine (recover_yes hrowy hsl h64 hls hF f hfl2 7 _ rfl (by decide) (by decide) same hsame).mono ?_
  rintro e wyc ⟨By, fy, rfl, hDocy, hBy, hkyc⟩
  refine hK _ _ ⟨fun h => h.step hkyc, ?_⟩
  clear hK
  repeat (refine wpMix_pure rfl rfl (fun W => (by go_simp; rfl)) ?_; simp only [Act.put, List.setIfInBounds_toArray, List.set])
  refine wpMix_nil ?_
  have hky : Kept no wxc wyc := (hkya.step hkyb).step hkyc
  clear hcy hdya hrowy
  have hDx := hDocx.kept hky (fun _ _ h => h)
  have htxx : (DocS.readBack ls f 3 hh hd.number).text = textOf ls := rfl
  have htxy : (DocS.readBack ls f 7 hh hd.number).text = textOf ls := rfl
  generalize DocS.readBack ls f 3 hh hd.number = qx at hDocx hDx htxx
  generalize DocS.readBack ls f 7 hh hd.number = qy at hDocy htxy
  have hM7 := (hM6.kept hkx (fun _ _ h => h)).kept hky (fun _ _ h => h)
  have hkw7 := (hkw6.step hkx).step hky
  generalize wyc = w7 at *
  go_wp2_with fail
  refine (text_doc hDx).mono ?_
  rintro e w8 ⟨rfl, hk8⟩
  rw [htxx]
  go_wp2_with fail
  refine (text_doc (hDocy.kept hk8 (fun _ _ h => h))).mono ?_
  rintro e w9 ⟨rfl, hk9⟩
  rw [htxy]
  have hM9 := (hM7.kept hk8 (fun _ _ h => h)).kept hk9 (fun _ _ h => h)
  have hkw9 := (hkw7.step hk8).step hk9
  obtain ⟨hc9, hf9⟩ := cells_of hM9.cells
  go_wp2_with fail
  refine (text_doc hM9.doc).mono ?_
  rintro e w10 ⟨rfl, hk10⟩
  rw [htx6]
  generalize textOf ls = t
  have hM10 := hM9.kept hk10 (fun _ _ h => h)
  have hkw10 := hkw9.step hk10
  have hR10 : DeskR w10 b bx' BK D3 (deskFp b fx6 fd6 ft6 ff6) := ⟨_, _, _, _, _, _, hM10, rfl⟩
  have hl12 := hl2.kept hkw10 (fun _ h => h.elim)
  clear hM6 hM7 hM9 hc9 hf9 hK6 hKx hDocx hDocy hDx
  go_wp2_with fail
  refine (plays_any hR10 hgo6 vs2 l2 hl12 (by omega) (by decide) (fun x hx => Nat.le_trans hBl (hge6 x hx))).mono ?_
  rintro e w11 ⟨rfl, bx3, bd3, fp3, D4, hR11, g4, -, hx11, hk11⟩
  have hge11 : ∀ x ∈ fp3, w.heap.size ≤ x := fun x hx => (hx11 x hx).elim (hge6 x) (fun h => Nat.le_trans hkw10.size h)
  have hkw11 : Kept no w w11 := hkw10.step' hk11 (fun x hx hlt => by have := hge6 x hx; omega)
  clear hM10 hR10
  obtain ⟨vt, vf, fx, fd, ft, ff, hM, rfl⟩ := hR11
  have hbd := (cells_of hM.cells).1
  have htt : (t == t) = true := by simp
  have hss : (same == same) = true := by simp
  go_wp2_with fail
  refine (crash_any hM.disk g4.ok.lens (by omega) (by decide) (hleft.kept hkw11 (fun _ h => h.elim))).mono ?_
  rintro e w12 ⟨⟨BL, fk2, secs2, f2, rfl, hKD, hsl2, hlv, hlf, hkn, hk12⟩⟩
  have hM12 := hM.kept hk12 (fun _ _ h => h)
  have hR12 : DeskR w12 b bx3 bd3 D4 (deskFp b fx fd ft ff) := ⟨_, _, _, _, _, _, hM12, rfl⟩
  go_wp2_with fail
  refine (back_any hR12 g4.ok g4.known (by omega) (by decide) hKD hsl2 hlv (g4.ok.file.leaves hlf) g4.mf g4.mt (leavesFile_len g4.ok.lens hlf) (fun x hx hx2' => by have := hkn x hx; have := hM.lt x hx2'; omega)).mono ?_
  rintro e w13 ⟨rfl, ls2, hh2, hd2, bx4, fp4, hls2, hch2, hF2, hR13, hok13, hx13, hk13⟩
  go_wp2
  go_ret
  exact ⟨by simp, (hkw11.step hk12).step' hk13 (fun x hx hlt => by have := hge11 x hx; omega)⟩
end Go.Proofs.YtdpfohgkikjeaaaGreat
/- Arguments that are rows of strings: how they are read, and that they read so again. -/
namespace Go.Proofs.YtdpfohgkikjeaaaGreat
open Go.RowKit Go.ChangeShapes Go.WideShapes Go.ChangeAt Go.Deep
set_option linter.unusedVariables false
set_option linter.unusedSimpArgs false

/-- Strings that are read: in blocks below B. -/
structure StrsArg (w : World) (B : Nat) (v : Value) (l : List Str) : Prop where
  few : l.length ≤ 9223372036854775807
  lens : ∀ s ∈ l, s.length ≤ 9223372036854775807
  low : B ≤ w.heap.size
  at_ : (∃ a c, v = .slice a 0 c ∧ l = []) ∨ ∃ b o c, v = .slice (some ⟨b, o, none⟩) l.length c ∧ b < B ∧ ∀ j s, l[j]? = some s → w.cell? ⟨b, o + j, none⟩ = some (sv s)

theorem StrsArg.kept {S : Blocks} {w w' : World} {B v l} (h : StrsArg w B v l) (k : Kept S w w') (hn : ∀ x, S x → B ≤ x) : StrsArg w' B v l := by
  refine ⟨h.few, h.lens, Nat.le_trans h.low k.size, ?_⟩
  rcases h.at_ with h1 | ⟨b, o, c, hv, hb, hc⟩
  · exact .inl h1
  · exact .inr ⟨b, o, c, hv, hb, fun j x hx => k.read (hc j x hx) (fun hs => by have := hn b hs; omega)⟩

theorem cellsString : Tryz.prog.cellsOf 9 = 1 := by kernel_rfl

theorem strs_arg {H : Type} {enc : TypeId × Value → H} {W : World} {v : Value} {d : DataW H} {p : List MemPlace}
    (hv : ∃ a len cap, v = .slice a len cap) (h0 : DataW.Trod enc Tryz.prog W 0 (fun _ => true) true 34 v d p) (hlt : ∀ q ∈ p, q.block < W.heap.size) :
    ∃ l, StrsArg W W.heap.size v l ∧ ∀ W', Kept no W W' → ∀ sp : Nat → Bool, (∀ q ∈ p, sp q.block = true) → DataW.Trod enc Tryz.prog W' 0 sp true 34 v d p := by
  obtain ⟨a0, len, cap, rfl⟩ := hv
  obtain ⟨fuel, hf⟩ := h0
  rcases open_strs Tryz.underlying34 Tryz.underlying9 cellsString hf with ⟨hcs, hx⟩ | ⟨a, len', cap', m, Sx, hcs, _, hl, hm, hmm, hx, hel⟩
  · simp [Value.cells] at hcs
    obtain ⟨rfl, rfl, rfl⟩ := hcs
    simp only [Prod.mk.injEq] at hx
    obtain ⟨rfl, rfl⟩ := hx
    exact ⟨[], ⟨by simp, by simp, Nat.le_refl _, .inl ⟨_, _, rfl, rfl⟩⟩, fun W' hk sp _ => ⟨1, by simp [DataW.trod, Tryz.underlying34, Value.cells]⟩⟩
  · simp [Value.cells] at hcs
    obtain ⟨rfl, rfl, rfl⟩ := hcs
    simp only [Prod.mk.injEq] at hx
    obtain ⟨rfl, rfl⟩ := hx
    simp only [if_true] at hmm
    subst hmm
    have hcell : ∀ W', Kept no W W' → ∀ i, i < m → W'.cell? (a.add i) = some (.string (Sx i)) := fun W' hk i hi => by
      have hb : a.block < W.heap.size := hlt (.cell a.block a.off) (MemPlace.mem_row.2 ⟨0, by omega, by simp⟩)
      rw [World.cell?_of_block (w := W) (hk.block _ (by rw [block_add]; exact hb) (fun h => h))]
      exact (hel i hi).1
    refine ⟨(List.range len).map fun i => (Sx i).data.toList, ⟨by rw [List.length_map, List.length_range]; unfold maxLen at hm; omega, fun s hs => ?_, Nat.le_refl _, ?_⟩, fun W' hk sp hsp => ?_⟩
    · obtain ⟨i, hi, rfl⟩ := List.mem_map.1 hs
      have := (hel i (by have := List.mem_range.1 hi; omega)).2
      unfold maxLen at this
      rw [Array.length_toList]
      exact this
    · by_cases h0 : len = 0
      · subst h0
        exact .inl ⟨_, _, rfl, rfl⟩
      · have hpl := plain_addr (hel 0 (by omega)).1
        refine .inr ⟨a.block, a.off, m, by rw [List.length_map, List.length_range, ← hpl], hlt (.cell a.block a.off) (MemPlace.mem_row.2 ⟨0, by omega, by simp⟩), fun j x hx => ?_⟩
        have hj : j < len := by have := (List.getElem?_eq_some_iff.1 hx).1; simpa using this
        have hE : (Sx j).data.toList = x := by simpa [hj] using hx
        subst hE
        have hc := (hel j (by omega)).1
        rw [hpl, add_at] at hc
        rw [hc]
    · by_cases hm0 : m = 0
      · subst hm0
        obtain rfl : len = 0 := by omega
        cases hb : sp a.block with
        | true =>
          obtain ⟨n, hn⟩ := shut_slice_whole_cells (enc := enc) (P := Tryz.prog) (w := W') (base := 0) (spare := sp) (held := true) (a := a) Tryz.underlying34 (Nat.zero_le _) hl hm hb (fun i => .lit (.string (Sx i).data.toList)) (fun _ => []) (fun i hi => absurd hi (Nat.not_lt_zero _))
          exact ⟨n, by simpa [Value.cells, MemPlace.row, cellsString] using hn⟩
        | false =>
          obtain ⟨n, hn⟩ := shut_slice_cells (enc := enc) (P := Tryz.prog) (w := W') (base := 0) (spare := sp) (held := true) (a := a) Tryz.underlying34 (Nat.zero_le _) hl hm hb (fun i => .lit (.string (Sx i).data.toList)) (fun _ => []) (fun i hi => absurd hi (Nat.not_lt_zero _))
          exact ⟨n, by simpa [Value.cells, MemPlace.row, cellsString] using hn⟩
      · have hpl := plain_addr (hel 0 (by omega)).1
        have hspb : sp a.block = true := hsp (.cell a.block a.off) (MemPlace.mem_row.2 ⟨0, by omega, by simp⟩)
        have hc' := hcell W' hk
        have hS := fun i hi => (hel i hi).2
        clear hf hel hcell hlt hsp
        rw [hpl]
        rw [hpl] at hc' hspb
        obtain ⟨n, hn⟩ := shut_strs_whole (enc := enc) (w := W') (base := 0) (spare := sp) (held := true) (b := a.block) (off := a.off) Tryz.underlying34 Tryz.underlying9 cellsString (Nat.zero_le _) hl hm hspb Sx (fun i hi => by rw [← add_at]; exact hc' i hi) hS
        exact ⟨n, by simpa [Value.cells] using hn⟩
end Go.Proofs.YtdpfohgkikjeaaaGreat
/- The field of a view. -/
namespace Go.Proofs.YtdpfohgkikjeaaaGreat
open Go.RowKit
set_option linter.unusedVariables false
set_option linter.unusedSimpArgs false

theorem view_lines (a b c : Int) (W : World) : (Instr.field 44 (.agg #[.int .i64 a, .int .i64 b, .int .i64 c]) 0).run Tryz.prog W = .ok (.int .i64 a) W := by
  simp [Instr.field, run_underlying Tryz.underlying44, asAgg, part, isAgg, run_underlying Tryz.underlying3]
end Go.Proofs.YtdpfohgkikjeaaaGreat
/- The document's own answer: every, IsLine, Sum. -/
namespace Go.Proofs.YtdpfohgkikjeaaaGreat
open Go.RowKit
set_option linter.unusedVariables false
set_option linter.unusedSimpArgs false

theorem every_ref (n : Int) (w : World) : Calls Tryz.prog 122 #[.int .i64 n] w fun e w' => e = .returned (.bool (decide (1 ≤ n ∧ n ≤ 20))) ∧ w' = w := by
  by_cases h1 : 1 ≤ n
  · by_cases h2 : n ≤ 20
    · rw [decide_eq_true ⟨h1, h2⟩]
      have h1' : n ≥ 1 := h1
      go_enter Tryz.func122, Tryz.ntmps122
      go_wp2
      go_ret
      exact ⟨by simp [h1, h2], rfl⟩
    · rw [decide_eq_false (fun h => h2 h.2)]
      have h1' : n ≥ 1 := h1
      go_enter Tryz.func122, Tryz.ntmps122
      go_wp2
      go_ret
      exact ⟨by simp [h1, h2], rfl⟩
  · rw [decide_eq_false (fun h => h1 h.1)]
    have h1' : ¬ n ≥ 1 := h1
    go_enter Tryz.func122, Tryz.ntmps122
    go_wp2
    go_ret
    exact ⟨by simp, rfl⟩

theorem isLine_ref (s : Str) (w : World) (hs : s.length ≤ 1099511627776) : Calls Tryz.prog 124 #[sv s] w fun e w' => e = .returned (.bool (decide (LineOk s))) ∧ w' = w := by
  obtain ⟨S, hS⟩ : ∃ S : ByteArray, S = ⟨s.toArray⟩ := ⟨_, rfl⟩
  have hsz : S.size = s.length := by rw [hS, size_mk]
  have hget : ∀ k (h : k < S.size) b, s[k]? = some b → S[k] = b := fun k h b hb => by
    subst hS
    have h2 : k < s.length := by rwa [size_mk] at h
    rw [List.getElem?_eq_getElem h2] at hb
    exact Option.some.inj hb
  show Calls Tryz.prog 124 #[.string ⟨s.toArray⟩] w _
  rw [← hS]
  clear hS
  have HG : Hid (∀ k (h : k < S.size) b, s[k]? = some b → S[k] = b) := hget
  have HZ : Hid (S.size = s.length) := hsz
  have hsz' : S.size ≤ 1099511627776 := by omega
  clear hget hsz
  go_enter Tryz.func124, Tryz.ntmps124
  go_wp2_with fail
  go_loopw [3] (fun s3 wr => ∃ k : Nat, k ≤ S.size ∧ s3 = .int .i64 ((k : Nat) : Int) ∧ (∀ x ∈ s.take k, x ≠ 10) ∧ wr = w) (fun i _ => S.size - (intOf i).toNat)
  case atStart => exact ⟨0, by omega, rfl, by simp, rfl⟩
  case round =>
    obtain ⟨k, hk, rfl, hno, rfl⟩ := hrel
    have hzz := HZ.out
    by_cases h1 : k < S.size
    · have hks : k < s.length := by omega
      have hb := HG.out k h1 s[k] (List.getElem?_eq_getElem hks)
      have htk : s.take (k + 1) = s.take k ++ [s[k]] := List.take_succ_eq_append_getElem _
      have hmem : s[k] ∈ s := List.getElem_mem _
      clear hzz
      by_cases hx : s[k] = 10
      · have hnot : Hid (¬ LineOk s) := fun h => h.2 (hx ▸ hmem)
        have hb2 : S[k] = 10 := hb.trans hx
        clear hx hb htk hmem hno
        go_wp2
        go_ret
        exact ⟨by rw [decide_eq_false hnot.out]; rfl, rfl⟩
      · have hno' : Hid (∀ x ∈ s.take (k + 1), x ≠ 10) := fun y hy => by
          rw [htk] at hy
          rcases List.mem_append.1 hy with hy | hy
          · exact hno y hy
          · simp at hy; rw [hy]; exact hx
        have hb2 : ¬ (S[k].toNat : Int) = 10 := fun e => hx (hb.symm.trans (UInt8.toNat_inj.1 (by show S[k].toNat = 10; omega)))
        clear hx hb htk hmem hno
        go_wp2
        exact ⟨⟨k + 1, by omega, by go_num, hno'.out, trivial⟩, by simp [intOf]; omega⟩
    · have hno' : (10 : UInt8) ∉ s := fun h => hno 10 (by rw [List.take_of_length_le (by omega)]; exact h) rfl
      clear hno
      by_cases h40 : s.length ≤ 40
      · have hd : Hid (LineOk s) := ⟨h40, hno'⟩
        have h40' : (S.size : Int) ≤ 40 := by omega
        clear hno' hzz
        go_wp2
        go_ret
        exact ⟨by first | rfl | (rw [decide_eq_true hd.out]; rfl), rfl⟩
      · have hd : Hid (¬ LineOk s) := fun h => h40 h.1
        have h40' : ¬ (S.size : Int) ≤ 40 := by omega
        clear hno' hzz
        go_wp2
        go_ret
        exact ⟨by first | rfl | (rw [decide_eq_false hd.out]; rfl), rfl⟩
end Go.Proofs.YtdpfohgkikjeaaaGreat
/- The document's own answer: Sum, bit by bit. -/
namespace Go.Proofs.YtdpfohgkikjeaaaGreat
open Go.RowKit
set_option linter.unusedVariables false
set_option linter.unusedSimpArgs false

theorem i64_xor (a b : Nat) (ha : a < 4294967296) (hb : b < 4294967296) : bits BinOp.xor IntKind.i64 (a : Int) (b : Int) = ((a ^^^ b : Nat) : Int) := by
  have hx : a ^^^ b < 2 ^ 32 := Nat.xor_lt_two_pow (by omega) (by omega)
  have h1 : (BitVec.ofInt 64 (a : Int)).toNat = a := by rw [BitVec.ofInt_natCast, BitVec.toNat_ofNat]; exact Nat.mod_eq_of_lt (by omega)
  have h2 : (BitVec.ofInt 64 (b : Int)).toNat = b := by rw [BitVec.ofInt_natCast, BitVec.toNat_ofNat]; exact Nat.mod_eq_of_lt (by omega)
  show IntKind.i64.wrap ((BitVec.ofInt 64 (a : Int) ^^^ BitVec.ofInt 64 (b : Int)).toNat : Int) = _
  rw [BitVec.toNat_xor, h1, h2, IntKind.wrap_i64]
  omega

/-- One step, of the two numbers apart. -/
theorem bit_apart (v c : Nat) : crcBit (v ^^^ c) = (if (v + c) % 2 = 1 then v / 2 ^^^ 2197175160 else v / 2) ^^^ (c / 2) := by
  have h0 := @Nat.xor_mod_two_eq_one v c
  have h1 : (v ^^^ c) % 2 = (v + c) % 2 := by omega
  have h2 : (v ^^^ c) / 2 = v / 2 ^^^ c / 2 := Nat.xor_div_two
  unfold crcBit
  rw [h1, h2]
  split
  · rw [Nat.xor_assoc, Nat.xor_assoc, Nat.xor_comm (c / 2)]
  · rfl

theorem half_lt {v : Nat} (h : v < 4294967296) : (if 1 = 1 then v / 2 ^^^ 2197175160 else v / 2) < 4294967296 := by
  rw [if_pos rfl]
  exact xor_lt32 (by omega) (by omega)

set_option maxRecDepth 100000 in
set_option maxHeartbeats 1000000 in
theorem sum_ref (s : Str) (w : World) (hs : s.length ≤ 1099511627776) : Calls Tryz.prog 127 #[sv s] w fun e w' => e = .returned (.int .i64 (crc s : Nat)) ∧ w' = w := by
  obtain ⟨S, hS⟩ : ∃ S : ByteArray, S = ⟨s.toArray⟩ := ⟨_, rfl⟩
  have hsd : s = S.data.toList := by rw [hS]
  show Calls Tryz.prog 127 #[.string ⟨s.toArray⟩] w _
  have hsz : S.size ≤ 1099511627776 := by rw [hS, size_mk]; exact hs
  rw [← hS, hsd]
  clear hS hsd hs
  go_enter Tryz.func127, Tryz.ntmps127
  go_wp2
  go_loopw [3, 4] (fun s3 s4 wr => ∃ k : Nat, k ≤ S.size ∧ s3 = .int .i64 ((crcFrom 4294967295 (S.data.toList.take k) : Nat) : Int) ∧ s4 = .int .i64 ((k : Nat) : Int) ∧ wr = w) (fun _ i _ => S.size - (intOf i).toNat)
  case atStart => exact ⟨0, Nat.zero_le _, rfl, rfl, rfl⟩
  case round =>
    obtain ⟨k, hk, rfl, rfl, rfl⟩ := hrel
    have hv := crcFrom_lt (s := 4294967295) (S.data.toList.take k) (by omega)
    generalize hV : crcFrom 4294967295 (S.data.toList.take k) = v at hv
    have HV : Hid (crcFrom 4294967295 (S.data.toList.take k) = v) := hV
    clear hV
    by_cases hlt : k < S.size
    · have hb := S[k].toNat_lt
      have HB : Hid (crcFrom 4294967295 (S.data.toList.take (k + 1)) = crcBits 8 (v ^^^ S[k].toNat)) := by
        show crcFrom _ _ = _
        rw [take_snoc S k hlt, crcFrom_snoc, HV.out]; rfl
      go_wp2
      generalize S[k].toNat = c0 at hb HB ⊢
      go_loopw [3, 5, 6] (fun s3 s5 s6 wx => ∃ (j u d : Nat), j ≤ 8 ∧ u < 4294967296 ∧ s3 = .int .i64 ((u : Nat) : Int) ∧ s5 = .int .i64 ((d : Nat) : Int) ∧ s6 = .int .i64 ((j : Nat) : Int) ∧ d * 2 ^ j < 256 ∧ Hid (u ^^^ d = crcBits j (v ^^^ c0)) ∧ wx = wr) (fun _ _ j _ => 8 - (intOf j).toNat)
      case atStart => exact ⟨0, v, c0, by omega, hv, rfl, rfl, rfl, by simpa using hb, rfl, rfl⟩
      case round =>
        obtain ⟨j, u, d, hj, hu, rfl, rfl, rfl, hd, hU, rfl⟩ := hrel
        by_cases hl8 : j < 8
        · have hst : Hid (crcBits (j + 1) (v ^^^ c0) = (if (u + d) % 2 = 1 then u / 2 ^^^ 2197175160 else u / 2) ^^^ (d / 2)) := by
            show crcBits (j + 1) (v ^^^ c0) = _
            rw [← bit_apart, hU.out]; rfl
          have hd2 : d / 2 * 2 ^ (j + 1) < 256 := by
            rw [Nat.pow_succ, Nat.mul_comm (2 ^ j) 2, ← Nat.mul_assoc]
            exact Nat.lt_of_le_of_lt (Nat.mul_le_mul_right _ (Nat.div_mul_le_self d 2)) hd
          have hd1 : d < 256 := Nat.lt_of_le_of_lt (Nat.le_mul_of_pos_right d (Nat.two_pow_pos j)) hd
          have hx := i64_xor (u / 2) 2197175160 (by omega) (by omega)
          have hxl := xor_lt32 (a := u / 2) (b := 2197175160) (by omega) (by omega)
          have HD : Hid (d / 2 * 2 ^ (j + 1) < 256) := hd2
          clear hd hd2
          by_cases hodd : (u + d) % 2 = 1
          · have hodd' : ((u : Int) + (d : Int)).tmod 2 = 1 := by rw [Int.tmod_eq_emod_of_nonneg (by omega)]; omega
            go_wp2
            exact ⟨⟨j + 1, u / 2 ^^^ 2197175160, d / 2, by omega, hxl, int_of (by rw [show (u : Int) / 2 = ((u / 2 : Nat) : Int) by omega]; exact hx), int_of (by omega), by go_num, HD.out, by show _ = _; rw [hst.out, if_pos hodd], trivial⟩, by simp [intOf]; omega⟩
          · have hodd' : ¬ ((u : Int) + (d : Int)).tmod 2 = 1 := by rw [Int.tmod_eq_emod_of_nonneg (by omega)]; omega
            go_wp2
            exact ⟨⟨j + 1, u / 2, d / 2, by omega, by omega, int_of (by omega), int_of (by omega), by go_num, HD.out, by show _ = _; rw [hst.out, if_neg hodd], trivial⟩, by simp [intOf]; omega⟩
        · obtain rfl : j = 8 := by omega
          obtain rfl : d = 0 := by omega
          go_wp2
          refine ⟨⟨k + 1, by omega, ?_, by go_num, trivial⟩, by simp [intOf]; omega⟩
          rw [HB.out, ← hU.out, Nat.xor_zero]
    · go_wp2
      go_ret
      refine ⟨ret_int ?_, rfl⟩
      have e : S.data.toList.take k = S.data.toList := List.take_of_length_le (by simp; omega)
      rw [e] at HV
      rw [crc, HV.out]
      omega
end Go.Proofs.YtdpfohgkikjeaaaGreat
/- The document's own answer: Cut. -/
namespace Go.Proofs.YtdpfohgkikjeaaaGreat
open Go.RowKit
set_option linter.unusedVariables false
set_option linter.unusedSimpArgs false

/-- What Cut answers. -/
def CutRef (w w' : World) (s : Str) (e : Ending) : Prop :=
  (∃ ls v, TextOk ls ∧ textOf ls = s ∧ e = .returned (.tuple #[v, .bool true]) ∧ Row w' 9 1 v ls.length (ls.map sv) ∧ (∀ x ∈ fpv v, w.heap.size ≤ x)) ∨ (¬ IsText s ∧ ∃ v, e = .returned (.tuple #[v, .bool false]))

theorem textOf_snoc (a : List Str) (l : Str) : (textOf (a ++ [l])).length = (textOf a).length + l.length + 1 := by
  rw [textOf_append, textOf_cons, textOf_nil, List.length_append, List.length_append]
  rfl

theorem not_text_long {s line rest : Str} {done : List Str} (hd : ∀ l ∈ done, LineOk l) (h : textOf done ++ line ++ 10 :: rest = s) (hn : (10 : UInt8) ∉ line) (hl : 40 < line.length) : ¬ IsText s := by
  rintro ⟨ls, hok, hls⟩
  rw [List.append_assoc] at h
  obtain ⟨ls', h1, h2⟩ := textOf_prefix (fun l hl => (hd l hl).2) (fun l hl => (hok.lines l hl).2) (h.trans hls.symm)
  cases ls' with
  | nil => rw [textOf_nil] at h2; simp at h2
  | cons y ys =>
    have hy := hok.lines y (by rw [h1]; simp)
    rw [textOf_cons] at h2
    have := (split_unique h2 hn hy.2).1
    rw [this] at hl
    have := hy.1
    omega

theorem text_end {s line : Str} {done : List Str} (hd : ∀ l ∈ done, LineOk l) (h : textOf done ++ line = s) (hn : (10 : UInt8) ∉ line) : IsText s ↔ line = [] ∧ done.length ≤ 60 := by
  constructor
  · rintro ⟨ls, hok, hls⟩
    obtain ⟨ls', h1, h2⟩ := textOf_prefix (fun l hl => (hd l hl).2) (fun l hl => (hok.lines l hl).2) (h.trans hls.symm)
    cases ls' with
    | nil =>
      refine ⟨h2, ?_⟩
      have := hok.few
      rw [h1] at this
      simpa using this
    | cons y ys =>
      rw [textOf_cons] at h2
      exact absurd (by rw [h2]; simp) hn
  · rintro ⟨rfl, h60⟩
    exact ⟨done, ⟨h60, hd⟩, by simpa using h⟩

set_option maxRecDepth 100000 in
set_option maxHeartbeats 2000000 in
theorem cut_ref (s : Str) (w : World) (hs : s.length ≤ 1099511627776) : Calls Tryz.prog 123 #[sv s] w fun e w' => CutRef w w' s e ∧ Kept no w w' := by
  obtain ⟨S, hS⟩ : ∃ S : ByteArray, S = ⟨s.toArray⟩ := ⟨_, rfl⟩
  have hsz : S.size = s.length := by rw [hS, size_mk]
  have hget : ∀ k (h : k < S.size) b, s[k]? = some b → S[k] = b := fun k h b hb => by
    subst hS
    have h2 : k < s.length := by rwa [size_mk] at h
    rw [List.getElem?_eq_getElem h2] at hb
    exact Option.some.inj hb
  have hex : ∀ i j, S.extract i j = ⟨((s.take j).drop i).toArray⟩ := fun i j => by rw [hS]; exact extract_list _ _ _
  show Calls Tryz.prog 123 #[.string ⟨s.toArray⟩] w _
  rw [← hS]
  have HG : Hid (∀ k (h : k < S.size) b, s[k]? = some b → S[k] = b) := hget
  have HX : Hid (∀ i j, S.extract i j = ⟨((s.take j).drop i).toArray⟩) := hex
  have HZ : Hid (S.size = s.length) := hsz
  have hsz' : S.size ≤ 1099511627776 := by omega
  clear hget hsz hS hex
  go_enter Tryz.func123, Tryz.ntmps123
  go_wp2_with fail
  go_loopw [4, 5, 6] (fun s4 s5 s6 wr => ∃ (done : List Str) (line rest : Str) (from' i : Nat), s5 = .int .i64 ((from' : Nat) : Int) ∧ s6 = .int .i64 ((i : Nat) : Int) ∧ from' = (textOf done).length ∧ i = from' + line.length ∧ i + rest.length = S.size ∧ Hid (textOf done ++ line ++ rest = s) ∧ (10 : UInt8) ∉ line ∧ (∀ l ∈ done, LineOk l) ∧ done.length ≤ from' ∧ Row wr 9 1 s4 done.length (done.map sv) ∧ (∀ x ∈ fpv s4, w.heap.size ≤ x) ∧ Kept no w wr) (fun _ _ i _ => S.size - (intOf i).toNat)
  case atStart => exact ⟨[], [], s, 0, 0, rfl, rfl, rfl, rfl, by have := HZ.out; omega, rfl, by simp, by simp, Nat.le_refl _, Row.nilrow _ _, by simp [fpv_nil], Kept.refl _ _⟩
  case round =>
    obtain ⟨done, line, rest, fr, i, rfl, rfl, hfr, hi, hir, HS, hnl, hdl, hdn, hrow, hfresh, hkw⟩ := hrel
    obtain ⟨p4, c4, rfl⟩ := hrow.slice
    cases rest with
    | nil =>
      have hin : ¬ i < S.size := by simp at hir; omega
      have hend := text_end (s := s) hdl (by have := HS.out; rwa [List.append_nil] at this) hnl
      have HF : Hid (fr = (textOf done).length) := hfr
      have hln : line = [] ↔ fr = S.size := by
        constructor
        · intro e; rw [e] at hi; simp at hi hir; omega
        · intro e; refine List.eq_nil_of_length_eq_zero ?_; simp at hir; omega
      have HE : Hid (IsText s ↔ fr = S.size ∧ done.length ≤ 60) := by show _ ↔ _; rw [← hln]; exact hend
      have HL : Hid (line = [] ↔ fr = S.size) := hln
      have hi2 : i = S.size := by simp at hir; omega
      clear hend hln hnl hi hir hfr
      generalize hdl60 : done.length = n at *
      by_cases h1 : fr = S.size
      · subst h1
        by_cases h2 : n ≤ 60
        · have h2' : (n : Int) ≤ 60 := by omega
          have HD : Hid (done.length = n) := hdl60
          have HL0 : Hid (line = []) := HL.out.2 rfl
          clear hdl60 HL HE
          go_wp2
          go_ret2
          refine ⟨.inl ⟨done, _, ⟨by rw [HD.out]; exact h2, hdl⟩, ?_, rfl, by rw [HD.out]; exact hrow, hfresh⟩, hkw⟩
          have := HS.out
          rw [HL0.out] at this
          simpa using this
        · have h2' : ¬ (n : Int) ≤ 60 := by omega
          have HN : Hid (¬ IsText s) := fun h => h2 (HE.out.1 h).2
          go_wp2
          go_ret2
          exact ⟨.inr ⟨HN.out, _, rfl⟩, hkw⟩
      · have h1' : ¬ (fr : Int) = (S.size : Int) := by omega
        have HN : Hid (¬ IsText s) := fun h => h1 (HE.out.1 h).1
        go_wp2
        go_ret2
        exact ⟨.inr ⟨HN.out, _, rfl⟩, hkw⟩
    | cons x rest =>
      have hin : i < S.size := by simp at hir; omega
      have hx := HG.out i hin x (by
        rw [← HS.out, hi, hfr, List.getElem?_append_right (by rw [List.length_append]; omega), List.length_append, Nat.sub_self]
        rfl)
      have HI : Hid (i = fr + line.length) := hi
      have HF : Hid (fr = (textOf done).length) := hfr
      have hil : i ≤ S.size := by omega
      have hfi : fr ≤ i := by omega
      have hll : line.length = i - fr := by omega
      clear hi hfr
      by_cases hx10 : x = 10
      · rw [hx10] at hx
        have HS2 : Hid (textOf done ++ line ++ 10 :: rest = s) := by rw [← hx10]; exact HS
        clear hx10 HS
        by_cases h40 : line.length ≤ 40
        · have h40' : ¬ (i : Int) - (fr : Int) > 40 := by omega
          have hel : S.extract fr i = ⟨line.toArray⟩ := by
            rw [HX.out, ← HS2.out]
            congr 2
            rw [List.take_left' (by rw [List.length_append, HI.out, HF.out]), List.drop_left' HF.out.symm]
          have HLN : Hid (LineOk line) := ⟨h40, hnl⟩
          have HLL : Hid (line.length = i - fr) := hll
          clear hnl h40 hll
          go_wp2_with (at_builtin; apply hold)
          delta Hid
          refine wpList_push rfl _ _ 34 rfl tyS _ _ _ rfl (hrow.alloc _) _ 1 (sv line) rfl (by rw [(cells_of heap_alloc_same).1]; rfl) rfl (by decide) (by omega) (fun v5 w5 hr hg => ?_)
          go_wp2
          refine ⟨⟨done ++ [line], [], rest, i + 1, i + 1, by go_num, by go_num, ?_, rfl, ?_, ?_, by simp, ?_, ?_, ?_, fun x hx => ?_, ?_⟩, by simp [intOf]; omega⟩
          · rw [textOf_snoc, ← HF.out, HI.out]
          · simp at hir; omega
          · have := HS2.out
            show _ = _
            rw [← this, textOf_append]
            simp [textOf]
          · intro l hl
            rcases List.mem_append.1 hl with hl | hl
            · exact hdl l hl
            · simp at hl; subst hl; exact HLN.out
          · simp; omega
          · have e : (done ++ [line]).map sv = done.map sv ++ [sv line] := by simp
            rw [e, List.length_append]
            exact hr
          · rcases hg.2 x hx with h1 | h1
            · exact hfresh x h1
            · have := hkw.size; simp at h1; omega
          · exact (hkw.step ((Kept.refl _ _).alloc _)).step' hg.1 (fun x hx hlt => by have := hfresh x hx; omega)
        · have h40' : (i : Int) - (fr : Int) > 40 := by omega
          have HN : Hid (¬ IsText s) := not_text_long hdl HS2.out hnl (by omega)
          clear hnl h40 hll
          go_wp2
          go_ret2
          exact ⟨.inr ⟨HN.out, _, rfl⟩, hkw⟩
      · have hxn : ¬ (S[i].toNat : Int) = 10 := fun e => hx10 (hx.symm.trans (UInt8.toNat_inj.1 (by show S[i].toNat = 10; omega)))
        have HS2 : Hid (textOf done ++ (line ++ [x]) ++ rest = s) := by
          have := HS.out
          show _ = _
          rw [← this]; simp
        have HNL : Hid ((10 : UInt8) ∉ line ++ [x]) := by
          intro h
          rcases List.mem_append.1 h with h | h
          · exact hnl h
          · simp at h; exact hx10 h.symm
        have HR : Hid (i + 1 + rest.length = S.size) := by simp at hir; show _ = _; omega
        clear hx hx10 hnl HS hir
        go_wp2
        exact ⟨⟨done, line ++ [x], rest, fr, i + 1, rfl, by go_num, HF.out, by rw [List.length_append, HI.out]; rfl, HR.out, HS2, HNL.out, hdl, hdn, hrow, hfresh, hkw⟩, by simp [intOf]; omega⟩
end Go.Proofs.YtdpfohgkikjeaaaGreat
/- Any: Recover of nothing; a text's bytes, counted; '[]byte(s)'. -/
namespace Go.Proofs.YtdpfohgkikjeaaaGreat
open Go.RowKit
set_option linter.unusedVariables false
set_option linter.unusedSimpArgs false

/-- Recover, of a swap in which nothing is found. -/
theorem recover_no {w : World} {v : Value} {secs : List Str} (hr : Row w 9 1 v 400 (secs.map sv)) (hl : secs.length = 400) (h64 : ∀ s ∈ secs, s.length = 64) (hno : ∀ h hd t, ¬ Finds (imgOf secs) h hd t) (file : Str) (nI : Int) (h1 : 1 ≤ nI) (h2 : nI ≤ 20) :
    Calls Tryz.prog 20 #[v, sv file, .int .i64 nI] w fun e w' => e = .returned (.tuple #[.pointer none, .bool false, .int .i64 7]) ∧ Kept no w w' := by
  have hlt := hr.lt
  rcases hr.shape with ⟨_, h0, _⟩ | ⟨g, c, rfl, hc1, hc2⟩
  · cases h0
  · have hcell := hr.cell
    have hs : StrsAt w g 0 secs := fun j s hs => by
      rw [Nat.zero_add]
      exact hcell.2.2.2 j (sv s) (by rw [List.getElem?_map, hs]; rfl)
    have hr' : Row w 9 1 (.slice (some ⟨g, 0, none⟩) 400 c) secs.length (secs.map sv) := by rw [hl]; exact hr
    unfold maxLen at hc2
    refine recover_any g 0 c secs w hr' hl h64 file nI h1 h2 _ ?_
    refine (readBack_none g 0 c secs w hs hl h64 hc1 (by omega) (hlt g (by simp [fpv_some])) hno file nI).mono ?_
    rintro e w' ⟨rfl, hk⟩
    exact ⟨_, _, _, rfl, rfl, hk⟩

theorem blank_no (h : Nat) (hd : Head) (t : Str) : ¬ Finds (imgOf (List.replicate 400 blank)) h hd t := fun hF => by
  have h1 := hF.reads.head
  have h2 := hF.half
  have e : imgOf (List.replicate 400 blank) (40 * h) = blank := by
    unfold imgOf
    rw [List.getElem?_replicate, if_pos (by omega)]
    rfl
  rw [e, readHead_blank] at h1
  cases h1

theorem blank_sizes : (List.replicate 400 blank).length = 400 ∧ ∀ s ∈ List.replicate 400 blank, s.length = 64 :=
  ⟨List.length_replicate, fun s hs => by rw [List.eq_of_mem_replicate hs]; exact blank_length⟩

/-- A byte of a text: in a line, or behind it. -/
theorem textOf_in {a r : List Str} {l : Str} {j : Nat} (hj : j < l.length) : (textOf (a ++ l :: r))[(textOf a).length + j]? = some l[j] := by
  rw [textOf_append, textOf_cons, List.getElem?_append_right (by omega), Nat.add_sub_cancel_left, List.getElem?_append_left hj, List.getElem?_eq_getElem hj]
theorem textOf_end {a r : List Str} {l : Str} : (textOf (a ++ l :: r))[(textOf a).length + l.length]? = some 10 := by
  rw [textOf_append, textOf_cons, List.getElem?_append_right (by omega), Nat.add_sub_cancel_left, List.getElem?_append_right (Nat.le_refl _), Nat.sub_self]
  rfl
/-- '[]byte(s)': a new row of its bytes. -/
theorem bytes_of (w : World) (l : Str) : ∃ c w', (convert 9 56 (.string ⟨l.toArray⟩)).run Tryz.prog w = .ok (.slice (some ⟨w.heap.size, 0, none⟩) l.length c) w' ∧ Kept no w w' ∧ w'.heap.size = w.heap.size + 1 ∧
    ∃ cur : List Value, ∃ f, w'.heap[w.heap.size]? = some (.cells cur.toArray 5 f) ∧ cur.take l.length = bcells l ∧ l.length ≤ f.1 ∧ l.length ≤ c := by
  have h := Lib.run_convert_string_bytes (P := Tryz.prog) w 9 56 5 ⟨l.toArray⟩ Tryz.underlying9 Tryz.underlying56 Tryz.underlying5
  have e : (⟨l.toArray⟩ : ByteArray).size = l.length := size_mk l
  rw [e] at h
  have hge : l.length ≤ grownCap w l.length 0 5 := grownCap_ge _ _ _ _
  have hcl : (Lib.bytesCells w 5 ⟨l.toArray⟩).toList = bcells l ++ List.replicate (grownCap w l.length 0 5 - l.length) (Value.int .u8 0) := by
    unfold Lib.bytesCells
    rw [e]
    simp [bcells]
  have hsz : l.length ≤ (Lib.bytesCells w 5 ⟨l.toArray⟩).size := by
    rw [← Array.length_toList, hcl, List.length_append, bcells_length]; omega
  refine ⟨_, _, h, ⟨rfl, rfl, rfl, by rw [Lib.bytesWorld_size]; omega, fun k hk _ => Lib.bytesWorld_at_old _ _ _ _ hk⟩, Lib.bytesWorld_size _ _ _, (Lib.bytesCells w 5 ⟨l.toArray⟩).toList, _, Lib.bytesWorld_at_new w 5 ⟨l.toArray⟩, ?_, hsz, hge⟩
  rw [hcl, List.take_left' (bcells_length l)]
end Go.Proofs.YtdpfohgkikjeaaaGreat
/- Any: a round of the loop that spoils the swap. -/
namespace Go.Proofs.YtdpfohgkikjeaaaGreat
open Go.RowKit
set_option linter.unusedVariables false
set_option linter.unusedSimpArgs false

theorem wrap_raw (x : Int) : RawOk (wrap64 x) := by
  unfold wrap64
  constructor <;> omega

theorem not_frozen {w : World} {b k : Nat} {cs : Array Value} {T : TypeId} {f : Nat × Nat} (h : w.heap[b]? = some (.cells cs T f)) (hk : k < f.1) : w.frozen? ⟨b, k, none⟩ = false := by
  simp only [World.frozen?, h]
  have : ¬ f.1 ≤ k := by omega
  simp [this]

theorem of_lens {secs : List Str} {f : Str} {L : Nat} (hl : secs.length = 400) (h64 : ∀ s ∈ secs, s.length = 64) (hf : f.length ≤ L) : (DiskS.of secs f).Lens 1 L := by
  refine ⟨by show (List.map _ secs).length = 400; rw [List.length_map]; exact hl, fun r hr => ?_, fun r hr => ?_, fun r hr s hs => ?_, hf, Nat.zero_le _, Nat.zero_le _, fun e => (by cases e), Nat.zero_le _⟩
  all_goals
    obtain ⟨x, hx, rfl⟩ := List.mem_map.1 hr
  · simp
  · simp
  · simp only [List.mem_cons, List.not_mem_nil, or_false] at hs
    rw [hs]; exact h64 x hx

/-- What stands in the swap behind some rounds. -/
structure Spoilt (w : World) (g c : Nat) (secs : List Str) : Prop where
  len : secs.length = 400
  size : ∀ s ∈ secs, s.length = 64
  row : Row w 9 1 (.slice (some ⟨g, 0, none⟩) 400 c) 400 (secs.map sv)

theorem Spoilt.put {w : World} {g c : Nat} {secs : List Str} (h : Spoilt w g c secs) {p : Nat} (hp : p < 400) {new : Str} (hn : new.length = 64) : Spoilt (w.setCell ⟨g, p, none⟩ (sv new)) g c (secs.set p new) := by
  refine ⟨by rw [List.length_set]; exact h.len, fun s hs => ?_, ?_⟩
  · rcases List.mem_or_eq_of_mem_set hs with hs | rfl
    · exact h.size s hs
    · exact hn
  · have := h.row.put hp (sv new)
    rwa [← List.map_set] at this

theorem Spoilt.kept {S : Blocks} {w w' : World} {g c : Nat} {secs : List Str} (h : Spoilt w g c secs) (k : Kept S w w') (hg : ¬ S g) : Spoilt w' g c secs :=
  ⟨h.len, h.size, h.row.kept k (fun b hb => by rw [fpv_some] at hb; have := List.mem_singleton.1 hb; rw [this]; exact hg)⟩

theorem Spoilt.cell {w : World} {g c : Nat} {secs : List Str} (h : Spoilt w g c secs) {p : Nat} (hp : p < 400) : (∃ x, w.cell? ⟨g, p, none⟩ = some x) ∧ w.frozen? ⟨g, p, none⟩ = false := by
  obtain ⟨cur, hh, hl⟩ := h.row.heap
  obtain ⟨h1, h2⟩ := cells_of hh
  exact ⟨⟨cur[p]'(by omega), by rw [h1]; exact Array.getElem?_eq_getElem (by omega)⟩, h2 p⟩

theorem Spoilt.lt {w : World} {g c : Nat} {secs : List Str} (h : Spoilt w g c secs) : g < w.heap.size := h.row.lt g (by rw [fpv_some]; simp)

/-- A byte of a row is turned. -/
theorem byte_set {w : World} {Z k : Nat} {cur : List Value} {f : Nat × Nat} {q : Str} (h : w.heap[Z]? = some (.cells cur.toArray 5 f)) (ht : cur.take q.length = bcells q) (hk : k < q.length) (y : UInt8) :
    BytesAt (w.setCell ⟨Z, k, none⟩ (.int .u8 (y.toNat : Int))) Z 0 (q.set k y) := by
  have hh := heap_set_same (o := k) (v := .int .u8 (y.toNat : Int)) h
  rw [List.setIfInBounds_toArray] at hh
  refine BytesAt.of_row hh (fun j v hj => ?_)
  have e : (cur.set k (.int .u8 (y.toNat : Int))).take q.length = bcells (q.set k y) := by
    rw [List.take_set, ht, bcells_set]
  rw [← e, List.getElem?_take] at hj
  rw [Nat.zero_add]
  split at hj
  · exact hj
  · cases hj

/-- The first 64 bytes of a string, in a new row. -/
def firstBytes (s : Str) : Str := s.take 64 ++ (zs 64).drop (s.take 64).length
theorem firstBytes_length (s : Str) : (firstBytes s).length = 64 := by
  unfold firstBytes
  rw [List.length_append, List.length_drop, zs_length, List.length_take]
  omega

theorem copy_first {w w' : World} {Z : Nat} {s : Str} (h : Copied w w' Z 0 (bcells (zs 64)) (bcells (s.take 64)) 5) : w'.heap[Z]? = some (.cells (bcells (firstBytes s)).toArray 5 (0, 0)) := by
  have e := h.row
  rw [e]
  unfold firstBytes
  rw [bcells_append, bcells_drop, bcells_length]
  simp
end Go.Proofs.YtdpfohgkikjeaaaGreat
/- Any: the walk. -/
namespace Go.Proofs.YtdpfohgkikjeaaaGreat
open Go.RowKit
set_option linter.unusedVariables false
set_option linter.unusedSimpArgs false

set_option maxRecDepth 100000 in
set_option maxHeartbeats 16000000 in
theorem any_walk {w : World} {B : Nat} {v vs va : Value} {raw atl : List Int} {ss : List Str} (hr : IntsAt w B v raw) (hss : StrsArg w B vs ss) (hat : IntsAt w B va atl) (c : Int) (hc : RawOk c) :
    Calls Tryz.prog 10 #[v, vs, va, .int .i64 c] w fun e w' => e = .returned (.bool true) ∧ Kept no w w' := by
  have hfew := hss.few
  have hlow := hss.low
  obtain ⟨pv, cv, hv⟩ : ∃ pv cv, vs = .slice pv ss.length cv := by
    rcases hss.at_ with ⟨a, c, h1, h2⟩ | ⟨b, o, c, h1, _⟩
    · subst h2; exact ⟨_, _, h1⟩
    · exact ⟨_, _, h1⟩
  subst hv
  generalize hn : ss.length = n at *
  go_enter Tryz.func10, Tryz.ntmps10
  go_wp2_with fail
  refine (begin_any hr 19 ⟨by decide, by decide⟩).mono ?_
  rintro e w1 ⟨b, bx, bd, fp, D, rfl, hR, hB, hge, hk1⟩
  have hlens := hB.ok.lens
  have hmost := hB.most
  have hnl : D.disk.now.length = 400 := by unfold DiskS.now; rw [List.length_map]; exact hlens.sw
  have hn64 := leaves_size hlens (now_leaves hlens)
  obtain ⟨vt, vf, fx, fd, ft, ff, hM, rfl⟩ := hR
  obtain ⟨hc1, hf1⟩ := cells_of hM.cells
  go_wp2_with fail
  refine (now_any hM.disk hlens (by decide)).mono ?_
  rintro e w2 ⟨vl, rfl, hrow, hvn, hk2⟩
  generalize D.disk.now = secs0 at hrow hnl hn64
  obtain ⟨g, cl, rfl, hcl1, hcl2⟩ : ∃ g c, vl = .slice (some ⟨g, 0, none⟩) 400 c ∧ 400 ≤ c ∧ c ≤ maxLen := by
    rcases hrow.shape with ⟨_, h0, _⟩ | ⟨g, c, h1, h2, h3⟩
    · cases h0
    · exact ⟨g, c, h1, h2, h3⟩
  have hgn : w1.heap.size ≤ g := hvn g (by simp [fpv_some])
  have hkw2 : Kept (fun x => x = g) w w2 := (hk1.step hk2).mono (fun _ h _ => h.elim)
  have hs01 := hk1.size
  clear hc1 hf1 hr
  unfold maxLen at hcl2
  go_wp2_with fail
  go_loopw [12] (fun s12 wr => ∃ (i : Nat) (secs : List Str), i ≤ n ∧ s12 = .int .i64 ((i : Nat) : Int) ∧ Spoilt wr g cl secs ∧ Kept (fun x => x = g) w2 wr) (fun s12 _ => n - (intOf s12).toNat)
  case atStart => exact ⟨0, secs0, Nat.zero_le _, rfl, ⟨hnl, hn64, hrow⟩, Kept.refl _ _⟩
  case round =>
    obtain ⟨i, secs, hi, rfl, hSp, hkr⟩ := hrel
    have hkwr := hkw2.step hkr
    have hss1 := hss.kept hkwr (fun x e => by have e : x = g := e; omega)
    have hat1 := hat.kept hkwr (fun x e => by have e : x = g := e; omega)
    by_cases hlt : i < n
    · obtain ⟨s, hs⟩ : ∃ s, ss[i]? = some s := ⟨ss[i]'(by omega), by simp [hn, hlt]⟩
      have hsl := hss.lens s (List.mem_of_getElem? hs)
      rcases hss1.at_ with ⟨a, c', h1, h2⟩ | ⟨b2, o, c', h1, hb2, hcs⟩
      · subst h2; simp at hs
      · simp only [Value.slice.injEq] at h1
        obtain ⟨rfl, h1', rfl⟩ := h1
        clear h1'
        have hci := hcs i s hs
        clear hcs hss1 hss hn hs
        obtain ⟨c2, wa, hcv, hka, hsa, cur2, f2, hba, hta, hfa, hca⟩ := bytes_of wr s
        obtain ⟨C, hC⟩ : ∃ C, C = bcells (zs 64) := ⟨_, rfl⟩
        have hmk : (Instr.makeSlice 56 (.int .i64 64) (.int .i64 64)).run Tryz.prog wa = .ok (.slice (some ⟨wa.heap.size, 0, none⟩) 64 64) (wa.alloc (.cells C.toArray 5)) := by rw [hC]; exact make_bytes 64 (by decide) wa
        have hCl : C.length = 64 := by rw [hC, bcells_length, zs_length]
        have HC : Hid (C = bcells (zs 64)) := hC
        clear hC
        have hnum := fun w' (h : IntsAt w' B va atl) => number_any h i (i : Int) rfl (by omega)
        have hno : RawOk (atl.getD i 0) := by
          rw [List.getD_eq_getElem?_getD]
          cases hx : atl[i]? with
          | none => exact ⟨by decide, by decide⟩
          | some x => exact hat.fits x (List.mem_of_getElem? hx)
        have hba64 : (firstBytes s).length = 64 := firstBytes_length s
        have hcs64 : (bcells (s.take 64)).length = min s.length 64 := by rw [bcells_length, List.length_take, Nat.min_comm]
        have hsrc : ∀ (W : World), Kept no wa W → ∀ j v, (bcells (s.take 64))[j]? = some v → W.cell? ⟨wr.heap.size, 0 + j, none⟩ = some v := fun W hW j v hj => by
          rw [Nat.zero_add]
          refine hW.read ?_ (fun h => h)
          rw [cells_of' hba, List.getElem?_toArray]
          have h1 : (bcells s)[j]? = some v := by
            rw [bcells_take, List.getElem?_take] at hj
            split at hj
            · exact hj
            · cases hj
          rw [← hta, List.getElem?_take] at h1
          split at h1
          · exact h1
          · cases h1
        have hss1 := hSp.kept hka (fun h => h)
        have hkwa := hkr.step (hka.mono (fun _ h _ => h.elim))
        obtain ⟨w3, hcp, h3⟩ := run_copy_row (P := Tryz.prog) sty_bytes 3 (wa.alloc (.cells C.toArray 5)) (wr.heap.size + 1) 0 64 64 C (by rw [← hsa]; exact heap_alloc_same) wr.heap.size 0 s.length c2 (bcells (s.take 64)) hcs64 (hsrc _ ((Kept.refl _ _).alloc _)) (by rw [hcs64, hCl]; omega) (bcells_one _)
        have hrow3 : w3.heap[wr.heap.size + 1]? = some (.cells (bcells (firstBytes s)).toArray 5 (0, 0)) := by
          have h3' := h3
          rw [HC.out] at h3'
          exact copy_first h3'
        have hka3 : Kept no wa w3 := ((Kept.refl no wa).alloc (.cells C.toArray 5)).step' h3.kept (fun x e hlt => by have e : x = wr.heap.size + 1 := e; omega)
        clear h3 hsrc
        generalize hZe : wr.heap.size + 1 = Z at *
        have hSp3 := hss1.kept hka3 (fun h => h)
        have hat3 := (hat1.kept hka (fun _ h => h.elim)).kept hka3 (fun _ h => h.elim)
        have hkw3 := hkwa.step (hka3.mono (fun _ h _ => h.elim))
        have hba3 := hka3.get hba (fun h => h)
        go_wp2_with fail
        clear hcv hmk hcp
        refine (hnum w3 hat3).mono ?_
        rintro e w4 ⟨rfl, hw⟩
        rw [hw]
        clear hw
        go_wp2_with fail
        refine (pick_keep (atl.getD i 0) 400 400 rfl hno (by decide) (by decide) w3).mono ?_
        rintro e w4 ⟨rfl, hw⟩
        rw [hw]
        clear hw hnum
        have hp := pickN_lt (atl.getD i 0) (n := 400) (by decide)
        generalize pickN (atl.getD i 0) 400 = p at hp ⊢
        obtain ⟨x0, hgc, hgf⟩ : ∃ x0, w3.cell? ⟨g, p, none⟩ = some x0 ∧ w3.frozen? ⟨g, p, none⟩ = false := by
          obtain ⟨cur, hh, hl⟩ := hSp3.row.heap
          obtain ⟨h1, h2⟩ := cells_of hh
          exact ⟨cur[p]'(by omega), by rw [h1]; exact Array.getElem?_eq_getElem (by omega), h2 p⟩
        by_cases h1 : s.length = 1
        · obtain ⟨y, rfl⟩ : ∃ y, s = [y] := by
            match s, h1 with
            | [y], _ => exact ⟨y, rfl⟩
          obtain ⟨q, hq⟩ : ∃ q, secs[p]? = some q := ⟨secs[p]'(by have := hSp.len; omega), by simp [hSp.len, hp]⟩
          have hq64 := hSp.size q (List.mem_of_getElem? hq)
          have hgq : w3.cell? ⟨g, p, none⟩ = some (sv q) := (hSp3.row.cell).2.2.2 p _ (by rw [List.getElem?_map, hq]; rfl)
          obtain rfl : x0 = sv q := Option.some.inj (hgc.symm.trans hgq)
          clear hgq
          obtain ⟨c4, w4, hcv4, hk4, hs4, cur4, f4, hb4, ht4, hf4, hc4⟩ := bytes_of w3 q
          have hy0 : ∀ W, Kept no wa W → W.cell? ⟨wr.heap.size, 0, none⟩ = some (.int .u8 (y.toNat : Int)) := fun W hW => by
            refine hW.read ?_ (fun h => h)
            rw [cells_of' hba, List.getElem?_toArray]
            have h1 : (bcells [y])[0]? = some (.int .u8 (y.toNat : Int)) := rfl
            rw [← hta, List.getElem?_take] at h1
            split at h1
            · exact h1
            · cases h1
          rw [hq64] at hcv4 hf4 hc4 ht4
          have hcc4 : ∀ k, k < 64 → ∃ x, w4.cell? ⟨w3.heap.size, k, none⟩ = some x := fun k hk => by
            rw [cells_of' hb4, List.getElem?_toArray]
            have hl : 64 ≤ cur4.length := by
              have := congrArg List.length ht4
              rw [List.length_take, bcells_length, hq64] at this
              omega
            exact ⟨_, List.getElem?_eq_getElem (by omega)⟩
          have hfz4 : ∀ k, k < 64 → w4.frozen? ⟨w3.heap.size, k, none⟩ = false := fun k hk => not_frozen hb4 (by omega)
          go_wp2_with fail
          clear hcv4
          have hsz3 : w3.heap.size = w3.heap.size := rfl
          generalize hZ4 : w3.heap.size = Z4 at hb4 hcc4 hfz4 ⊢
          have hy4 : ∀ W, Kept no w4 W → W.cell? ⟨wr.heap.size, 0, none⟩ = some (.int .u8 (y.toNat : Int)) := fun W hW => hy0 W ((hka3.step hk4).step hW)
          refine wp_region3 (fun W => Kept no w4 W) [(0, true), (1, true), (2, true), (3, true), (5, true), (6, true), (7, false)] [4, 8, 9] (by kernel_rfl) (by kernel_rfl) (fun _ _ d _ _ h => by cases d <;> exact h) ((Kept.refl _ _).drew) ?_
          repeat ((first | refine wpPre3_pure rfl rfl (fun W => (by go_simp; rfl)) ?_ | refine wpPre3_read rfl rfl (fun W hW => (by have h1 := hy4 W hW; go_simp; rfl)) ?_); simp only [Act.put, List.setIfInBounds_toArray, List.set])
          refine wpPre3_nil ?_
          have hk5 : Kept no w4 w4.drew := (Kept.refl _ _).drew
          have hb5 := hk5.get hb4 (fun h => h)
          have hcc5 : ∀ k, k < 64 → ∃ x, w4.drew.cell? ⟨Z4, k, none⟩ = some x := hcc4
          have hfz5 : ∀ k, k < 64 → w4.drew.frozen? ⟨Z4, k, none⟩ = false := hfz4
          have hSp5 := (hSp3.kept hk4 (fun h => h)).kept hk5 (fun h => h)
          have hkw5 := (hkw3.step (hk4.mono (fun _ h _ => h.elim))).step (hk5.mono (fun _ h _ => h.elim))
          generalize w4.drew = w5 at hk5 hb5 hcc5 hfz5 hSp5 hkw5 ⊢
          clear hcc4 hfz4 hy4 hy0 hb4
          refine wpTail3_cons rfl rfl (fun K hK => ?_)
          go_wp2_with fail
          refine (pick_keep (wrap64 (c + (i : Int))) 64 64 rfl (wrap_raw _) (by decide) (by decide) w5).mono ?_
          rintro e w6 ⟨rfl, hw⟩
          rw [hw]
          clear hw
          refine hK _ _ ⟨fun h => h, ?_⟩
          clear hK
          have hk64 := pickN_lt (wrap64 (c + (i : Int))) (n := 64) (by decide)
          generalize pickN (wrap64 (c + (i : Int))) 64 = k at hk64 ⊢
          obtain ⟨xk, hck⟩ := hcc5 k hk64
          have hfk := hfz5 k hk64
          have hb6 := byte_set (q := q) (k := k) hb5 (by rw [hq64]; exact ht4) (by omega) y
          have hk6 : Kept (fun x => x = Z4) w5 (w5.setCell ⟨Z4, k, none⟩ (.int .u8 (y.toNat : Int))) := Kept.cell1
          have hgZ : ¬ g = Z4 := fun e => by have := hSp3.lt; omega
          have hSp6 := hSp5.kept hk6 hgZ
          have hZw : w2.heap.size ≤ Z4 := by have := hkw3.size; omega
          have hkw6 := hkw5.step' hk6 (fun x e hlt => by have e : x = Z4 := e; omega)
          have hsl64 : (q.set k y).length = 64 := by rw [List.length_set]; exact hq64
          have hcv6 := run_bytes_str (P := Tryz.prog) (w5.setCell ⟨Z4, k, none⟩ (.int .u8 (y.toNat : Int))) 56 9 _ _ _ c4 _ Tryz.underlying56 Tryz.underlying5 Tryz.underlying9 hb6
          rw [hsl64] at hcv6
          obtain ⟨⟨x6, hgc6⟩, hgf6⟩ := hSp6.cell hp
          have hput := hSp6.put hp hsl64
          refine wpTail3_last (by kernel_rfl) rfl rfl (fun K hK => ?_)
          go_wp2_with fail
          refine wpTail3_last (by kernel_rfl) rfl rfl (fun K hK => ?_)
          go_wp2_with fail
          refine wpTail3_nil ?_
          clear hck hfk hcc5 hfz5 hgc hgf
          generalize w5.setCell ⟨Z4, k, none⟩ (.int .u8 (y.toNat : Int)) = w6 at hkw6 hcv6 hgc6 hgf6 hput ⊢
          go_wp2
          exact ⟨⟨i + 1, _, by omega, by go_num, hput, hkw6.setCell (p := ⟨g, p, none⟩) (fun _ => rfl) _⟩, by simp [intOf]; omega⟩
        · have h1' : ¬ (s.length : Int) = 1 := by omega
          have hB : BytesAt w3 Z 0 (firstBytes s) := BytesAt.of_row hrow3 (fun j v h => by rw [Nat.zero_add]; exact h)
          have hcv2 := run_bytes_str (P := Tryz.prog) w3 56 9 _ _ _ 64 _ Tryz.underlying56 Tryz.underlying5 Tryz.underlying9 hB
          rw [hba64] at hcv2
          have hput := hSp3.put hp hba64
          go_wp2
          exact ⟨⟨i + 1, _, by omega, by go_num, hput, hkw3.setCell (p := ⟨g, p, none⟩) (fun _ => rfl) _⟩, by simp [intOf]; omega⟩
    · have hin : i = n := by omega
      subst hin
      have hbw1 : b < w1.heap.size := lt_of_heap hM.cells
      have hM2 := (hM.kept hk2 (fun _ _ h => h)).kept hkr (fun x hx e => by have e : x = g := e; have := hM.lt x hx; omega)
      clear hM hrow hvn hnl hn64 hat1 hss1 hss hn hkr
      go_wp2_with fail
      refine (fresh_disk wr []).mono ?_
      rintro e w3 ⟨b0, fd0, rfl, hD0, hfd0, hk3⟩
      obtain ⟨hbl1, hbl2⟩ := blank_sizes
      have hnow0 := of_now (List.replicate 400 blank) []
      have hlens0 : (DiskS.of (List.replicate 400 blank) []).Lens 1 2460 := of_lens hbl1 hbl2 (Nat.zero_le _)
      have hno0 := blank_no
      generalize List.replicate 400 blank = BL at hD0 hbl1 hbl2 hnow0 hlens0 hno0
      go_wp2_with fail
      refine (now_any hD0 hlens0 (by decide)).mono ?_
      rintro e w4 ⟨v0, rfl, hrow0, hv0, hk4⟩
      rw [hnow0] at hrow0
      go_wp2_with fail
      refine (recover_no hrow0 hbl1 hbl2 hno0 [] 5 (by decide) (by decide)).mono ?_
      rintro e w5 ⟨rfl, hk5⟩
      have hk35 := (hk3.step hk4).step hk5
      have hM5 := hM2.kept hk35 (fun _ _ h => h)
      have hSp5 := hSp.kept hk35 (fun h => h)
      have hkw5 : Kept (fun x => x = g) w w5 := hkwr.step (hk35.mono (fun _ h _ => h.elim))
      have hkw5' : Kept no w w5 := hkw5.mono (fun x e hlt => by have e : x = g := e; omega)
      clear hD0 hbl1 hbl2 hnow0 hlens0 hno0 hrow0 hM2 hSp hkwr
      obtain ⟨hl5, h645, hrow5⟩ := hSp5
      go_wp2_with fail
      by_cases hex : ∃ hh hd t, Finds (imgOf secs) hh hd t
      · obtain ⟨hh, hd, t, hF⟩ := hex
        obtain ⟨ls, hls, rfl⟩ := hF.reads.fits
        obtain ⟨same, hsame⟩ : ∃ same : Bool, same = true ↔ markOf [] = hd.file := by
          by_cases e : markOf [] = hd.file
          · exact ⟨true, by simp [e]⟩
          · exact ⟨false, by simp [e]⟩
        refine (recover_yes hrow5 hl5 h645 hls hF [] (by decide) 5 _ rfl (by decide) (by decide) same hsame).mono ?_
        rintro e w6 ⟨BX, fX, rfl, hDX, hBX, hk6⟩
        have hM6 := hM5.kept hk6 (fun _ _ h => h)
        have hrow6 := hrow5.kept hk6 (fun _ _ h => h)
        have hkw6 := hkw5'.step hk6
        have hBX8 : ∀ x ∈ fX, w.heap.size ≤ x ∧ x ∉ deskFp b fx fd ft ff := fun x hx => by
          have h1 := hBX x hx
          have h2 := hkw5'.size
          exact ⟨by omega, fun hx2 => by have := hM5.lt x hx2; omega⟩
        have hdokX := hDX.ok
        have htx : (DocS.readBack ls [] 5 hh hd.number).text = textOf ls := rfl
        have hll : (DocS.readBack ls [] 5 hh hd.number).lines = ls := rfl
        have hke : (DocS.readBack ls [] 5 hh hd.number).kind = 0 := rfl
        have hee : (DocS.readBack ls [] 5 hh hd.number).edits = 0 := rfl
        have okB := back_ok (most := 0) hdokX hl5 h645 hF (Nat.zero_le _) (L := 2460) (Nat.le_refl _) (Nat.zero_le _)
        have hgB : Going (DeskS.back ls [] 5 hh hd secs 0) 1 2460 := ⟨okB, rfl, rfl, rfl⟩
        have hbk : (DeskS.back ls [] 5 hh hd secs 0).doc = DocS.readBack ls [] 5 hh hd.number ∧ (DeskS.back ls [] 5 hh hd secs 0).disk = DiskS.of secs [] ∧ (DeskS.back ls [] 5 hh hd secs 0).mt = [textOf ls] ∧ (DeskS.back ls [] 5 hh hd secs 0).mf = [[]] ∧ (DeskS.back ls [] 5 hh hd secs 0).most = 0 := ⟨rfl, rfl, rfl, rfl, rfl⟩
        have hev : (DocS.readBack ls [] 5 hh hd.number).every = 5 ∧ (DocS.readBack ls [] 5 hh hd.number).counted = 0 := ⟨rfl, rfl⟩
        generalize DeskS.back ls [] 5 hh hd secs 0 = DB at hgB hbk
        generalize DocS.readBack ls [] 5 hh hd.number = q at *
        clear hk3 hk4 hk5 hk35 hM5 hrow5 hkw5 hF okB hsame hdokX hv0 hfd0
        go_wp2_with fail
        refine (text_doc hDX).mono ?_
        rintro e w7 ⟨rfl, hk7⟩
        rw [htx]
        have hDX7 := hDX.kept hk7 (fun _ _ h => h)
        go_wp2_with fail
        refine (look_doc hDX7).mono ?_
        rintro e w8 ⟨rfl, hk8⟩
        rw [hll, hke, hee]
        have hDX8 := hDX7.kept hk8 (fun _ _ h => h)
        have hM8 := (hM6.kept hk7 (fun _ _ h => h)).kept hk8 (fun _ _ h => h)
        have hrow8 := (hrow6.kept hk7 (fun _ _ h => h)).kept hk8 (fun _ _ h => h)
        have hkw8 := (hkw6.step hk7).step hk8
        have htl := hls.length
        obtain ⟨S, hS⟩ : ∃ S : ByteArray, S = ⟨(textOf ls).toArray⟩ := ⟨_, rfl⟩
        have hsz : S.size = (textOf ls).length := by rw [hS, size_mk]
        have hget : ∀ k (h : k < S.size) b, (textOf ls)[k]? = some b → S[k] = b := fun k h b hb => by
          subst hS
          have h2 : k < (textOf ls).length := by rwa [size_mk] at h
          rw [List.getElem?_eq_getElem h2] at hb
          exact Option.some.inj hb
        have hsvS : sv (textOf ls) = .string S := by rw [hS]
        rw [hsvS]
        have HG : Hid (∀ k (h : k < S.size) b, (textOf ls)[k]? = some b → S[k] = b) := hget
        have HZ : Hid (S.size = (textOf ls).length) := hsz
        have HSV : Hid (sv (textOf ls) = .string S) := hsvS
        have hSl : S.size ≤ 2460 := by omega
        clear hS hsz hget hsvS
        have hvf := view_lines (ls.length : Int) 0 0 w8
        go_wp2_with fail
        clear hvf
        go_loopw [24, 25, 26] (fun s24 s25 s26 wx => ∃ (a b : List Str) (j fr i : Nat), s24 = .int .i64 ((a.length : Nat) : Int) ∧ s25 = .int .i64 ((fr : Nat) : Int) ∧ s26 = .int .i64 ((i : Nat) : Int) ∧ Hid (ls = a ++ b) ∧ Hid (fr = (textOf a).length) ∧ Hid (i = fr + j) ∧ a.length ≤ 60 ∧ fr ≤ S.size ∧ (b = [] → j = 0) ∧ (∀ l r, b = l :: r → j ≤ l.length) ∧ wx = w8) (fun _ _ s26 _ => S.size - (intOf s26).toNat)
        case atStart => exact ⟨[], ls, 0, 0, 0, rfl, rfl, rfl, rfl, rfl, rfl, by decide, Nat.zero_le _, fun _ => rfl, fun _ _ _ => Nat.zero_le _, rfl⟩
        case round =>
          obtain ⟨a, bb, j, fr, k, rfl, rfl, rfl, HL, HFR, hij, ha60, hfrS, hb0, hbl, rfl⟩ := hrel
          cases bb with
          | nil =>
            have hj0 := hb0 rfl
            have hal : a.length = ls.length := by rw [HL.out, List.append_nil]
            have hfs : fr = S.size := by rw [HZ.out, HFR.out, HL.out, List.append_nil]
            have hal' : (a.length : Int) = (ls.length : Int) := by omega
            have hk2 : ¬ k < S.size := by have := hij.out; omega
            have hn60 : ¬ (ls.length : Int) > 60 := by have := hls.few; omega
            have hfs' : (fr : Int) = (S.size : Int) := by omega
            clear hb0 hbl HL HFR hij HG HZ hal hj0 hfs hfrS ha60
            obtain ⟨hc8, hf8⟩ := cells_of hM8.cells
            go_wp2_with fail
            have hk89 : Kept (fun x => x = b) wr (wr.setCell ⟨b, 0, none⟩ (.pointer (some ⟨BX, 0, none⟩))) := Kept.cell1
            have hb9 : (wr.setCell ⟨b, 0, none⟩ (.pointer (some ⟨BX, 0, none⟩))).heap[b]? = some (.cells (deskCells BX bd vt vf ⟨D.doc.text, D.doc.every, D.doc.counted, D.most⟩) deskT (0, 0)) := by rw [heap_set_same hM8.cells]; simp
            have hbX : b ∉ fX := fun hx => (hBX8 b hx).2 (by simp)
            have hDX9 := hDX8.kept hk89 (fun x hx e => hbX (e ▸ hx))
            have hrow9 : Row (wr.setCell ⟨b, 0, none⟩ (.pointer (some ⟨BX, 0, none⟩))) 9 1 (.slice (some ⟨g, 0, none⟩) 400 cl) secs.length (secs.map sv) := by
              rw [hl5]
              exact hrow8.kept hk89 (fun x hx e => by rw [fpv_some] at hx; have hx := List.mem_singleton.1 hx; have e : x = b := e; omega)
            clear hc8 hf8
            generalize wr.setCell ⟨b, 0, none⟩ (.pointer (some ⟨BX, 0, none⟩)) = w9 at hk89 hb9 hDX9 hrow9 ⊢
            refine (of_any hrow9 hl5 []).mono ?_
            rintro e w10 ⟨BD, fD, rfl, hDK, hfD, hk10⟩
            have hb10 := hk10.get hb9 (fun h => h)
            have hDX10 := hDX9.kept hk10 (fun _ _ h => h)
            obtain ⟨hc10, hf10⟩ := cells_of hb10
            have hbl10 : b < w10.heap.size := lt_of_heap hb10
            clear hb9 hDX9 hrow9
            go_wp2_with fail
            rw [← HSV.out]
            obtain ⟨W8, hW8⟩ : ∃ W8, W8 = (((((w10.setCell ⟨b, 1, none⟩ (.pointer (some ⟨BD, 0, none⟩))).setCell ⟨b, 2, none⟩ (.slice (some ⟨w10.heap.size, 0, none⟩) 1 1)).setCell ⟨b, 3, none⟩ (.slice (some ⟨w10.heap.size + 1, 0, none⟩) 1 1)).setCell ⟨b, 4, none⟩ (sv (textOf ls))).setCell ⟨b, 5, none⟩ (.int .i64 5)).setCell ⟨b, 6, none⟩ (.int .i64 0) := ⟨_, rfl⟩
            have hkW : Kept (fun x => x = b) w10 W8 := by
              rw [hW8]; exact ((((Kept.cell1.step Kept.cell1).step Kept.cell1).step Kept.cell1).step Kept.cell1).step Kept.cell1
            have hsW : W8.heap.size = w10.heap.size := by rw [hW8]; simp
            have hbW : W8.heap[b]? = some (.cells (deskCells BX BD (.slice (some ⟨w10.heap.size, 0, none⟩) 1 1) (.slice (some ⟨w10.heap.size + 1, 0, none⟩) 1 1) ⟨textOf ls, 5, 0, D.most⟩) deskT (0, 0)) := by
              rw [hW8, heap_set_same (heap_set_same (heap_set_same (heap_set_same (heap_set_same (heap_set_same hb10)))))]
              simp
            rw [← hW8]
            clear hc10 hf10 hb10 hW8
            have hemp : (Value.string ⟨#[]⟩) = sv [] := rfl
            obtain ⟨hn11, hsz11, hk11⟩ := new1 W8 (Obj.cells #[sv (textOf ls)] strT)
            obtain ⟨hn12, hsz12, hk12⟩ := new1 (W8.alloc (Obj.cells #[sv (textOf ls)] strT)) (Obj.cells #[sv []] strT)
            have hn11' := hk12.get hn11 (fun h => h)
            rw [hsW] at hn11' hsz11
            rw [hsz11] at hn12
            have hk1112 := hk11.step hk12
            show Calls _ _ _ ((W8.alloc (Obj.cells #[sv (textOf ls)] strT)).alloc (Obj.cells #[sv []] strT)) _
            generalize (W8.alloc (Obj.cells #[sv (textOf ls)] strT)).alloc (Obj.cells #[sv []] strT) = w12 at hn12 hn11' hk1112 ⊢
            have hone : ∀ g s, w12.heap[g]? = some (.cells #[sv s] strT (0, 0)) → TextsAt w12 (.slice (some ⟨g, 0, none⟩) 1 1) [s] [g] := fun g s hg => .inr ⟨g, 0, 1, #[sv s], rfl, rfl, hg, Nat.le_refl _, by unfold maxLen; decide, Nat.le_refl _, fun j x hx => by
              match j, hx with
              | 0, hx => simp at hx; subst hx; rfl⟩
            have hkb : Kept (fun x => x = b) w10 w12 := hkW.step (hk1112.mono (fun _ h _ => h.elim))
            have hbD : b ∉ fD := fun hx => by have := hfD b hx; have := hk89.size; have := hM8.lt b (by simp); omega
            have hDX12 := hDX10.kept hkb (fun x hx e => hbX (e ▸ hx))
            have hDK12 := hDK.kept hkb (fun x hx e => hbD (e ▸ hx))
            have hX10 := hDX10.lt
            have hD10 := hDK.lt
            have hXD : ∀ x ∈ fX, x ∉ fD := fun x hx hx2 => by have := hfD x hx2; have := hDX8.lt x hx; have := hk89.size; omega
            have hRB : DeskR w12 b BX BD DB (deskFp b fX fD [w10.heap.size] [w10.heap.size + 1]) := by
              refine ⟨.slice (some ⟨w10.heap.size, 0, none⟩) 1 1, .slice (some ⟨w10.heap.size + 1, 0, none⟩) 1 1, fX, fD, [w10.heap.size], [w10.heap.size + 1], ?_, rfl⟩
              rw [hbk.1, hbk.2.1, hbk.2.2.1, hbk.2.2.2.1, hbk.2.2.2.2, htx, hev.1, hev.2]
              rw [hmost] at hbW
              refine ⟨hk1112.get hbW (fun h => h), hDX12, hDK12, hone _ _ hn11', hone _ _ hn12, apart_mk ⟨hbX, hbD, fun hx => ?_, fun hx => ?_⟩ ⟨hXD, fun x hx hx2 => ?_, fun x hx hx2 => ?_⟩ ⟨fun x hx hx2 => ?_, fun x hx hx2 => ?_⟩ (fun x hx hx2 => ?_)⟩
              · have := List.mem_singleton.1 hx; omega
              · have := List.mem_singleton.1 hx; omega
              · have := hX10 x hx; have := List.mem_singleton.1 hx2; omega
              · have := hX10 x hx; have := List.mem_singleton.1 hx2; omega
              · have := hD10 x hx; have := List.mem_singleton.1 hx2; omega
              · have := hD10 x hx; have := List.mem_singleton.1 hx2; omega
              · have := List.mem_singleton.1 hx; have := List.mem_singleton.1 hx2; omega
            have hbg : w.heap.size ≤ b := hge b (by simp)
            have hkw9 : Kept no w w9 := hkw8.step' hk89 (fun x e hlt => by have e : x = b := e; omega)
            have hkw10 := hkw9.step hk10
            have hkw12 : Kept no w w12 := hkw10.step' hkb (fun x e hlt => by have e : x = b := e; omega)
            have hge12 : ∀ x ∈ deskFp b fX fD [w10.heap.size] [w10.heap.size + 1], w.heap.size ≤ x := fun x hx => by
              have h9 := hkw9.size
              have h10 := hkw10.size
              simp only [deskFp, List.mem_cons, List.mem_append, List.not_mem_nil, or_false] at hx
              rcases hx with rfl | hx | hx | rfl | rfl
              · exact hbg
              · exact (hBX8 x hx).1
              · have := hfD x hx; omega
              · omega
              · omega
            clear hM8 hDX8 hDX10 hDK hDX12 hDK12 hone hbk hev htx hll hke hee hM6
            generalize deskFp b fX fD [w10.heap.size] [w10.heap.size + 1] = fpB at hRB hge12
            refine (edit_any hRB hgB.ok (by decide) 0 0 c ⟨by decide, by decide⟩ ⟨by decide, by decide⟩ hc).mono ?_
            rintro e w13 ⟨rfl, hT13⟩
            obtain ⟨hgE, hevE⟩ := hgB.edit 0 0 c
            generalize DB.edit 0 0 c = DE at hT13 hgE hevE
            obtain ⟨⟨fp13, hR13, hx13⟩, hk13⟩ := hT13
            have hge13 : ∀ x ∈ fp13, w.heap.size ≤ x := fun x hx => (hx13 x hx).elim (hge12 x) (fun h => by have := hkw12.size; omega)
            have hkw13 : Kept no w w13 := hkw12.step' hk13 (fun x hx hlt => by have := hge12 x hx; omega)
            go_wp2_with fail
            refine (move_any (B := 0) hR13 (hgE.mono (Nat.le_refl 2)) (by decide) (by decide) 3 0 (.slice none 0 0) [] ⟨by simp, by decide, Nat.zero_le _, .inl ⟨_, _, rfl, rfl⟩⟩ (fun _ _ => Nat.zero_le _) ⟨by decide, by decide⟩ ⟨by decide, by decide⟩).mono ?_
            rintro e w14 ⟨rfl, bx14, bd14, fp14, DM, hR14, hgM, heM, hx14, hk14⟩
            have hge14 : ∀ x ∈ fp14, w.heap.size ≤ x := fun x hx => (hx14 x hx).elim (hge13 x) (fun h => by have := hkw13.size; omega)
            have hkw14 : Kept no w w14 := hkw13.step' hk14 (fun x hx hlt => by have := hge13 x hx; omega)
            go_wp2_with fail
            refine (work_any hR14 hgM.ok 500 500 (-1) 0 0 rfl rfl (by decide) (by decide) (by decide) (by decide) (by decide) (by decide)).mono ?_
            rintro e w15 ⟨rfl, ⟨⟨fp15, hR15, hx15⟩, hk15⟩⟩
            have hgW := hgM.work 500 (-1) (decide (0 % 2 ≠ 0))
            generalize DM.work 500 0 (-1) (decide (0 % 2 ≠ 0)) = DW at hR15 hgW
            have hge15 : ∀ x ∈ fp15, w.heap.size ≤ x := fun x hx => (hx15 x hx).elim (hge14 x) (fun h => by have := hkw14.size; omega)
            have hkw15 : Kept no w w15 := hkw14.step' hk15 (fun x hx hlt => by have := hge14 x hx; omega)
            obtain ⟨vt15, vf15, fx15, fd15, ft15, ff15, hM15, rfl⟩ := hR15
            have hbd15 : w15.cell? ⟨b, 1, none⟩ = some (.pointer (some ⟨bd14, 0, none⟩)) := by rw [(cells_of hM15.cells).1]; rfl
            go_wp2_with fail
            refine (crash_any hM15.disk hgW.ok.lens (by decide) (by decide) (hat.kept hkw15 (fun _ h => h.elim))).mono ?_
            rintro e w16 ⟨⟨BK, fk, secs2, f, rfl, hKD, hsl2, hlv, hlf, hkn, hk16⟩⟩
            have hM16 := hM15.kept hk16 (fun _ _ h => h)
            have hR16 : DeskR w16 b bx14 bd14 DW (deskFp b fx15 fd15 ft15 ff15) := ⟨_, _, _, _, _, _, hM16, rfl⟩
            go_wp2_with fail
            refine (back_any hR16 hgW.ok hgW.known (by decide) (by decide) hKD hsl2 hlv (hgW.ok.file.leaves hlf) hgW.mf hgW.mt (leavesFile_len hgW.ok.lens hlf) (fun x hx hx2' => by have := hkn x hx; have := hM15.lt x hx2'; omega)).mono ?_
            rintro e w17 ⟨rfl, ls2, hh2, hd2, bx17, fp17, hls2, hch2, hF2, hR17, hok17, hx17, hk17⟩
            go_wp2
            go_ret
            exact ⟨by simp, (hkw15.step hk16).step' hk17 (fun x hx hlt => by have := hge15 x hx; omega)⟩
          | cons l r =>
            have hjl := hbl l r rfl
            have hlt8 : ∀ x, (textOf ls)[k]? = some x → k < S.size := fun x hx => by rw [HZ.out]; exact (List.getElem?_eq_some_iff.1 hx).1
            by_cases hjj : j < l.length
            · have hx : (textOf ls)[k]? = some l[j] := by rw [HL.out, hij.out, HFR.out]; exact textOf_in hjj
              have hkS := hlt8 _ hx
              have hb := HG.out k hkS _ hx
              have hl10 : ¬ l[j] = 10 := fun e => (hls.lines l (by rw [HL.out]; simp)).2 (by rw [← e]; exact List.getElem_mem _)
              have hb10 : ¬ (S[k].toNat : Int) = 10 := fun e => hl10 (hb.symm.trans (UInt8.toNat_inj.1 (by show S[k].toNat = 10; omega)))
              clear hb0 hbl hlt8 hx hb hl10
              go_wp2
              exact ⟨⟨a, l :: r, j + 1, fr, k + 1, rfl, rfl, by go_num, HL, HFR, by have := hij.out; show _ = _; omega, ha60, hfrS, fun e => (by cases e), fun l' r' e => by cases e; omega, trivial⟩, by simp [intOf]; omega⟩
            · have hjl2 : j = l.length := by omega
              have hx : (textOf ls)[k]? = some 10 := by rw [HL.out, hij.out, HFR.out, hjl2]; exact textOf_end
              have hkS := hlt8 _ hx
              have hb : S[k] = 10 := HG.out k hkS _ hx
              have hl40 := (hls.lines l (by rw [HL.out]; simp)).1
              have h40 : ¬ (k : Int) - (fr : Int) > 40 := by have := hij.out; omega
              have HL2 : Hid (ls = (a ++ [l]) ++ r) := by show _ = _; rw [HL.out]; simp
              have HFR2 : Hid (k + 1 = (textOf (a ++ [l])).length) := by show _ = _; rw [textOf_snoc, ← HFR.out]; have := hij.out; omega
              have ha60' : (a ++ [l]).length ≤ 60 := by
                have h1 := hls.few
                rw [HL2.out, List.length_append] at h1
                omega
              clear hb0 hbl hlt8 hx hl40 hjl2 hjl hjj
              go_wp2
              exact ⟨⟨a ++ [l], r, 0, k + 1, k + 1, by simp, by go_num, by go_num, HL2, HFR2, rfl, ha60', by omega, fun _ => rfl, fun _ _ _ => Nat.zero_le _, trivial⟩, by simp [intOf]; omega⟩
      · refine (recover_no hrow5 hl5 h645 (fun hh hd t hF => hex ⟨hh, hd, t, hF⟩) [] 5 (by decide) (by decide)).mono ?_
        rintro e w6 ⟨rfl, hk6⟩
        go_wp2
        go_ret
        exact ⟨by simp, hkw5'.step hk6⟩
end Go.Proofs.YtdpfohgkikjeaaaGreat

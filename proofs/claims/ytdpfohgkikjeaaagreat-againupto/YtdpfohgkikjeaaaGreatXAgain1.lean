/- Part XAgain 1 of the proof: see its parts. -/
import Derived.Test.YtdpfohgkikjeaaaGreatW12
/- Again: the walk. -/
namespace Go.Proofs.YtdpfohgkikjeaaaGreat
open Go.RowKit
set_option linter.unusedVariables false
set_option linter.unusedSimpArgs false

theorem of_now (secs : List Str) (f : Str) : (DiskS.of secs f).now = secs := by
  show List.map lastOf (List.map _ secs) = secs
  rw [List.map_map]
  conv => rhs; rw [← List.map_id secs]
  rfl

set_option maxRecDepth 100000 in
set_option maxHeartbeats 16000000 in
theorem again_walk {w : World} {B : Nat} {v vs1 vl vs2 : Value} {raw left : List Int} (hr : IntsAt w B v raw) (every : Int) (he : RawOk every) (l1 : List (Int × Int × List Int)) (hl1 : MovesAt w B vs1 l1) (hleft : IntsAt w B vl left) (l2 : List (Int × Int × List Int)) (hl2 : MovesAt w B vs2 l2) (hn1 : l1.length ≤ 1000000000) (hn2 : l2.length ≤ 1000000000) :
    Calls Tryz.prog 8 #[v, .int .i64 every, vs1, vl, vs2] w fun e w' => e = .returned (.bool true) ∧ Kept no w w' := by
  go_enter Tryz.func8, Tryz.ntmps8
  go_wp2_with fail
  refine (begin_any hr every he).mono ?_
  rintro e w1 ⟨b, bx, bd, fp, D, rfl, hR, hB, hge, hk1⟩
  have hl11 := hl1.kept hk1 (fun _ h => h.elim)
  have g := hB.going
  clear hB
  have hBl := hl1.low
  go_wp2_with fail
  refine (plays_any hR g vs1 l1 hl11 (by omega) (by decide) (fun x hx => Nat.le_trans hBl (hge x hx))).mono ?_
  rintro e w2 ⟨rfl, bx2, bd2, fp2, D2, hR2, g2, -, hx2, hk2⟩
  have hge2 : ∀ x ∈ fp2, w.heap.size ≤ x := fun x hx => (hx2 x hx).elim (hge x) (fun h => Nat.le_trans hk1.size h)
  have hkw2 : Kept no w w2 := hk1.step' hk2 (fun x hx hlt => by have := hge x hx; omega)
  obtain ⟨vt, vf, fx, fd, ft, ff, hM, rfl⟩ := hR2
  have hbd := (cells_of hM.cells).1
  go_wp2_with fail
  refine (crash_any hM.disk g2.ok.lens (by omega) (by decide) (hleft.kept hkw2 (fun _ h => h.elim))).mono ?_
  rintro e w5 ⟨⟨BK, fk, secs, f, rfl, hKD, hsl, hlv, hlf, hkn, hk5⟩⟩
  have hM5 := hM.kept hk5 (fun _ _ h => h)
  have hR5 : DeskR w5 b bx2 bd2 D2 (deskFp b fx fd ft ff) := ⟨_, _, _, _, _, _, hM5, rfl⟩
  have h64 := leaves_size g2.ok.lens hlv
  go_wp2_with fail
  refine (back_any hR5 g2.ok g2.known (by omega) (by decide) hKD hsl hlv (g2.ok.file.leaves hlf) g2.mf g2.mt (leavesFile_len g2.ok.lens hlf) (fun x hx hx2' => by have := hkn x hx; have := hM.lt x hx2'; omega)).mono ?_
  rintro e w6 ⟨rfl, ls, hh, hd, bx', fp', hls, hch, hF, hR6, hok6, hx6, hk6⟩
  have hge6 : ∀ x ∈ fp', w.heap.size ≤ x := fun x hx => by
    have hs1 := hkw2.size
    have hs2 := hk5.size
    rcases hx6 x hx with h | h | h
    · exact hge2 x h
    · have := hkn x h; omega
    · omega
  have hkw6 : Kept no w w6 := (hkw2.step hk5).step' hk6 (fun x hx hlt => by have := hge2 x hx; omega)
  have hgo6 : Going (DeskS.back ls f D2.doc.every hh hd secs D2.most) 1 2460 := ⟨hok6, rfl, rfl, rfl⟩
  have htx6 : (DeskS.back ls f D2.doc.every hh hd secs D2.most).doc.text = textOf ls := rfl
  have hdk6 : (DeskS.back ls f D2.doc.every hh hd secs D2.most).disk = DiskS.of secs f := rfl
  have hfl2 : f.length ≤ 1099511627776 := by have := leavesFile_len g2.ok.lens hlf; omega
  clear hM hM5 hR5 hKD hlv hlf hkn hbd hR hl11 g g2 hch hx2 hx6 hk6 hk5 hk2
  generalize hD3 : DeskS.back ls f D2.doc.every hh hd secs D2.most = D3 at hR6 hok6 hgo6 htx6 hdk6
  clear hD3
  obtain ⟨same, hsame⟩ : ∃ same : Bool, same = true ↔ markOf f = hd.file := by
    by_cases e : markOf f = hd.file
    · exact ⟨true, by simp [e]⟩
    · exact ⟨false, by simp [e]⟩
  obtain ⟨vt6, vf6, fx6, fd6, ft6, ff6, hM6, rfl⟩ := hR6
  have hK6 := hM6.disk
  rw [hdk6] at hK6
  have hok6d := hok6.lens
  rw [hdk6] at hok6d
  go_wp2_with fail
  -- Recover of the swap as it stands
  have hcx : ∀ W, Kept no w6 W → W.cell? ⟨BK, 1, none⟩ = some (sv f) := fun W hW => hW.read hK6.fileCell (fun h => h)
  refine wp_region5 (fun W => Kept no w6 W) [(0, true), (2, true), (3, true), (4, true), (5, false)] [(1, false), (6, false), (7, true), (8, true), (9, true), (10, true), (11, true), (12, true), (13, true)] (by kernel_rfl) (by kernel_rfl) (fun _ _ d _ _ h => by cases d <;> exact h) ((Kept.refl _ _).drew) ?_
  repeat ((first | refine wpPre3_pure rfl rfl (fun W => (by go_simp; rfl)) ?_ | refine wpPre3_read rfl rfl (fun W hW => (by have h1 := hcx W hW; go_simp; rfl)) ?_); simp only [Act.put, List.setIfInBounds_toArray, List.set])
  refine wpPre3_nil ?_
  have hkxa : Kept no w6 w6.drew := (Kept.refl _ _).drew
  generalize w6.drew = wxa at hkxa ⊢
  have hdxa := hK6.kept hkxa (fun _ _ h => h)
  refine wpMix_cons rfl rfl (fun K hK => ?_)
  go_wp2_with fail
  refine (now_any hdxa hok6d (by decide)).mono ?_
  rintro e wxb ⟨vx, rfl, hrowx, hvnx, hkxb⟩
  refine hK _ _ ⟨fun h => h.step hkxb, ?_⟩
  clear hK
  rw [of_now] at hrowx
  refine wpMix_cons rfl rfl (fun K hK => ?_)
  go_wp2_with fail
  refine (recover_yes hrowx hsl h64 hls hF f hfl2 3 _ rfl (by decide) (by decide) same hsame).mono ?_
  rintro e wxc ⟨Bx, fx, rfl, hDocx, hBx, hkxc⟩
  refine hK _ _ ⟨fun h => h.step hkxc, ?_⟩
  clear hK
  repeat (refine wpMix_pure rfl rfl (fun W => (by go_simp; rfl)) ?_; simp only [Act.put, List.setIfInBounds_toArray, List.set])
  refine wpMix_nil ?_
  have hkx : Kept no w6 wxc := (hkxa.step hkxb).step hkxc
  clear hcx hdxa hrowx
  have hKx := hK6.kept hkx (fun _ _ h => h)
  go_wp2_with fail
  -- Recover of the swap as it stands
  have hcy : ∀ W, Kept no wxc W → W.cell? ⟨BK, 1, none⟩ = some (sv f) := fun W hW => hW.read hKx.fileCell (fun h => h)
  refine wp_region5 (fun W => Kept no wxc W) [(0, true), (2, true), (3, true), (4, true), (5, false)] [(1, false), (6, false), (7, true), (8, true), (9, true), (10, true), (11, true), (12, true), (13, true)] (by kernel_rfl) (by kernel_rfl) (fun _ _ d _ _ h => by cases d <;> exact h) ((Kept.refl _ _).drew) ?_
  repeat ((first | refine wpPre3_pure rfl rfl (fun W => (by go_simp; rfl)) ?_ | refine wpPre3_read rfl rfl (fun W hW => (by have h1 := hcy W hW; go_simp; rfl)) ?_); simp only [Act.put, List.setIfInBounds_toArray, List.set])
  refine wpPre3_nil ?_
  have hkya : Kept no wxc wxc.drew := (Kept.refl _ _).drew
  generalize wxc.drew = wya at hkya ⊢
  have hdya := hKx.kept hkya (fun _ _ h => h)
  refine wpMix_cons rfl rfl (fun K hK => ?_)
  go_wp2_with fail
  refine (now_any hdya hok6d (by decide)).mono ?_
  rintro e wyb ⟨vy, rfl, hrowy, hvny, hkyb⟩
  refine hK _ _ ⟨fun h => h.step hkyb, ?_⟩
  clear hK
  rw [of_now] at hrowy
  refine wpMix_cons rfl rfl (fun K hK => ?_)
  go_wp2_with fail
  refine (recover_yes hrowy hsl h64 hls hF f hfl2 7 _ rfl (by decide) (by decide) same hsame).mono ?_
  rintro e wyc ⟨By, fy, rfl, hDocy, hBy, hkyc⟩
  refine hK _ _ ⟨fun h => h.step hkyc, ?_⟩
  clear hK
  repeat (refine wpMix_pure rfl rfl (fun W => (by go_simp; rfl)) ?_; simp only [Act.put, List.setIfInBounds_toArray, List.set])
  refine wpMix_nil ?_
  have hky : Kept no wxc wyc := (hkya.step hkyb).step hkyc
  clear hcy hdya hrowy
  have hDx := hDocx.kept hky (fun _ _ h => h)
  have htxx : (DocS.readBack ls f 3 hh hd.number).text = textOf ls := rfl
  have htxy : (DocS.readBack ls f 7 hh hd.number).text = textOf ls := rfl
  generalize DocS.readBack ls f 3 hh hd.number = qx at hDocx hDx htxx
  generalize DocS.readBack ls f 7 hh hd.number = qy at hDocy htxy
  have hM7 := (hM6.kept hkx (fun _ _ h => h)).kept hky (fun _ _ h => h)
  have hkw7 := (hkw6.step hkx).step hky
  generalize wyc = w7 at *
  go_wp2_with fail
  refine (text_doc hDx).mono ?_
  rintro e w8 ⟨rfl, hk8⟩
  rw [htxx]
  go_wp2_with fail
  refine (text_doc (hDocy.kept hk8 (fun _ _ h => h))).mono ?_
  rintro e w9 ⟨rfl, hk9⟩
  rw [htxy]
  have hM9 := (hM7.kept hk8 (fun _ _ h => h)).kept hk9 (fun _ _ h => h)
  have hkw9 := (hkw7.step hk8).step hk9
  obtain ⟨hc9, hf9⟩ := cells_of hM9.cells
  go_wp2_with fail
  refine (text_doc hM9.doc).mono ?_
  rintro e w10 ⟨rfl, hk10⟩
  rw [htx6]
  generalize textOf ls = t
  have hM10 := hM9.kept hk10 (fun _ _ h => h)
  have hkw10 := hkw9.step hk10
  have hR10 : DeskR w10 b bx' BK D3 (deskFp b fx6 fd6 ft6 ff6) := ⟨_, _, _, _, _, _, hM10, rfl⟩
  have hl12 := hl2.kept hkw10 (fun _ h => h.elim)
  clear hM6 hM7 hM9 hc9 hf9 hK6 hKx hDocx hDocy hDx
  go_wp2_with fail
  refine (plays_any hR10 hgo6 vs2 l2 hl12 (by omega) (by decide) (fun x hx => Nat.le_trans hBl (hge6 x hx))).mono ?_
  rintro e w11 ⟨rfl, bx3, bd3, fp3, D4, hR11, g4, -, hx11, hk11⟩
  have hge11 : ∀ x ∈ fp3, w.heap.size ≤ x := fun x hx => (hx11 x hx).elim (hge6 x) (fun h => Nat.le_trans hkw10.size h)
  have hkw11 : Kept no w w11 := hkw10.step' hk11 (fun x hx hlt => by have := hge6 x hx; omega)
  clear hM10 hR10
  obtain ⟨vt, vf, fx, fd, ft, ff, hM, rfl⟩ := hR11
  have hbd := (cells_of hM.cells).1
  have htt : (t == t) = true := by simp
  have hss : (same == same) = true := by simp
  go_wp2_with fail
  refine (crash_any hM.disk g4.ok.lens (by omega) (by decide) (hleft.kept hkw11 (fun _ h => h.elim))).mono ?_
  rintro e w12 ⟨⟨BL, fk2, secs2, f2, rfl, hKD, hsl2, hlv, hlf, hkn, hk12⟩⟩
  have hM12 := hM.kept hk12 (fun _ _ h => h)
  have hR12 : DeskR w12 b bx3 bd3 D4 (deskFp b fx fd ft ff) := ⟨_, _, _, _, _, _, hM12, rfl⟩
  go_wp2_with fail
  refine (back_any hR12 g4.ok g4.known (by omega) (by decide) hKD hsl2 hlv (g4.ok.file.leaves hlf) g4.mf g4.mt (leavesFile_len g4.ok.lens hlf) (fun x hx hx2' => by have := hkn x hx; have := hM.lt x hx2'; omega)).mono ?_
  rintro e w13 ⟨rfl, ls2, hh2, hd2, bx4, fp4, hls2, hch2, hF2, hR13, hok13, hx13, hk13⟩
  go_wp2
  go_ret
  exact ⟨by simp, (hkw11.step hk12).step' hk13 (fun x hx hlt => by have := hge11 x hx; omega)⟩
end Go.Proofs.YtdpfohgkikjeaaaGreat

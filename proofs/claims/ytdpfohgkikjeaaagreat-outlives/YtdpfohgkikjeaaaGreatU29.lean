/- Part 29 of the proof: see its parts. -/
import Derived.ChangeSame
import Derived.ChangeSlices
import Derived.Deep.Strs
import Derived.Deep.Slices
import Derived.SizedLaws
import Derived.Test.YtdpfohgkikjeaaaGreatU24
import Derived.Test.YtdpfohgkikjeaaaGreatU28
/- plays: a script. -/
namespace Go.Proofs.YtdpfohgkikjeaaaGreat
open Go.RowKit
set_option linter.unusedVariables false
set_option linter.unusedSimpArgs false

/-- A script as it is read: its moves, in blocks below B. -/
structure MovesAt (w : World) (B : Nat) (v : Value) (l : List (Int × Int × List Int)) : Prop where
  fits : ∀ m ∈ l, RawOk m.1 ∧ RawOk m.2.1
  few : l.length < 9223372036854775808
  low : B ≤ w.heap.size
  at_ : (∃ a c, v = .slice a 0 c ∧ l = []) ∨ ∃ b o c, v = .slice (some ⟨b, o, none⟩) l.length c ∧ b < B ∧ ∀ j m, l[j]? = some m → ∃ r, w.cell? ⟨b, o + j * 3, none⟩ = some (.int .i64 m.1) ∧ w.cell? ⟨b, o + j * 3 + 1, none⟩ = some (.int .i64 m.2.1) ∧ w.cell? ⟨b, o + j * 3 + 2, none⟩ = some r ∧ IntsAt w B r m.2.2

theorem MovesAt.kept {S : Blocks} {w w' : World} {B v l} (h : MovesAt w B v l) (k : Kept S w w') (hn : ∀ x, S x → B ≤ x) : MovesAt w' B v l := by
  refine ⟨h.fits, h.few, Nat.le_trans h.low k.size, ?_⟩
  rcases h.at_ with h1 | ⟨b, o, c, hv, hb, hc⟩
  · exact .inl h1
  · refine .inr ⟨b, o, c, hv, hb, fun j m hj => ?_⟩
    have hnb : ¬ S b := fun hs => by have := hn b hs; omega
    obtain ⟨r, h0, h1, h2, hr⟩ := hc j m hj
    exact ⟨r, k.read h0 hnb, k.read h1 hnb, k.read h2 hnb, hr.kept k hn⟩

set_option maxRecDepth 100000 in
set_option maxHeartbeats 8000000 in
theorem plays_any {w b bx bd D fp N L B} (h : DeskR w b bx bd D fp) (g : Going D N L) (v : Value) (l : List (Int × Int × List Int)) (hl : MovesAt w B v l) (hN : N + l.length + 600 ≤ 8000000000000) (hL : L ≤ 1000000000000) (hBw : ∀ x ∈ fp, B ≤ x) :
    Calls Tryz.prog 13 #[.pointer (some ⟨b, 0, none⟩), v] w fun e w' => e = .returned (.bool true) ∧ MovedTo w w' b fp D (N + l.length) L := by
  obtain ⟨pv, cv, hv⟩ : ∃ pv cv, v = .slice pv l.length cv := by
    rcases hl.at_ with ⟨a, c, h1, h2⟩ | ⟨b, o, c, h1, _⟩
    · subst h2; exact ⟨_, _, h1⟩
    · exact ⟨_, _, h1⟩
  subst hv
  have hfew := hl.few
  generalize hn : l.length = n at *
  go_enter Tryz.func13, Tryz.ntmps13
  go_wp2_with fail
  go_loopw [5] (fun s5 wr => ∃ i : Nat, i ≤ n ∧ s5 = .int .i64 ((i : Nat) : Int) ∧ MovedTo w wr b fp D (N + i) L) (fun s5 _ => n - (intOf s5).toNat)
  case atStart => exact ⟨0, Nat.zero_le _, rfl, bx, bd, fp, D, h, g, rfl, fun x hx => .inl hx, Kept.refl _ _⟩
  case round =>
    obtain ⟨i, hi, rfl, bx1, bd1, fp1, D1, hr1, g1, he1, hx1, hk1⟩ := hrel
    have hl1 := hl.kept hk1 hBw
    by_cases hlt : i < n
    · obtain ⟨m, hm⟩ : ∃ m, l[i]? = some m := ⟨l[i]'(by omega), by simp [hn, hlt]⟩
      obtain ⟨hf1, hf2⟩ := hl.fits m (List.mem_of_getElem? hm)
      obtain ⟨k, q, raw⟩ := m
      rcases hl1.at_ with ⟨a, c, h1, h2⟩ | ⟨b2, o, c, h1, hb2, hc⟩
      · subst h2; simp at hm
      · simp only [Value.slice.injEq] at h1
        obtain ⟨rfl, h1', rfl⟩ := h1
        clear h1'
        obtain ⟨r, c0, c1, c2, hraw⟩ := hc i _ hm
        have hB1 : ∀ x ∈ fp1, B ≤ x := fun x hx => (hx1 x hx).elim (hBw x) (fun h => Nat.le_trans hl.low h)
        have hmov := move_any hr1 g1 (by omega) hL k q r raw hraw hB1 hf1 hf2
        clear hc hl1 hl hn hm
        simp only at c0 c1
        go_wp2_with fail
        refine hmov.mono ?_
        rintro e w2 ⟨rfl, bx2, bd2, fp2, D2, hr2, g2, he2, hx2, hk2⟩
        go_wp2
        refine ⟨⟨i + 1, by omega, by go_num, bx2, bd2, fp2, D2, hr2, g2.mono (by omega), he2.trans he1, fun x hx => (hx2 x hx).elim (hx1 x) (fun h => .inr (Nat.le_trans hk1.size h)), hk1.step' hk2 (fun x hx hlt => (hx1 x hx).resolve_right (by omega))⟩, by simp [intOf]; omega⟩
    · have hin : i = n := by omega
      subst hin
      go_wp2
      go_ret
      exact ⟨rfl, bx1, bd1, fp1, D1, hr1, g1, he1, hx1, hk1⟩
end Go.Proofs.YtdpfohgkikjeaaaGreat
/- Outlives: the walk. -/
namespace Go.Proofs.YtdpfohgkikjeaaaGreat
open Go.RowKit
set_option linter.unusedVariables false
set_option linter.unusedSimpArgs false

/-- What stands at the beginning goes on. -/
theorem Begun.going {D : DeskS} {ls : List Str} {n : Nat} (h : Begun D ls n) : Going D 501 2460 := ⟨h.ok, h.known, h.mf.trans h.files.symm, by rw [h.mt, h.ch]; rfl, idle_rows h.ok h.kind⟩

/-- An empty row of numbers. -/
theorem ints_nil {w : World} : IntsAt w 0 (.slice none 0 0) [] := ⟨by simp, by decide, Nat.zero_le _, .inl ⟨_, _, rfl, rfl⟩⟩

set_option maxRecDepth 100000 in
set_option maxHeartbeats 8000000 in
theorem outlives_walk {w : World} {B : Nat} {v vs : Value} {raw : List Int} (hr : IntsAt w B v raw) (every : Int) (he : RawOk every) (l : List (Int × Int × List Int)) (hl : MovesAt w B vs l) (hfew : l.length ≤ 4000000000000) :
    Calls Tryz.prog 6 #[v, .int .i64 every, vs] w fun e w' => e = .returned (.bool true) ∧ Kept no w w' := by
  go_enter Tryz.func6, Tryz.ntmps6
  go_wp2_with fail
  refine (begin_any hr every he).mono ?_
  rintro e w1 ⟨b, bx, bd, fp, D, rfl, hR, hB, hge, hk1⟩
  have hl1 := hl.kept hk1 (fun _ h => h.elim)
  have g := hB.going
  clear hB
  have hBl := hl.low
  go_wp2_with fail
  refine (plays_any hR g vs l hl1 (by omega) (by decide) (fun x hx => Nat.le_trans hBl (hge x hx))).mono ?_
  rintro e w2 ⟨rfl, bx2, bd2, fp2, D2, hR2, g2, -, hx2, hk2⟩
  obtain ⟨vt, vf, fx, fd, ft, ff, hM, rfl⟩ := hR2
  have hbd := (cells_of hM.cells).1
  go_wp2_with fail
  refine (crash_any hM.disk g2.ok.lens (by omega) (by decide) (ints_nil (w := w2))).mono ?_
  rintro e w5 ⟨⟨BK, fk, secs, f, rfl, hKD, hsl, hlv, hlf, hkn, hk5⟩⟩
  have hM5 := hM.kept hk5 (fun _ _ h => h)
  have hR5 : DeskR w5 b bx2 bd2 D2 (deskFp b fx fd ft ff) := ⟨_, _, _, _, _, _, hM5, rfl⟩
  go_wp2_with fail
  refine (back_any hR5 g2.ok g2.known (by omega) (by decide) hKD hsl hlv (g2.ok.file.leaves hlf) g2.mf g2.mt (leavesFile_len g2.ok.lens hlf) (fun x hx hx2' => by have := hkn x hx; have := hM.lt x hx2'; omega)).mono ?_
  rintro e w6 ⟨rfl, ls, hh, hd, bx', fp', hls, hch, hF, hR6, hok6, hx6, hk6⟩
  go_wp2
  go_ret
  refine ⟨rfl, ((hk1.step' hk2 (fun x hx hlt => by have := hge x hx; omega)).step hk5).step' hk6 (fun x hx hlt => ?_)⟩
  have h1 := hk1.size
  rcases hx2 x hx with h | h
  · have := hge x h; omega
  · omega
end Go.Proofs.YtdpfohgkikjeaaaGreat
/- Again: the walk. -/
namespace Go.Proofs.YtdpfohgkikjeaaaGreat
open Go.RowKit
set_option linter.unusedVariables false
set_option linter.unusedSimpArgs false

theorem of_now (secs : List Str) (f : Str) : (DiskS.of secs f).now = secs := by
  show List.map lastOf (List.map _ secs) = secs
  rw [List.map_map]
  conv => rhs; rw [← List.map_id secs]
  rfl

set_option maxRecDepth 100000 in
set_option maxHeartbeats 16000000 in
theorem again_walk {w : World} {B : Nat} {v vs1 vl vs2 : Value} {raw left : List Int} (hr : IntsAt w B v raw) (every : Int) (he : RawOk every) (l1 : List (Int × Int × List Int)) (hl1 : MovesAt w B vs1 l1) (hleft : IntsAt w B vl left) (l2 : List (Int × Int × List Int)) (hl2 : MovesAt w B vs2 l2) (hn1 : l1.length ≤ 4000000000000) (hn2 : l2.length ≤ 4000000000000) :
    Calls Tryz.prog 8 #[v, .int .i64 every, vs1, vl, vs2] w fun e w' => e = .returned (.bool true) ∧ Kept no w w' := by
  go_enter Tryz.func8, Tryz.ntmps8
  go_wp2_with fail
  refine (begin_any hr every he).mono ?_
  rintro e w1 ⟨b, bx, bd, fp, D, rfl, hR, hB, hge, hk1⟩
  have hl11 := hl1.kept hk1 (fun _ h => h.elim)
  have g := hB.going
  clear hB
  have hBl := hl1.low
  go_wp2_with fail
  refine (plays_any hR g vs1 l1 hl11 (by omega) (by decide) (fun x hx => Nat.le_trans hBl (hge x hx))).mono ?_
  rintro e w2 ⟨rfl, bx2, bd2, fp2, D2, hR2, g2, -, hx2, hk2⟩
  have hge2 : ∀ x ∈ fp2, w.heap.size ≤ x := fun x hx => (hx2 x hx).elim (hge x) (fun h => Nat.le_trans hk1.size h)
  have hkw2 : Kept no w w2 := hk1.step' hk2 (fun x hx hlt => by have := hge x hx; omega)
  obtain ⟨vt, vf, fx, fd, ft, ff, hM, rfl⟩ := hR2
  have hbd := (cells_of hM.cells).1
  go_wp2_with fail
  refine (crash_any hM.disk g2.ok.lens (by omega) (by decide) (hleft.kept hkw2 (fun _ h => h.elim))).mono ?_
  rintro e w5 ⟨⟨BK, fk, secs, f, rfl, hKD, hsl, hlv, hlf, hkn, hk5⟩⟩
  have hM5 := hM.kept hk5 (fun _ _ h => h)
  have hR5 : DeskR w5 b bx2 bd2 D2 (deskFp b fx fd ft ff) := ⟨_, _, _, _, _, _, hM5, rfl⟩
  have h64 := leaves_size g2.ok.lens hlv
  go_wp2_with fail
  refine (back_any hR5 g2.ok g2.known (by omega) (by decide) hKD hsl hlv (g2.ok.file.leaves hlf) g2.mf g2.mt (leavesFile_len g2.ok.lens hlf) (fun x hx hx2' => by have := hkn x hx; have := hM.lt x hx2'; omega)).mono ?_
  rintro e w6 ⟨rfl, ls, hh, hd, bx', fp', hls, hch, hF, hR6, hok6, hx6, hk6⟩
  have hge6 : ∀ x ∈ fp', w.heap.size ≤ x := fun x hx => by
    have hs1 := hkw2.size
    have hs2 := hk5.size
    rcases hx6 x hx with h | h | h
    · exact hge2 x h
    · have := hkn x h; omega
    · omega
  have hkw6 : Kept no w w6 := (hkw2.step hk5).step' hk6 (fun x hx hlt => by have := hge2 x hx; omega)
  have hgo6 : Going (DeskS.back ls f D2.doc.every hh hd secs D2.most) 1 2460 := ⟨hok6, rfl, rfl, rfl, back_rows _ _ _ _ _ _ _ (by decide)⟩
  have htx6 : (DeskS.back ls f D2.doc.every hh hd secs D2.most).doc.text = textOf ls := rfl
  have hdk6 : (DeskS.back ls f D2.doc.every hh hd secs D2.most).disk = DiskS.of secs f := rfl
  have hfl2 : f.length ≤ 1099511627776 := by have := leavesFile_len g2.ok.lens hlf; omega
  clear hM hM5 hR5 hKD hlv hlf hkn hbd hR hl11 g g2 hch hx2 hx6 hk6 hk5 hk2
  generalize hD3 : DeskS.back ls f D2.doc.every hh hd secs D2.most = D3 at hR6 hok6 hgo6 htx6 hdk6
  clear hD3
  obtain ⟨same, hsame⟩ : ∃ same : Bool, same = true ↔ markOf f = hd.file := by
    by_cases e : markOf f = hd.file
    · exact ⟨true, by simp [e]⟩
    · exact ⟨false, by simp [e]⟩
  obtain ⟨vt6, vf6, fx6, fd6, ft6, ff6, hM6, rfl⟩ := hR6
  have hK6 := hM6.disk
  rw [hdk6] at hK6
  have hok6d := hok6.lens
  rw [hdk6] at hok6d
  go_wp2_with fail
  -- Recover of the swap as it stands
  have hcx : ∀ W, Kept no w6 W → W.cell? ⟨BK, 1, none⟩ = some (sv f) := fun W hW => hW.read hK6.fileCell (fun h => h)
  refine wp_region5 (fun W => Kept no w6 W) [(0, true), (2, true), (3, true), (4, true), (5, false)] [(1, false), (6, false), (7, true), (8, true), (9, true), (10, true), (11, true), (12, true), (13, true)] (by kernel_rfl) (by kernel_rfl) (fun _ _ d _ _ h => by cases d <;> exact h) ((Kept.refl _ _).drew) ?_
  repeat ((first | refine wpPre3_pure rfl rfl (fun W => (by go_simp; rfl)) ?_ | refine wpPre3_read rfl rfl (fun W hW => (by have h1 := hcx W hW; go_simp; rfl)) ?_); simp only [Act.put, List.setIfInBounds_toArray, List.set])
  refine wpPre3_nil ?_
  have hkxa : Kept no w6 w6.drew := (Kept.refl _ _).drew
  generalize w6.drew = wxa at hkxa ⊢
  have hdxa := hK6.kept hkxa (fun _ _ h => h)
  refine wpMix_cons rfl rfl (fun K hK => ?_)
  go_wp2_with fail
  refine (now_any hdxa hok6d (by decide)).mono ?_
  rintro e wxb ⟨vx, rfl, hrowx, hvnx, hkxb⟩
  refine hK _ _ ⟨fun h => h.step hkxb, ?_⟩
  clear hK
  rw [of_now] at hrowx
  refine wpMix_cons rfl rfl (fun K hK => ?_)
  go_wp2_with fail
  refine (recover_yes hrowx hsl h64 hls hF f hfl2 3 _ rfl (by decide) (by decide) same hsame).mono ?_
  rintro e wxc ⟨Bx, fx, rfl, hDocx, hBx, hkxc⟩
  refine hK _ _ ⟨fun h => h.step hkxc, ?_⟩
  clear hK
  repeat (refine wpMix_pure rfl rfl (fun W => (by go_simp; rfl)) ?_; simp only [Act.put, List.setIfInBounds_toArray, List.set])
  refine wpMix_nil ?_
  have hkx : Kept no w6 wxc := (hkxa.step hkxb).step hkxc
  clear hcx hdxa hrowx
  have hKx := hK6.kept hkx (fun _ _ h => h)
  go_wp2_with fail
  -- Recover of the swap as it stands
  have hcy : ∀ W, Kept no wxc W → W.cell? ⟨BK, 1, none⟩ = some (sv f) := fun W hW => hW.read hKx.fileCell (fun h => h)
  refine wp_region5 (fun W => Kept no wxc W) [(0, true), (2, true), (3, true), (4, true), (5, false)] [(1, false), (6, false), (7, true), (8, true), (9, true), (10, true), (11, true), (12, true), (13, true)] (by kernel_rfl) (by kernel_rfl) (fun _ _ d _ _ h => by cases d <;> exact h) ((Kept.refl _ _).drew) ?_
  repeat ((first | refine wpPre3_pure rfl rfl (fun W => (by go_simp; rfl)) ?_ | refine wpPre3_read rfl rfl (fun W hW => (by have h1 := hcy W hW; go_simp; rfl)) ?_); simp only [Act.put, List.setIfInBounds_toArray, List.set])
  refine wpPre3_nil ?_
  have hkya : Kept no wxc wxc.drew := (Kept.refl _ _).drew
  generalize wxc.drew = wya at hkya ⊢
  have hdya := hKx.kept hkya (fun _ _ h => h)
  refine wpMix_cons rfl rfl (fun K hK => ?_)
  go_wp2_with fail
  refine (now_any hdya hok6d (by decide)).mono ?_
  rintro e wyb ⟨vy, rfl, hrowy, hvny, hkyb⟩
  refine hK _ _ ⟨fun h => h.step hkyb, ?_⟩
  clear hK
  rw [of_now] at hrowy
  refine wpMix_cons rfl rfl (fun K hK => ?_)
  go_wp2_with fail
  refine (recover_yes hrowy hsl h64 hls hF f hfl2 7 _ rfl (by decide) (by decide) same hsame).mono ?_
  rintro e wyc ⟨By, fy, rfl, hDocy, hBy, hkyc⟩
  refine hK _ _ ⟨fun h => h.step hkyc, ?_⟩
  clear hK
  repeat (refine wpMix_pure rfl rfl (fun W => (by go_simp; rfl)) ?_; simp only [Act.put, List.setIfInBounds_toArray, List.set])
  refine wpMix_nil ?_
  have hky : Kept no wxc wyc := (hkya.step hkyb).step hkyc
  clear hcy hdya hrowy
  have hDx := hDocx.kept hky (fun _ _ h => h)
  have htxx : (DocS.readBack ls f 3 hh hd.number).text = textOf ls := rfl
  have htxy : (DocS.readBack ls f 7 hh hd.number).text = textOf ls := rfl
  generalize DocS.readBack ls f 3 hh hd.number = qx at hDocx hDx htxx
  generalize DocS.readBack ls f 7 hh hd.number = qy at hDocy htxy
  have hM7 := (hM6.kept hkx (fun _ _ h => h)).kept hky (fun _ _ h => h)
  have hkw7 := (hkw6.step hkx).step hky
  generalize wyc = w7 at *
  go_wp2_with fail
  refine (text_doc hDx).mono ?_
  rintro e w8 ⟨rfl, hk8⟩
  rw [htxx]
  go_wp2_with fail
  refine (text_doc (hDocy.kept hk8 (fun _ _ h => h))).mono ?_
  rintro e w9 ⟨rfl, hk9⟩
  rw [htxy]
  have hM9 := (hM7.kept hk8 (fun _ _ h => h)).kept hk9 (fun _ _ h => h)
  have hkw9 := (hkw7.step hk8).step hk9
  obtain ⟨hc9, hf9⟩ := cells_of hM9.cells
  go_wp2_with fail
  refine (text_doc hM9.doc).mono ?_
  rintro e w10 ⟨rfl, hk10⟩
  rw [htx6]
  generalize textOf ls = t
  have hM10 := hM9.kept hk10 (fun _ _ h => h)
  have hkw10 := hkw9.step hk10
  have hR10 : DeskR w10 b bx' BK D3 (deskFp b fx6 fd6 ft6 ff6) := ⟨_, _, _, _, _, _, hM10, rfl⟩
  have hl12 := hl2.kept hkw10 (fun _ h => h.elim)
  clear hM6 hM7 hM9 hc9 hf9 hK6 hKx hDocx hDocy hDx
  go_wp2_with fail
  refine (plays_any hR10 hgo6 vs2 l2 hl12 (by omega) (by decide) (fun x hx => Nat.le_trans hBl (hge6 x hx))).mono ?_
  rintro e w11 ⟨rfl, bx3, bd3, fp3, D4, hR11, g4, -, hx11, hk11⟩
  have hge11 : ∀ x ∈ fp3, w.heap.size ≤ x := fun x hx => (hx11 x hx).elim (hge6 x) (fun h => Nat.le_trans hkw10.size h)
  have hkw11 : Kept no w w11 := hkw10.step' hk11 (fun x hx hlt => by have := hge6 x hx; omega)
  clear hM10 hR10
  obtain ⟨vt, vf, fx, fd, ft, ff, hM, rfl⟩ := hR11
  have hbd := (cells_of hM.cells).1
  have htt : (t == t) = true := by simp
  have hss : (same == same) = true := by simp
  go_wp2_with fail
  refine (crash_any hM.disk g4.ok.lens (by omega) (by decide) (hleft.kept hkw11 (fun _ h => h.elim))).mono ?_
  rintro e w12 ⟨⟨BL, fk2, secs2, f2, rfl, hKD, hsl2, hlv, hlf, hkn, hk12⟩⟩
  have hM12 := hM.kept hk12 (fun _ _ h => h)
  have hR12 : DeskR w12 b bx3 bd3 D4 (deskFp b fx fd ft ff) := ⟨_, _, _, _, _, _, hM12, rfl⟩
  go_wp2_with fail
  refine (back_any hR12 g4.ok g4.known (by omega) (by decide) hKD hsl2 hlv (g4.ok.file.leaves hlf) g4.mf g4.mt (leavesFile_len g4.ok.lens hlf) (fun x hx hx2' => by have := hkn x hx; have := hM.lt x hx2'; omega)).mono ?_
  rintro e w13 ⟨rfl, ls2, hh2, hd2, bx4, fp4, hls2, hch2, hF2, hR13, hok13, hx13, hk13⟩
  go_wp2
  go_ret
  exact ⟨by simp, (hkw11.step hk12).step' hk13 (fun x hx hlt => by have := hge11 x hx; omega)⟩
end Go.Proofs.YtdpfohgkikjeaaaGreat
/- Arguments that are rows of numbers: how they are read, and that they read so again. -/
namespace Go.Proofs.YtdpfohgkikjeaaaGreat
open Go.RowKit Go.ChangeShapes Go.WideShapes Go.ChangeAt
set_option linter.unusedVariables false
set_option linter.unusedSimpArgs false

theorem cellsInt : Tryz.prog.cellsOf 3 = 1 := by kernel_rfl

theorem wf_raw {x : Int} (h : (Lit.int .i64 x).wf = true) : RawOk x := by
  have hx : -9223372036854775808 ≤ x ∧ x ≤ 9223372036854775807 := by simpa [Lit.wf, IntKind.min, IntKind.max, IntKind.signed, IntKind.bits] using h
  exact ⟨hx.1, by omega⟩

theorem plain_addr {w : World} {a : Addr} {v : Value} (h : w.cell? (a.add 0) = some v) : a = ⟨a.block, a.off, none⟩ := by
  obtain ⟨b, o, s⟩ := a
  cases s with
  | none => rfl
  | some s =>
    exfalso
    unfold World.cell? at h
    cases hh : w.heap[(Addr.add ⟨b, o, some s⟩ 0).block]? with
    | none => rw [hh] at h; cases h
    | some x =>
      rw [hh] at h
      cases x <;> simp [Addr.add] at h

/-- A row of numbers that came in. -/
theorem ints_arg {H : Type} {enc : TypeId × Value → H} {W : World} {v : Value} {d : DataW H} {p : List MemPlace}
    (hv : ∃ a len cap, v = .slice a len cap) (h0 : DataW.Trod enc Tryz.prog W 0 (fun _ => true) true 25 v d p) (hlt : ∀ q ∈ p, q.block < W.heap.size) :
    ∃ raw, IntsAt W W.heap.size v raw ∧ ∀ W', Kept no W W' → ∀ sp : Nat → Bool, (∀ q ∈ p, sp q.block = true) → DataW.Trod enc Tryz.prog W' 0 sp true 25 v d p := by
  obtain ⟨a0, len, cap, rfl⟩ := hv
  obtain ⟨fuel, hf⟩ := h0
  rcases open_ints Tryz.underlying25 Tryz.underlying3 cellsInt hf with ⟨hcs, hx⟩ | ⟨a, len', cap', zs, hcs, _, hl, hm, hz, hx, hcell, hwz⟩
  · simp [Value.cells] at hcs
    obtain ⟨rfl, rfl, rfl⟩ := hcs
    simp only [Prod.mk.injEq] at hx
    obtain ⟨rfl, rfl⟩ := hx
    refine ⟨[], ⟨by simp, by simp, Nat.le_refl _, .inl ⟨_, _, rfl, rfl⟩⟩, fun W' hk sp _ => ?_⟩
    exact ⟨1, by simp [DataW.trod, Tryz.underlying25, Value.cells]⟩
  · simp [Value.cells] at hcs
    obtain ⟨rfl, rfl, rfl⟩ := hcs
    simp only [Prod.mk.injEq] at hx
    obtain ⟨rfl, rfl⟩ := hx
    simp only [if_true] at hz
    have hblk : 0 < zs.length → a.block < W.heap.size := fun h => hlt (.cell a.block a.off) (MemPlace.mem_row.2 ⟨0, h, by simp⟩)
    have hcell' : ∀ W', Kept no W W' → ∀ i, i < zs.length → W'.cell? (a.add i) = some (.int .i64 (zs.getD i 0)) := fun W' hk i hi => by
      have hb := hblk (by omega)
      rw [World.cell?_of_block (w := W) (hk.block _ (by rw [block_add]; exact hb) (fun h => h))]
      exact hcell i hi
    refine ⟨zs.take len, ⟨fun x hx => wf_raw (hwz x (List.mem_of_mem_take hx)), by rw [List.length_take]; unfold maxLen at hm; omega, Nat.le_refl _, ?_⟩, fun W' hk sp hsp => ?_⟩
    · by_cases h0 : len = 0
      · subst h0
        exact .inl ⟨_, _, rfl, rfl⟩
      · have hpl := plain_addr (hcell 0 (by omega))
        have e : (zs.take len).length = len := by rw [List.length_take]; omega
        refine .inr ⟨a.block, a.off, cap, by rw [e, ← hpl], hblk (by omega), fun j x hx => ?_⟩
        have hj : j < len := by have := (List.getElem?_eq_some_iff.1 hx).1; omega
        have hc := hcell j (by omega)
        rw [hpl, add_at] at hc
        rw [hc]
        rw [List.getElem?_take, if_pos hj] at hx
        simp [List.getD_eq_getElem?_getD, hx, iv]
    · by_cases hz0 : zs.length = 0
      · have hc0 : cap = 0 := by omega
        have hl0 : len = 0 := by omega
        subst hc0; subst hl0
        have t0 := shut_ints (enc := enc) (w := W') (base := 0) (spare := sp) (held := true) (a := a) (len := 0) (cap := 0) (zs := zs) 0 Tryz.underlying25 Tryz.underlying3 cellsInt (Nat.zero_le _) (Nat.le_refl _) hm (by simp [hz0]) (hcell' W' hk) hwz
        exact ⟨2, by simpa [Value.cells] using t0⟩
      · have hspb : sp a.block = true := hsp (.cell a.block a.off) (MemPlace.mem_row.2 ⟨0, by omega, by simp⟩)
        have t0 := shut_ints (enc := enc) (w := W') (base := 0) (spare := sp) (held := true) (a := a) (len := len) (cap := cap) (zs := zs) 0 Tryz.underlying25 Tryz.underlying3 cellsInt (Nat.zero_le _) hl hm (by simp [hspb, hz]) (hcell' W' hk) hwz
        exact ⟨2, by simpa [Value.cells] using t0⟩

/-- The call's answer, where nothing that was there has turned. -/
theorem post_of_below {H : Type} {enc : TypeId × Value → H} {P : Program} {f : Func} {s : ChangeSpec} {apart fresh handsOn again : Bool} {W W' : World} {args : Array Value} {v : Value} {ds gs : List (DataW H)} {before pa pv : List MemPlace}
    (hW : DataW.Whole enc P f.params.toList s.vars apart W args.toList ds gs before)
    (hres : ∀ (b : Nat) (sp : Nat → Bool) (hd : Bool), DataW.TrodAll enc P W' b sp hd f.resultTypes.toList (v.resultList f.resultTypes.size) (s.fn H (ds ++ gs)).results [])
    (hargs : ∀ sp : Nat → Bool, (∀ p ∈ before, sp p.block = true) → DataW.TrodAll enc P W' 0 sp true f.params.toList args.toList (s.fn H (ds ++ gs)).args pa)
    (hvars : ∀ sp : Nat → Bool, (∀ p ∈ before, sp p.block = true) → DataW.TrodVars enc P W' sp s.vars (s.fn H (ds ++ gs)).vars pv)
    (hps : before = pa ++ pv) (hb : Below W.heap.size W W')
    (hok : ∀ (j : Nat) (t : TypeId) (r : Value), f.resultTypes[j]? = some t → (v.resultList f.resultTypes.size)[j]? = some r → Value.okWide P W' .any 0 t r) :
    s.post enc P f apart fresh handsOn again W args v W' := by
  have hlt := fun p hp => hW.lt p hp
  have hold : ∀ p ∈ before, (fun b => decide (b < W.heap.size)) p.block = true := fun p hp => by simpa using hlt p hp
  refine ⟨ds, gs, before, [], pa, pv, hW, hres _ _ _, hargs _ hold, hvars _ hold, World.keptBut_mono (fun p hp => ⟨hp, ?_⟩) (hb.frame (· ∈ before)), fun _ => ?_⟩
  · rw [hps, List.mem_append] at hp
    exact Or.inr hp
  · obtain ⟨_, _, _, _, _, hz, hn⟩ := hW
    refine ⟨hok, _, _, ([] ++ pa) ++ pv, ⟨[] ++ pa, pv, trodAll_append (hargs _ (fun _ _ => rfl)) (hres _ _ _), hvars _ (fun _ _ => rfl), rfl, ?_, ?_⟩, ?_⟩
    · intro b off hp
      have hp' : MemPlace.cell b off ∈ before := by rw [hps]; simpa using hp
      rw [hb.frozen (p := ⟨b, off, none⟩) (hlt _ hp')]
      exact hz b off hp'
    · intro ha
      have := hn ha
      rw [hps] at this
      simpa using this
    · intro p hp _
      rw [hps]
      simpa using hp
end Go.Proofs.YtdpfohgkikjeaaaGreat
/- One move of a script, as an argument: how it is read, and that it reads so again. -/
namespace Go.Proofs.YtdpfohgkikjeaaaGreat
open Go.RowKit Go.ChangeShapes Go.WideShapes Go.ChangeAt Go.Deep
set_option linter.unusedVariables false
set_option linter.unusedSimpArgs false

theorem moveFields : ∃ f0 f1 f2, Tryz.prog.underlying 40 = some (.struct #[f0, f1, f2]) ∧ (f0.offset = 0 ∧ f1.offset = 1 ∧ f2.offset = 2) ∧ f0.type = 3 ∧ f1.type = 3 ∧ f2.type = 25 :=
  ⟨_, _, _, Tryz.underlying40, ⟨rfl, rfl, rfl⟩, rfl, rfl, rfl⟩
theorem cellsMove : Tryz.prog.cellsOf 40 = 3 := by kernel_rfl
theorem cellsInts : Tryz.prog.cellsOf 25 = 1 := by kernel_rfl

theorem len_three {α : Type} {l : List α} (h : l.length = 3) : ∃ a b c, l = [a, b, c] := by
  match l, h with
  | [a, b, c], _ => exact ⟨a, b, c, rfl⟩

theorem int_cell {H : Type} {enc : TypeId × Value → H} {W : World} {base n : Nat} {sp : Nat → Bool} {hd : Bool} {v : Value} {y : DataW H × List MemPlace} (h : DataW.trod enc Tryz.prog W base sp hd n 3 [v] = some y) :
    ∃ k, v = .int .i64 k ∧ y = (.lit (.int .i64 k), []) ∧ (Lit.int .i64 k).wf = true := by
  obtain ⟨k, h1, h2, h3⟩ := DataW.trod_int Tryz.underlying3 h
  simp only [List.cons.injEq, and_true] at h1
  exact ⟨k, h1, h2, h3⟩

theorem row_cell {H : Type} {enc : TypeId × Value → H} {W : World} {base n : Nat} {sp : Nat → Bool} {hd : Bool} {v : Value} {y : DataW H × List MemPlace} (h : DataW.trod enc Tryz.prog W base sp hd n 25 [v] = some y) : ∃ a len cap, v = .slice a len cap := by
  rcases open_slice Tryz.underlying25 h with ⟨h1, _⟩ | ⟨a, len, cap, m, n, D, Pl, h1, _⟩
  · simp only [List.cons.injEq, and_true] at h1; exact ⟨_, _, _, h1⟩
  · simp only [List.cons.injEq, and_true] at h1; exact ⟨_, _, _, h1⟩

set_option maxRecDepth 100000 in
theorem move_elem {H : Type} {enc : TypeId × Value → H} {W : World} {a : Addr} {cs : List Value} {x : DataW H × List MemPlace} {fuel : Nat}
    (hc : W.cells? 0 a 3 = some cs) (ht : DataW.trod enc Tryz.prog W 0 (fun _ => true) true fuel 40 cs = some x) (hlt : ∀ q ∈ x.2, q.block < W.heap.size) :
    ∃ k q r raw, cs = [.int .i64 k, .int .i64 q, r] ∧ W.cell? (a.add 0) = some (.int .i64 k) ∧ W.cell? (a.add 1) = some (.int .i64 q) ∧ W.cell? (a.add 2) = some r ∧ RawOk k ∧ RawOk q ∧ IntsAt W W.heap.size r raw ∧
      ∀ W', Kept no W W' → ∀ sp : Nat → Bool, (∀ q ∈ x.2, sp q.block = true) → ∃ n, DataW.trod enc Tryz.prog W' 0 sp true n 40 cs = some x := by
  obtain ⟨f0, f1, f2, he, ⟨o0, o1, o2⟩, t0, t1, t2⟩ := moveFields
  obtain ⟨_, hlen, hcell⟩ := World.cells?_some hc
  obtain ⟨xs, n, hk, hxy, _, hxl, hf⟩ := DataW.trod_struct he ht
  obtain ⟨y0, y1, y2, rfl⟩ := len_three (show xs.length = 3 from hxl)
  obtain ⟨v0, v1, v2, rfl⟩ := len_three hlen
  have g0 := hf 0 f0 rfl
  have g1 := hf 1 f1 rfl
  have g2 := hf 2 f2 rfl
  simp [o0, o1, o2, t0, t1, t2, cellsInt, cellsInts] at g0 g1 g2
  have e0 := hcell 0 (by omega)
  have e1 := hcell 1 (by omega)
  have e2 := hcell 2 (by omega)
  obtain ⟨k, rfl, rfl, w0⟩ := int_cell g0
  obtain ⟨q, rfl, rfl, w1⟩ := int_cell g1
  have hv2 := row_cell g2
  subst hxy
  have hr := ints_arg (enc := enc) (W := W) (v := v2) (d := y2.1) (p := y2.2) hv2 (by obtain ⟨_, _, _, rfl⟩ := hv2; exact ⟨_, by simpa [Value.cells] using g2⟩) (fun q hq => hlt q (by simpa using hq))
  obtain ⟨raw, hraw, hag⟩ := hr
  refine ⟨k, q, v2, raw, rfl, by simpa using e0, by simpa using e1, by simpa using e2, wf_raw w0, wf_raw w1, hraw, fun W' hk' sp hsp => ?_⟩
  obtain ⟨m, hm⟩ := hag W' hk' sp (fun q hq => hsp q (by simpa using hq))
  have hm' : DataW.trod enc Tryz.prog W' 0 sp true m 25 [v2] = some y2 := by obtain ⟨_, _, _, rfl⟩ := hv2; simpa [Value.cells] using hm
  have := trod_struct3_mk (enc := enc) (P := Tryz.prog) (w := W') (base := 0) (spare := sp) (held := true) (n := m + 1) (cs := [.int .i64 k, .int .i64 q, v2]) he (by rw [cellsMove]; rfl)
    (by simpa [o0, t0, cellsInt] using trod_int_mk m Tryz.underlying3 w0) (by simpa [o1, t1, cellsInt] using trod_int_mk m Tryz.underlying3 w1) (by simpa [o2, t2, cellsInts] using DataW.trod_le (Nat.le_succ m) hm')
  exact ⟨_, by simpa using this⟩
end Go.Proofs.YtdpfohgkikjeaaaGreat
/- A script as an argument: how it is read, and that it reads so again. -/
namespace Go.Proofs.YtdpfohgkikjeaaaGreat
open Go.RowKit Go.ChangeShapes Go.WideShapes Go.ChangeAt Go.Deep
set_option linter.unusedVariables false
set_option linter.unusedSimpArgs false

set_option maxRecDepth 100000 in
theorem moves_arg {H : Type} {enc : TypeId × Value → H} {W : World} {v : Value} {d : DataW H} {p : List MemPlace}
    (hv : ∃ a len cap, v = .slice a len cap) (h0 : DataW.Trod enc Tryz.prog W 0 (fun _ => true) true 26 v d p) (hlt : ∀ q ∈ p, q.block < W.heap.size) :
    ∃ l : List (Int × Int × List Int), MovesAt W W.heap.size v l ∧ ((d = .nil ∧ l.length = 0) ∨ ∃ items rest, d = .slice items rest ∧ items.length = l.length) ∧
      ∀ W', Kept no W W' → ∀ sp : Nat → Bool, (∀ q ∈ p, sp q.block = true) → DataW.Trod enc Tryz.prog W' 0 sp true 26 v d p := by
  obtain ⟨a0, len, cap, rfl⟩ := hv
  obtain ⟨fuel, hf⟩ := h0
  rcases open_slice Tryz.underlying26 hf with ⟨hcs, hx⟩ | ⟨a, len', cap', m, n, D, Pl, hcs, _, hl, hm, hmm, hx, hel⟩
  · simp [Value.cells] at hcs
    obtain ⟨rfl, rfl, rfl⟩ := hcs
    simp only [Prod.mk.injEq] at hx
    obtain ⟨rfl, rfl⟩ := hx
    exact ⟨[], ⟨by simp, by simp, Nat.le_refl _, .inl ⟨_, _, rfl, rfl⟩⟩, .inl ⟨rfl, rfl⟩, fun W' hk sp _ => ⟨1, by simp [DataW.trod, Tryz.underlying26, Value.cells]⟩⟩
  · simp [Value.cells] at hcs
    obtain ⟨rfl, rfl, rfl⟩ := hcs
    simp only [Prod.mk.injEq] at hx
    obtain ⟨rfl, rfl⟩ := hx
    simp only [if_true] at hmm
    subst hmm
    have hE : ∀ i, i < m → ∃ e : Int × Int × List Int, ∃ r cs, W.cells? 0 (a.add (i * 3)) 3 = some cs ∧ cs = [.int .i64 e.1, .int .i64 e.2.1, r] ∧ W.cell? ((a.add (i * 3)).add 0) = some (.int .i64 e.1) ∧ W.cell? ((a.add (i * 3)).add 1) = some (.int .i64 e.2.1) ∧ W.cell? ((a.add (i * 3)).add 2) = some r ∧ RawOk e.1 ∧ RawOk e.2.1 ∧ IntsAt W W.heap.size r e.2.2 ∧
        ∀ W', Kept no W W' → ∀ sp : Nat → Bool, (∀ q ∈ Pl i, sp q.block = true) → ∃ n, DataW.trod enc Tryz.prog W' 0 sp true n 40 cs = some (D i, Pl i) := fun i hi => by
      obtain ⟨cs', h1, h2⟩ := hel i hi
      rw [cellsMove] at h1
      obtain ⟨k, q, r, raw, e1, c0, c1, c2, o1, o2, hr, hag⟩ := move_elem h1 h2 (fun q hq => hlt q (List.mem_append_right _ (List.mem_flatMap.2 ⟨i, List.mem_range.2 hi, hq⟩)))
      exact ⟨(k, q, raw), r, cs', h1, e1, c0, c1, c2, o1, o2, hr, hag⟩
    obtain ⟨E, hE⟩ := choose_lt hE
    refine ⟨(List.range len).map E, ?_, .inr ⟨_, _, rfl, by simp⟩, fun W' hk sp hsp => ?_⟩
    · refine ⟨fun x hx => ?_, by rw [List.length_map, List.length_range]; unfold maxLen at hm; omega, Nat.le_refl _, ?_⟩
      · obtain ⟨i, hi, rfl⟩ := List.mem_map.1 hx
        have := List.mem_range.1 hi
        obtain ⟨r, cs, _, _, _, _, _, o1, o2, _⟩ := hE i (by omega)
        exact ⟨o1, o2⟩
      · by_cases hl0 : len = 0
        · subst hl0
          exact .inl ⟨_, _, rfl, rfl⟩
        · obtain ⟨r, cs, _, _, c0, _⟩ := hE 0 (by omega)
          have hpl := plain_addr (by simpa [add_add] using c0 : W.cell? (a.add 0) = some _)
          refine .inr ⟨a.block, a.off, m, by rw [List.length_map, List.length_range, ← hpl], hlt (.cell a.block a.off) (List.mem_append_left _ (MemPlace.mem_row.2 ⟨0, by rw [cellsMove]; omega, by simp⟩)), fun j m' hj => ?_⟩
          have hjl : j < len := by have := (List.getElem?_eq_some_iff.1 hj).1; simpa using this
          have hE' : E j = m' := by simpa [hjl] using hj
          subst hE'
          obtain ⟨r, cs, _, _, c0, c1, c2, _, _, hr, _⟩ := hE j (by omega)
          rw [add_add, hpl, add_at] at c0 c1 c2
          exact ⟨r, by simpa [Nat.add_assoc] using c0, by simpa [Nat.add_assoc] using c1, by simpa [Nat.add_assoc] using c2, hr⟩
    · have hx : ∀ i, i < m → ∃ cs n, W'.cells? 0 (a.add (i * Tryz.prog.cellsOf 40)) (Tryz.prog.cellsOf 40) = some cs ∧ DataW.trod enc Tryz.prog W' 0 sp true n 40 cs = some (D i, Pl i) := fun i hi => by
        obtain ⟨r, cs, hc, he, c0, c1, c2, _, _, _, hag⟩ := hE i hi
        obtain ⟨n, hn⟩ := hag W' hk sp (fun q hq => hsp q (List.mem_append_right _ (List.mem_flatMap.2 ⟨i, List.mem_range.2 hi, hq⟩)))
        have hpl := plain_addr c0
        have hblk : (a.add (i * 3)).block < W.heap.size := by
          have := hlt (.cell a.block a.off) (List.mem_append_left _ (MemPlace.mem_row.2 ⟨0, by rw [cellsMove]; omega, by simp⟩))
          rw [block_add]; exact this
        refine ⟨cs, n, ?_, hn⟩
        rw [cellsMove, hpl, he]
        rw [hpl, add_at] at c0 c1 c2
        refine cells?_of (Nat.zero_le _) rfl fun j hj => ?_
        have hB : ∀ o, W'.cell? ⟨(a.add (i * 3)).block, o, none⟩ = W.cell? ⟨(a.add (i * 3)).block, o, none⟩ := fun o => World.cell?_of_block (hk.block _ hblk (fun h => h))
        match j, hj with
        | 0, _ => exact (hB _).trans c0
        | 1, _ => exact (hB _).trans c1
        | 2, _ => exact (hB _).trans c2
      cases hb : sp a.block with
      | true =>
        obtain ⟨n, hn⟩ := shut_slice_whole_cells (enc := enc) (w := W') (base := 0) (spare := sp) (held := true) (a := a) Tryz.underlying26 (Nat.zero_le _) hl hm hb D Pl hx
        exact ⟨n, by simpa [Value.cells] using hn⟩
      | false =>
        have hm0 : m = 0 := by
          rcases Nat.eq_zero_or_pos m with h | h
          · exact h
          · have := hsp (.cell a.block a.off) (List.mem_append_left _ (MemPlace.mem_row.2 ⟨0, by rw [cellsMove]; omega, by simp⟩))
            have this : sp a.block = true := this
            rw [hb] at this; cases this
        subst hm0
        obtain rfl : len = 0 := by omega
        obtain ⟨n, hn⟩ := shut_slice_cells (enc := enc) (w := W') (base := 0) (spare := sp) (held := true) (a := a) Tryz.underlying26 (Nat.zero_le _) hl hm hb D Pl hx
        exact ⟨n, by simpa [Value.cells] using hn⟩
end Go.Proofs.YtdpfohgkikjeaaaGreat
/- How long a script that is an argument may be: it takes forty bytes a move. -/
namespace Go.Proofs.YtdpfohgkikjeaaaGreat
open Go.RowKit Go.ChangeShapes Go.WideShapes Go.ChangeAt
set_option linter.unusedVariables false
set_option linter.unusedSimpArgs false

theorem bytesMove : Tryz.prog.bytesOf 40 = 40 := by kernel_rfl

theorem sized_script {H : Type} {ts : List TypeId} {ds : List (DataW H)} (h : (DataW.weightsEach Tryz.prog ts ds).all (· ≤ reachBytes) = true) {j : Nat} {d : DataW H} (ht : ts[j]? = some 26) (hd : ds[j]? = some d)
    {m : Nat} (hm : (d = .nil ∧ m = 0) ∨ ∃ items rest, d = .slice items rest ∧ items.length = m) : m ≤ 4000000000000 := by
  rcases hm with ⟨_, rfl⟩ | ⟨items, rest, rfl, rfl⟩
  · exact Nat.zero_le _
  · have h1 := sized_slice h ht hd Tryz.underlying26
    have h2 := reachBytes_lt
    rw [bytesMove] at h1
    have h3 : (2 : Nat) ^ 47 = 140737488355328 := by decide
    omega
end Go.Proofs.YtdpfohgkikjeaaaGreat

/- Part XKnown 1 of the proof: see its parts. -/
import Derived.Test.YtdpfohgkikjeaaaGreatW12
/- Few, in plain mathematics: what holds between two jobs. -/
namespace Go.Proofs.YtdpfohgkikjeaaaGreat
set_option linter.unusedVariables false
set_option linter.unusedSimpArgs false

/-- A bound is brought down. -/
theorem DeskS.Ok.tight {D : DeskS} {N M L : Nat} (h : D.Ok N L) (h1 : 1 ≤ M) (hr : ∀ r ∈ D.disk.sw, r.length ≤ M) (hc : D.ch.length ≤ M) (hf : D.files.length ≤ M) (he : D.doc.edits ≤ M) (hm : D.mf.length ≤ M) (hmt : D.mt.length ≤ M) : D.Ok M L :=
  ⟨h.doc, ⟨h.lens.sw, hr, h.lens.some, h.lens.size, h.lens.file, h.lens.before, h.lens.new, h.lens.safe, h.lens.newSafe⟩, h.swok, hc, hf, h.file, h.sync, h.save, he, h.most, h1, h.big, h.few, h.mf0, hm, h.mt0, hmt⟩

/-- The last act of a sync is a Sync. -/
theorem acts_settle (wr : Wr) (t : Str) (f : Mark) : ∃ X, wr.acts t f = X ++ [pSettle] :=
  ⟨(if wr.unsettled then [pSettle] else []) ++ pWrite (40 * (1 - wr.half)) [] :: (if wr.known then [] else [pWrite (40 * wr.half) []]) ++ pSettle :: (bodyActs (1 - wr.half) t ++ [pSettle, ⟨1, 40 * (1 - wr.half), headBytes (wr.head t f)⟩]), by simp [Wr.acts]⟩

theorem sync_rows (wr : Wr) (t : Str) (f : Mark) (k : DiskS) : ∀ r ∈ ((wr.acts t f).foldl DiskS.act k).sw, r.length ≤ 1 := by
  obtain ⟨X, e⟩ := acts_settle wr t f
  rw [e, List.foldl_append]
  intro r hr
  have hr : r ∈ ((X.foldl DiskS.act k).sw.map fun l => [lastOf l]) := hr
  obtain ⟨x, _, rfl⟩ := List.mem_map.1 hr
  simp

/-- Between two jobs, where no act fails. -/
structure Calm (D : DeskS) (n : Nat) : Prop where
  ok : D.Ok 501 2460
  known : D.doc.wr.known = true
  mf : D.mf = D.files
  mt : D.mt = D.ch.map (·.1)
  kind : D.doc.kind = 0
  every : D.doc.every = n
  edits : D.doc.edits = D.doc.counted
  last : D.doc.counted = 0 → ∀ c ∈ D.ch, c.1 = D.doc.text

theorem Begun.calm {D : DeskS} {ls : List Str} {n : Nat} (h : Begun D ls n) : Calm D n :=
  ⟨h.ok, h.known, h.mf.trans h.files.symm, by rw [h.mt, h.ch]; rfl, h.kind, h.every, h.edits.trans h.counted.symm, fun _ c hc => by
    rw [h.ch] at hc
    rw [List.mem_singleton.1 hc]
    show textOf ls = textOf D.doc.lines
    rw [h.lines]⟩

/-- An edit, and all acts of its job, if it began one. -/
theorem Calm.step {D : DeskS} {n : Nat} (h : Calm D n) (kind at_ c : Int) : Calm ((D.edit kind at_ c).work 500 0 (-1) false) n := by
  cases e : D.editLines kind at_ c with
  | none =>
    have hE : D.edit kind at_ c = D := by unfold DeskS.edit; rw [e]
    rw [hE, work_idle h.kind]
    exact h
  | some ls =>
    have hE : D.edit kind at_ c = D.edited ls (max D.most (D.doc.counted + 1)) := by unfold DeskS.edit; rw [e]
    have okE := h.ok.edit kind at_ c
    rw [hE] at okE ⊢
    generalize max D.most (D.doc.counted + 1) = m at okE ⊢
    clear hE e
    have okW := DeskS.Ok.work (fail := -1) (all := false) 500 0 okE
    have hce := h.ok.doc.counted
    have hev := h.ok.doc.every2
    have hed := h.edits
    by_cases he : D.doc.counted + 1 = D.doc.every
    · have e1 : D.edited ls m = { D with doc := { D.doc.setLines ls with edits := D.doc.edits + 1, counted := 0, kind := 1, acts := D.doc.wr.acts (textOf ls) D.doc.file }, most := m, ch := D.ch ++ [(textOf ls, D.doc.file)], mt := D.mt ++ [textOf ls] } := by
        unfold DeskS.edited DeskS.begun DocS.edited
        rw [if_pos (show (D.doc.setLines ls).counted + 1 = (D.doc.setLines ls).every from he)]
        exact if_pos rfl
      have hne : D.doc.wr.acts (textOf ls) D.doc.file ≠ [] := by
        obtain ⟨X, e⟩ := acts_settle D.doc.wr (textOf ls) D.doc.file
        rw [e]; simp
      have hlen : (D.edited ls m).doc.acts.length ≤ 100 := okE.few
      have hw := work_all (fail := -1) (all := false) 500 0 (D.edited ls m) (by rw [e1]; exact Nat.one_ne_zero) (by rw [e1]; exact hne) (by omega) (.inl (by decide))
      rw [e1] at hw okW ⊢
      have e2 : DocS.succeeded { D.doc.setLines ls with edits := D.doc.edits + 1, counted := 0, kind := 1, acts := D.doc.wr.acts (textOf ls) D.doc.file } = { D.doc.setLines ls with edits := 0, counted := 0, kind := 0, acts := [], wr := D.doc.wr.written } := by
        unfold DocS.succeeded
        exact if_neg (by show ¬ (1 : Nat) = 2; decide)
      have e3 : lastOne (D.ch ++ [(textOf ls, D.doc.file)]) = [(textOf ls, D.doc.file)] := lastOne_eq (by simp)
      have e4 : lastOne (D.mt ++ [textOf ls]) = [textOf ls] := lastOne_eq (by simp)
      simp only [e2, e3, e4, if_true, ne_eq, not_true_eq_false, if_false] at hw
      rw [hw] at okW ⊢
      have hfl := h.ok.fl
      have hmf := h.ok.mfN
      exact ⟨okW.tight (by decide) (fun r hr => by have := sync_rows D.doc.wr (textOf ls) D.doc.file D.disk r hr; omega) (by show 1 ≤ 501; decide) hfl (Nat.zero_le _) hmf (by show 1 ≤ 501; decide), rfl, h.mf, rfl, rfl, h.every, rfl, fun _ c hc => by
        rw [List.mem_singleton.1 hc]; rfl⟩
    · have e1 : D.edited ls m = { D with doc := { D.doc.setLines ls with edits := D.doc.edits + 1, counted := D.doc.counted + 1 }, most := m } := by
        unfold DeskS.edited DeskS.begun DocS.edited
        rw [if_neg (show ¬ (D.doc.setLines ls).counted + 1 = (D.doc.setLines ls).every from he)]
        rw [if_neg (by show ¬ D.doc.kind = 1; have := h.kind; omega)]
        rfl
      rw [e1] at okE ⊢
      rw [work_idle (D := { D with doc := { D.doc.setLines ls with edits := D.doc.edits + 1, counted := D.doc.counted + 1 }, most := m }) (show D.doc.kind = 0 from h.kind)]
      exact ⟨okE.tight (by decide) h.ok.lens.rows h.ok.ch h.ok.fl (by show D.doc.edits + 1 ≤ 501; omega) h.ok.mfN h.ok.mtN, h.known, h.mf, h.mt, h.kind, h.every, (by show D.doc.edits + 1 = D.doc.counted + 1; omega), fun hc => absurd hc (by show ¬ D.doc.counted + 1 = 0; omega)⟩
end Go.Proofs.YtdpfohgkikjeaaaGreat
/- Known, in plain mathematics: a Save that is done, a sync that is done. -/
namespace Go.Proofs.YtdpfohgkikjeaaaGreat
set_option linter.unusedVariables false
set_option linter.unusedSimpArgs false

/-- An edit that begins no sync. -/
theorem DeskS.Ok.plain {D : DeskS} {N L : Nat} (h : D.Ok N L) (hk : D.doc.kind = 0) (hc : D.doc.counted + 1 < D.doc.every) {ls : List Str} (hls : TextOk ls) :
    (D.doc.setLines ls).edited = { D.doc.setLines ls with edits := D.doc.edits + 1, counted := D.doc.counted + 1 } ∧ DeskS.Ok { D with doc := { D.doc.setLines ls with edits := D.doc.edits + 1, counted := D.doc.counted + 1 } } (N + 1) L := by
  have e1 : (D.doc.setLines ls).edited = { D.doc.setLines ls with edits := D.doc.edits + 1, counted := D.doc.counted + 1 } := by
    unfold DocS.edited
    rw [if_neg (show ¬ (D.doc.setLines ls).counted + 1 = (D.doc.setLines ls).every by show ¬ D.doc.counted + 1 = D.doc.every; omega)]
    rfl
  have ok := h.edited hk hls h.most
  have e2 : D.edited ls D.most = { D with doc := { D.doc.setLines ls with edits := D.doc.edits + 1, counted := D.doc.counted + 1 } } := by
    unfold DeskS.edited DeskS.begun
    rw [e1, if_neg (by show ¬ D.doc.kind = 1; omega)]
  rw [e2] at ok
  exact ⟨e1, ok⟩

/-- A Save, all of whose acts are done. -/
theorem DeskS.Ok.saveAll {D D3 : DeskS} {N L : Nat} (h : D.Ok N L) (hk : D.doc.kind = 0) (hd : D.doc.save.2.Ok) (e3 : D3 = { D with doc := D.doc.save.2, files := D.files ++ [D.doc.text] }) :
    D3.Ok (N + 1) L ∧ ∃ D4, D3.work 500 0 (-1) false = D4 ∧ D4.Ok (N + 501) L ∧ D4.doc = { D.doc with kind := 0, acts := [], file := markOf D.doc.text } ∧ D4.disk.file = D.doc.text ∧ D4.files = [D.doc.text] ∧ D4.ch = D.ch ∧ D4.mt = D.mt ∧ D4.mf = lastOne D.mf ∧ D4.most = D.most := by
  have ok3 := h.saved hk (mf := D.mf) h.mf0 (Nat.le_succ_of_le h.mfN) hd
  rw [← e3] at ok3
  have esv : D.doc.save.2 = { D.doc with kind := 2, acts := saveActs D.doc.text } := by unfold DocS.save; rw [if_neg (by omega)]
  have hk3 : D3.doc.kind = 2 := by rw [e3]; show D.doc.save.2.kind = 2; rw [esv]
  have hne : D3.doc.acts ≠ [] := ok3.doc.acts.1 (by omega)
  have hlen := ok3.few
  have hw := work_all (fail := -1) (all := false) 500 0 D3 (by omega) hne (by omega) (.inl (by decide))
  have ok4 := DeskS.Ok.work (fail := -1) (all := false) 500 0 ok3
  rw [hw] at ok4
  have hsc : D3.doc.succeeded = { D.doc with kind := 0, acts := [], file := markOf D.doc.text } := by
    rw [e3]
    show D.doc.save.2.succeeded = _
    rw [esv]
    unfold DocS.succeeded
    rw [if_pos rfl]
    rfl
  have hfl : (if D3.doc.kind ≠ 1 then lastOne D3.files else D3.files) = [D.doc.text] := by
    rw [if_pos (by omega), e3]
    exact lastOne_eq (by simp)
  refine ⟨ok3, _, hw, ok4.mono (by omega), hsc, ?_, hfl, ?_, ?_, ?_, ?_⟩
  · have := ok4.file.1
    simp only [hfl] at this
    exact List.mem_singleton.1 this
  · show (if D3.doc.kind = 1 then lastOne D3.ch else D3.ch) = _
    rw [if_neg (by omega), e3]
  · show (if D3.doc.kind = 1 then lastOne D3.mt else D3.mt) = _
    rw [if_neg (by omega), e3]
  · show (if D3.doc.kind ≠ 1 then lastOne D3.mf else D3.mf) = _
    rw [if_pos (by omega), e3]
  · show D3.most = _
    rw [e3]

/-- A sync that is begun, of which no row of texts in memory is told. -/
theorem DeskS.Ok.syncQ {D : DeskS} {N L : Nat} (h : D.Ok N L) (hk : D.doc.kind = 0) (hd : D.doc.beginSync.Ok) : DeskS.Ok { D with doc := D.doc.beginSync, ch := D.ch ++ [(D.doc.text, D.doc.file)] } (N + 1) L := by
  have ok := h.synced hk hd
  unfold DeskS.begun at ok
  rw [if_pos (show D.doc.beginSync.kind = 1 from rfl)] at ok
  exact ⟨ok.doc, ok.lens, ok.swok, ok.ch, ok.fl, ok.file, ok.sync, ok.save, ok.edits, ok.most, ok.one, ok.big, ok.few, ok.mf0, ok.mfN, h.mt0, Nat.le_succ_of_le h.mtN⟩

theorem DeskS.Ok.syncAll {D D5 : DeskS} {N L : Nat} (h : D.Ok N L) (hk : D.doc.kind = 0) (hd : D.doc.beginSync.Ok) (e5 : D5 = { D with doc := D.doc.beginSync, ch := D.ch ++ [(D.doc.text, D.doc.file)] }) :
    D5.Ok (N + 1) L ∧ ∃ D6, D5.work 500 0 (-1) false = D6 ∧ D6.Ok (N + 501) L ∧ D6.doc.lines = D.doc.lines ∧ D6.doc.kind = 0 ∧ D6.doc.wr.known = true ∧ D6.files = D.files ∧ D6.ch = [(D.doc.text, D.doc.file)] := by
  have ok5 := h.syncQ hk hd
  rw [← e5] at ok5
  have hk5 : D5.doc.kind = 1 := by rw [e5]; rfl
  have hne : D5.doc.acts ≠ [] := ok5.doc.acts.1 (by omega)
  have hlen := ok5.few
  have hw := work_all (fail := -1) (all := false) 500 0 D5 (by omega) hne (by omega) (.inl (by decide))
  have ok6 := DeskS.Ok.work (fail := -1) (all := false) 500 0 ok5
  rw [hw] at ok6
  have hsc : D5.doc.succeeded = { D5.doc with kind := 0, acts := [], wr := D5.doc.wr.written, edits := 0 } := by unfold DocS.succeeded; rw [if_neg (by omega)]
  refine ⟨ok5, _, hw, ok6.mono (by omega), ?_, ?_, ?_, ?_, ?_⟩
  · show D5.doc.succeeded.lines = _
    rw [hsc, e5]; rfl
  · exact succeeded_kind _
  · show D5.doc.succeeded.wr.known = _
    rw [hsc]; rfl
  · show (if D5.doc.kind ≠ 1 then lastOne D5.files else D5.files) = _
    rw [if_neg (by omega), e5]
  · show (if D5.doc.kind = 1 then lastOne D5.ch else D5.ch) = _
    rw [if_pos hk5, e5]
    exact lastOne_eq (by simp)
end Go.Proofs.YtdpfohgkikjeaaaGreat
/- Again: the walk. -/
namespace Go.Proofs.YtdpfohgkikjeaaaGreat
open Go.RowKit
set_option linter.unusedVariables false
set_option linter.unusedSimpArgs false

theorem of_now (secs : List Str) (f : Str) : (DiskS.of secs f).now = secs := by
  show List.map lastOf (List.map _ secs) = secs
  rw [List.map_map]
  conv => rhs; rw [← List.map_id secs]
  rfl

set_option maxRecDepth 100000 in
set_option maxHeartbeats 16000000 in
theorem again_walk {w : World} {B : Nat} {v vs1 vl vs2 : Value} {raw left : List Int} (hr : IntsAt w B v raw) (every : Int) (he : RawOk every) (l1 : List (Int × Int × List Int)) (hl1 : MovesAt w B vs1 l1) (hleft : IntsAt w B vl left) (l2 : List (Int × Int × List Int)) (hl2 : MovesAt w B vs2 l2) (hn1 : l1.length ≤ 1000000000) (hn2 : l2.length ≤ 1000000000) :
    Calls Tryz.prog 8 #[v, .int .i64 every, vs1, vl, vs2] w fun e w' => e = .returned (.bool true) ∧ Kept no w w' := by
  go_enter Tryz.func8, Tryz.ntmps8
  go_wp2_with fail
  refine (begin_any hr every he).mono ?_
  rintro e w1 ⟨b, bx, bd, fp, D, rfl, hR, hB, hge, hk1⟩
  have hl11 := hl1.kept hk1 (fun _ h => h.elim)
  have g := hB.going
  clear hB
  have hBl := hl1.low
  go_wp2_with fail
  refine (plays_any hR g vs1 l1 hl11 (by omega) (by decide) (fun x hx => Nat.le_trans hBl (hge x hx))).mono ?_
  rintro e w2 ⟨rfl, bx2, bd2, fp2, D2, hR2, g2, -, hx2, hk2⟩
  have hge2 : ∀ x ∈ fp2, w.heap.size ≤ x := fun x hx => (hx2 x hx).elim (hge x) (fun h => Nat.le_trans hk1.size h)
  have hkw2 : Kept no w w2 := hk1.step' hk2 (fun x hx hlt => by have := hge x hx; omega)
  obtain ⟨vt, vf, fx, fd, ft, ff, hM, rfl⟩ := hR2
  have hbd := (cells_of hM.cells).1
  go_wp2_with fail
  refine (crash_any hM.disk g2.ok.lens (by omega) (by decide) (hleft.kept hkw2 (fun _ h => h.elim))).mono ?_
  rintro e w5 ⟨⟨BK, fk, secs, f, rfl, hKD, hsl, hlv, hlf, hkn, hk5⟩⟩
  have hM5 := hM.kept hk5 (fun _ _ h => h)
  have hR5 : DeskR w5 b bx2 bd2 D2 (deskFp b fx fd ft ff) := ⟨_, _, _, _, _, _, hM5, rfl⟩
  have h64 := leaves_size g2.ok.lens hlv
  go_wp2_with fail
  refine (back_any hR5 g2.ok g2.known (by omega) (by decide) hKD hsl hlv (g2.ok.file.leaves hlf) g2.mf g2.mt (leavesFile_len g2.ok.lens hlf) (fun x hx hx2' => by have := hkn x hx; have := hM.lt x hx2'; omega)).mono ?_
  rintro e w6 ⟨rfl, ls, hh, hd, bx', fp', hls, hch, hF, hR6, hok6, hx6, hk6⟩
  have hge6 : ∀ x ∈ fp', w.heap.size ≤ x := fun x hx => by
    have hs1 := hkw2.size
    have hs2 := hk5.size
    rcases hx6 x hx with h | h | h
    · exact hge2 x h
    · have := hkn x h; omega
    · omega
  have hkw6 : Kept no w w6 := (hkw2.step hk5).step' hk6 (fun x hx hlt => by have := hge2 x hx; omega)
  have hgo6 : Going (DeskS.back ls f D2.doc.every hh hd secs D2.most) 1 2460 := ⟨hok6, rfl, rfl, rfl⟩
  have htx6 : (DeskS.back ls f D2.doc.every hh hd secs D2.most).doc.text = textOf ls := rfl
  have hdk6 : (DeskS.back ls f D2.doc.every hh hd secs D2.most).disk = DiskS.of secs f := rfl
  have hfl2 : f.length ≤ 1099511627776 := by have := leavesFile_len g2.ok.lens hlf; omega
  clear hM hM5 hR5 hKD hlv hlf hkn hbd hR hl11 g g2 hch hx2 hx6 hk6 hk5 hk2
  generalize hD3 : DeskS.back ls f D2.doc.every hh hd secs D2.most = D3 at hR6 hok6 hgo6 htx6 hdk6
  clear hD3
  obtain ⟨same, hsame⟩ : ∃ same : Bool, same = true ↔ markOf f = hd.file := by
    by_cases e : markOf f = hd.file
    · exact ⟨true, by simp [e]⟩
    · exact ⟨false, by simp [e]⟩
  obtain ⟨vt6, vf6, fx6, fd6, ft6, ff6, hM6, rfl⟩ := hR6
  have hK6 := hM6.disk
  rw [hdk6] at hK6
  have hok6d := hok6.lens
  rw [hdk6] at hok6d
  go_wp2_with fail
  -- Recover of the swap as it stands
  have hcx : ∀ W, Kept no w6 W → W.cell? ⟨BK, 1, none⟩ = some (sv f) := fun W hW => hW.read hK6.fileCell (fun h => h)
  refine wp_region5 (fun W => Kept no w6 W) [(0, true), (2, true), (3, true), (4, true), (5, false)] [(1, false), (6, false), (7, true), (8, true), (9, true), (10, true), (11, true), (12, true), (13, true)] (by kernel_rfl) (by kernel_rfl) (fun _ _ d _ _ h => by cases d <;> exact h) ((Kept.refl _ _).drew) ?_
  repeat ((first | refine wpPre3_pure rfl rfl (fun W => (by go_simp; rfl)) ?_ | refine wpPre3_read rfl rfl (fun W hW => (by have h1 := hcx W hW; go_simp; rfl)) ?_); simp only [Act.put, List.setIfInBounds_toArray, List.set])
  refine wpPre3_nil ?_
  have hkxa : Kept no w6 w6.drew := (Kept.refl _ _).drew
  generalize w6.drew = wxa at hkxa ⊢
  have hdxa := hK6.kept hkxa (fun _ _ h => h)
  refine wpMix_cons rfl rfl (fun K hK => ?_)
  go_wp2_with fail
  refine (now_any hdxa hok6d (by decide)).mono ?_
  rintro e wxb ⟨vx, rfl, hrowx, hvnx, hkxb⟩
  refine hK _ _ ⟨fun h => h.step hkxb, ?_⟩
  clear hK
  rw [of_now] at hrowx
  refine wpMix_cons rfl rfl (fun K hK => ?_)
  go_wp2_with fail
  refine (recover_yes hrowx hsl h64 hls hF f hfl2 3 _ rfl (by decide) (by decide) same hsame).mono ?_
  rintro e wxc ⟨Bx, fx, rfl, hDocx, hBx, hkxc⟩
  refine hK _ _ ⟨fun h => h.step hkxc, ?_⟩
  clear hK
  repeat (refine wpMix_pure rfl rfl (fun W => (by go_simp; rfl)) ?_; simp only [Act.put, List.setIfInBounds_toArray, List.set])
  refine wpMix_nil ?_
  have hkx : Kept no w6 wxc := (hkxa.step hkxb).step hkxc
  clear hcx hdxa hrowx
  have hKx := hK6.kept hkx (fun _ _ h => h)
  go_wp2_with fail
  -- Recover of the swap as it stands
  have hcy : ∀ W, Kept no wxc W → W.cell? ⟨BK, 1, none⟩ = some (sv f) := fun W hW => hW.read hKx.fileCell (fun h => h)
  refine wp_region5 (fun W => Kept no wxc W) [(0, true), (2, true), (3, true), (4, true), (5, false)] [(1, false), (6, false), (7, true), (8, true), (9, true), (10, true), (11, true), (12, true), (13, true)] (by kernel_rfl) (by kernel_rfl) (fun _ _ d _ _ h => by cases d <;> exact h) ((Kept.refl _ _).drew) ?_
  repeat ((first | refine wpPre3_pure rfl rfl (fun W => (by go_simp; rfl)) ?_ | refine wpPre3_read rfl rfl (fun W hW => (by have h1 := hcy W hW; go_simp; rfl)) ?_); simp only [Act.put, List.setIfInBounds_toArray, List.set])
  refine wpPre3_nil ?_
  have hkya : Kept no wxc wxc.drew := (Kept.refl _ _).drew
  generalize wxc.drew = wya at hkya ⊢
  have hdya := hKx.kept hkya (fun _ _ h => h)
  refine wpMix_cons rfl rfl (fun K hK => ?_)
  go_wp2_with fail
  refine (now_any hdya hok6d (by decide)).mono ?_
  rintro e wyb ⟨vy, rfl, hrowy, hvny, hkyb⟩
  refine hK _ _ ⟨fun h => h.step hkyb, ?_⟩
  clear hK
  rw [of_now] at hrowy
  refine wpMix_cons rfl rfl (fun K hK => ?_)
  go_wp2_with fail
  refine (recover_yes hrowy hsl h64 hls hF f hfl2 7 _ rfl (by decide) (by decide) same hsame).mono ?_
  rintro e wyc ⟨By, fy, rfl, hDocy, hBy, hkyc⟩
  refine hK _ _ ⟨fun h => h.step hkyc, ?_⟩
  clear hK
  repeat (refine wpMix_pure rfl rfl (fun W => (by go_simp; rfl)) ?_; simp only [Act.put, List.setIfInBounds_toArray, List.set])
  refine wpMix_nil ?_
  have hky : Kept no wxc wyc := (hkya.step hkyb).step hkyc
  clear hcy hdya hrowy
  have hDx := hDocx.kept hky (fun _ _ h => h)
  have htxx : (DocS.readBack ls f 3 hh hd.number).text = textOf ls := rfl
  have htxy : (DocS.readBack ls f 7 hh hd.number).text = textOf ls := rfl
  generalize DocS.readBack ls f 3 hh hd.number = qx at hDocx hDx htxx
  generalize DocS.readBack ls f 7 hh hd.number = qy at hDocy htxy
  have hM7 := (hM6.kept hkx (fun _ _ h => h)).kept hky (fun _ _ h => h)
  have hkw7 := (hkw6.step hkx).step hky
  generalize wyc = w7 at *
  go_wp2_with fail
  refine (text_doc hDx).mono ?_
  rintro e w8 ⟨rfl, hk8⟩
  rw [htxx]
  go_wp2_with fail
  refine (text_doc (hDocy.kept hk8 (fun _ _ h => h))).mono ?_
  rintro e w9 ⟨rfl, hk9⟩
  rw [htxy]
  have hM9 := (hM7.kept hk8 (fun _ _ h => h)).kept hk9 (fun _ _ h => h)
  have hkw9 := (hkw7.step hk8).step hk9
  obtain ⟨hc9, hf9⟩ := cells_of hM9.cells
  go_wp2_with fail
  refine (text_doc hM9.doc).mono ?_
  rintro e w10 ⟨rfl, hk10⟩
  rw [htx6]
  generalize textOf ls = t
  have hM10 := hM9.kept hk10 (fun _ _ h => h)
  have hkw10 := hkw9.step hk10
  have hR10 : DeskR w10 b bx' BK D3 (deskFp b fx6 fd6 ft6 ff6) := ⟨_, _, _, _, _, _, hM10, rfl⟩
  have hl12 := hl2.kept hkw10 (fun _ h => h.elim)
  clear hM6 hM7 hM9 hc9 hf9 hK6 hKx hDocx hDocy hDx
  go_wp2_with fail
  refine (plays_any hR10 hgo6 vs2 l2 hl12 (by omega) (by decide) (fun x hx => Nat.le_trans hBl (hge6 x hx))).mono ?_
  rintro e w11 ⟨rfl, bx3, bd3, fp3, D4, hR11, g4, -, hx11, hk11⟩
  have hge11 : ∀ x ∈ fp3, w.heap.size ≤ x := fun x hx => (hx11 x hx).elim (hge6 x) (fun h => Nat.le_trans hkw10.size h)
  have hkw11 : Kept no w w11 := hkw10.step' hk11 (fun x hx hlt => by have := hge6 x hx; omega)
  clear hM10 hR10
  obtain ⟨vt, vf, fx, fd, ft, ff, hM, rfl⟩ := hR11
  have hbd := (cells_of hM.cells).1
  have htt : (t == t) = true := by simp
  have hss : (same == same) = true := by simp
  go_wp2_with fail
  refine (crash_any hM.disk g4.ok.lens (by omega) (by decide) (hleft.kept hkw11 (fun _ h => h.elim))).mono ?_
  rintro e w12 ⟨⟨BL, fk2, secs2, f2, rfl, hKD, hsl2, hlv, hlf, hkn, hk12⟩⟩
  have hM12 := hM.kept hk12 (fun _ _ h => h)
  have hR12 : DeskR w12 b bx3 bd3 D4 (deskFp b fx fd ft ff) := ⟨_, _, _, _, _, _, hM12, rfl⟩
  go_wp2_with fail
  refine (back_any hR12 g4.ok g4.known (by omega) (by decide) hKD hsl2 hlv (g4.ok.file.leaves hlf) g4.mf g4.mt (leavesFile_len g4.ok.lens hlf) (fun x hx hx2' => by have := hkn x hx; have := hM.lt x hx2'; omega)).mono ?_
  rintro e w13 ⟨rfl, ls2, hh2, hd2, bx4, fp4, hls2, hch2, hF2, hR13, hok13, hx13, hk13⟩
  go_wp2
  go_ret
  exact ⟨by simp, (hkw11.step hk12).step' hk13 (fun x hx hlt => by have := hge11 x hx; omega)⟩
end Go.Proofs.YtdpfohgkikjeaaaGreat
/- The field of a view. -/
namespace Go.Proofs.YtdpfohgkikjeaaaGreat
open Go.RowKit
set_option linter.unusedVariables false
set_option linter.unusedSimpArgs false

theorem view_lines (a b c : Int) (W : World) : (Instr.field 44 (.agg #[.int .i64 a, .int .i64 b, .int .i64 c]) 0).run Tryz.prog W = .ok (.int .i64 a) W := by
  simp [Instr.field, run_underlying Tryz.underlying44, asAgg, part, isAgg, run_underlying Tryz.underlying3]
end Go.Proofs.YtdpfohgkikjeaaaGreat
/- Known: the walk. -/
namespace Go.Proofs.YtdpfohgkikjeaaaGreat
open Go.RowKit
set_option linter.unusedVariables false
set_option linter.unusedSimpArgs false

theorem mark_len {a b : Str} (h : markOf a = markOf b) : a.length = b.length := by
  have := congrArg Mark.len h
  have this : (a.length : Int) = (b.length : Int) := this
  omega

/-- A desk whose document was opened, or given an edit or two, as Known has it ahead of its Save. -/
structure Opened (D : DeskS) (f : Str) (k : Nat) : Prop where
  ok : D.Ok (501 + k) 2460
  kind : D.doc.kind = 0
  every : D.doc.every = 20
  counted : D.doc.counted = k
  edits : D.doc.edits = k
  known : D.doc.wr.known = true
  file : D.disk.file = f

theorem Opened.edit {D : DeskS} {f : Str} {k : Nat} (h : Opened D f k) (hk : k < 18) {ls : List Str} (hls : TextOk ls) : (D.doc.setLines ls).edited.lines = ls ∧ Opened { D with doc := (D.doc.setLines ls).edited } f (k + 1) := by
  have hc := h.counted
  have he := h.every
  obtain ⟨e1, ok⟩ := h.ok.plain h.kind (by omega) hls
  rw [e1]
  exact ⟨rfl, ok, h.kind, h.every, by show D.doc.counted + 1 = k + 1; omega, by show D.doc.edits + 1 = k + 1; rw [h.edits], h.known, h.file⟩

/-- What Recover finds behind a sync that was done. -/
theorem found_one {D : DeskS} {N L : Nat} (h : D.Ok N L) (hkn : D.doc.wr.known = true) {t : Str} {m : Mark} (hch : D.ch = [(t, m)]) :
    D.disk.now.length = 400 ∧ (∀ s ∈ D.disk.now, s.length = 64) ∧ ∃ hh hd ls, TextOk ls ∧ Finds (imgOf D.disk.now) hh hd (textOf ls) ∧ hd.file = m := by
  have hlv := now_leaves h.lens
  obtain ⟨hh, hd, ls', hls', hF, hc⟩ := back_finds h hkn hlv
  rw [hch] at hc
  exact ⟨by unfold DiskS.now; rw [List.length_map]; exact h.lens.sw, leaves_size h.lens hlv, hh, hd, ls', hls', hF, congrArg Prod.snd (List.mem_singleton.1 hc)⟩

set_option maxRecDepth 100000 in
set_option maxHeartbeats 16000000 in
theorem known_walk {w : World} {B : Nat} {v : Value} {raw : List Int} (hr : IntsAt w B v raw) (at_ c more : Int) (hat : RawOk at_) (hc : RawOk c) (hmore : RawOk more) :
    Calls Tryz.prog 9 #[v, .int .i64 at_, .int .i64 c, .int .i64 more] w fun e w' => e = .returned (.bool true) ∧ Kept no w w' := by
  have hlk := lineN_ok c
  go_enter Tryz.func9, Tryz.ntmps9
  go_wp2_with fail
  refine (begin_any hr 19 ⟨by decide, by decide⟩).mono ?_
  rintro e w1 ⟨b, bx, bd, fp, D, rfl, hR, hB, hge, hk1⟩
  have hlo := linesN_ok raw
  generalize linesN raw = ls at hB hlo
  have hfile : D.disk.file = textOf ls := by
    have := hB.ok.file.1
    rw [hB.files] at this
    exact List.mem_singleton.1 this
  have hOp : Opened D (textOf ls) 0 := ⟨hB.ok, hB.kind, hB.every.trans (by decide), hB.counted, hB.edits, hB.known, hfile⟩
  obtain ⟨hsl, h64, hh, hd, ls', hls', hF, hmk⟩ := found_one hB.ok hB.known hB.ch
  have hfl : (textOf ls).length ≤ 2460 := hlo.length
  have hlines := hB.lines
  subst hlines
  have hlens := hB.ok.lens
  clear hB hr
  obtain ⟨vt, vf, fx, fd, ft, ff, hM, rfl⟩ := hR
  have hcB := (cells_of hM.cells).1
  have hb1 : ∀ W, Kept no w1 W → W.cell? ⟨b, 1, none⟩ = some (.pointer (some ⟨bd, 0, none⟩)) := fun W hW => hW.read (by rw [hcB]; rfl) (fun h => h)
  have hdF : w1.cell? ⟨bd, 1, none⟩ = some (sv (textOf D.doc.lines)) := by rw [← hfile]; exact hM.disk.fileCell
  have hd1 : ∀ W, Kept no w1 W → W.cell? ⟨bd, 1, none⟩ = some (sv (textOf D.doc.lines)) := fun W hW => hW.read hdF (fun h => h)
  generalize hft : textOf D.doc.lines = f0 at *
  have HFT : Hid (textOf D.doc.lines = f0) := hft
  clear hft
  generalize hsc : D.disk.now = secs at hsl h64 hF
  have hMK := hmk
  -- Recover of the swap and the file
  go_wp2_with fail
  refine wp_region5 (fun W => Kept no w1 W) [(0, true), (1, true), (2, true), (3, false), (5, true), (6, true), (7, true), (8, false), (9, true), (10, true), (11, false)] [(4, false), (12, false), (13, true), (14, true), (15, true), (16, true), (17, true), (18, true), (19, true)] (by kernel_rfl) (by kernel_rfl) (fun _ _ d _ _ h => by cases d <;> exact h) ((Kept.refl _ _).drew) ?_
  repeat ((first | refine wpPre3_pure rfl rfl (fun W => (by go_simp; rfl)) ?_ | refine wpPre3_read rfl rfl (fun W hW => (by have h1 := hb1 W hW; have h2 := hd1 W hW; go_simp; rfl)) ?_); simp only [Act.put, List.setIfInBounds_toArray, List.set])
  refine wpPre3_nil ?_
  have hka : Kept no w1 w1.drew := (Kept.refl _ _).drew
  generalize w1.drew = wa at hka ⊢
  refine wpMix_cons rfl rfl (fun K hK => ?_)
  go_wp2_with fail
  refine (now_any (hM.disk.kept hka (fun _ _ h => h)) hlens (by decide)).mono ?_
  rintro e wb ⟨vN, rfl, hrow, hvn, hkb⟩
  refine hK _ _ ⟨fun h => h.step hkb, ?_⟩
  clear hK
  rw [hsc] at hrow
  refine wpMix_cons rfl rfl (fun K hK => ?_)
  go_wp2_with fail
  refine (recover_yes hrow hsl h64 hls' hF f0 (by omega) 5 _ rfl (by decide) (by decide) true (by simp [hMK])).mono ?_
  rintro e wc ⟨BN, fN, rfl, hDocN, hBN, hkc⟩
  refine hK _ _ ⟨fun h => h.step hkc, ?_⟩
  clear hK hDocN hBN
  repeat (refine wpMix_pure rfl rfl (fun W => (by go_simp; rfl)) ?_; simp only [Act.put, List.setIfInBounds_toArray, List.set])
  refine wpMix_nil ?_
  have hk2 := (hka.step hkb).step hkc
  clear hka hkb hkc hrow hvn
  generalize wc = w2 at *
  have hM2 := hM.kept hk2 (fun _ _ h => h)
  have hb2 : ∀ W, Kept no w2 W → W.cell? ⟨b, 1, none⟩ = some (.pointer (some ⟨bd, 0, none⟩)) := fun W hW => hb1 W (hk2.step hW)
  have hd2 : ∀ W, Kept no w2 W → W.cell? ⟨bd, 1, none⟩ = some (sv f0) := fun W hW => hd1 W (hk2.step hW)
  -- with a byte more
  go_wp2_with fail
  refine wp_region5 (fun W => Kept no w2 W) [(0, true), (1, true), (2, true), (3, false), (5, true), (6, true), (7, true), (8, false), (9, true), (10, true), (11, false), (12, true)] [(4, false), (13, false), (14, true), (15, false), (16, false), (17, false), (18, false), (19, true), (20, true), (21, true), (22, true), (23, true), (24, true), (25, true)] (by kernel_rfl) (by kernel_rfl) (fun _ _ d _ _ h => by cases d <;> exact h) ((Kept.refl _ _).drew) ?_
  repeat ((first | refine wpPre3_pure rfl rfl (fun W => (by go_simp; rfl)) ?_ | refine wpPre3_read rfl rfl (fun W hW => (by have h1 := hb2 W hW; have h2 := hd2 W hW; go_simp; rfl)) ?_); simp only [Act.put, List.setIfInBounds_toArray, List.set])
  refine wpPre3_nil ?_
  have hka : Kept no w2 w2.drew := (Kept.refl _ _).drew
  generalize w2.drew = wa at hka ⊢
  refine wpMix_cons rfl rfl (fun K hK => ?_)
  go_wp2_with fail
  refine (now_any (hM2.disk.kept hka (fun _ _ h => h)) hlens (by decide)).mono ?_
  rintro e wb ⟨vN, rfl, hrow, hvn, hkb⟩
  refine hK _ _ ⟨fun h => h.step hkb, ?_⟩
  clear hK
  rw [hsc] at hrow
  refine wpMix_cons rfl rfl (fun K hK => ?_)
  go_wp2_with fail
  refine (pick_keep more 256 256 rfl hmore (by decide) (by decide) wb).mono ?_
  rintro e wc ⟨rfl, hw⟩
  rw [hw]
  clear hw
  refine hK _ _ ⟨fun h => h, ?_⟩
  clear hK
  have hp := pickN_lt more (n := 256) (by decide)
  generalize pickN more 256 = p at hp ⊢
  refine wpMix_pure rfl rfl (v := .int .u8 (p : Int)) (fun W => ?_) ?_
  · go_simp
    have : IntKind.u8.wrap (p : Int) = (p : Int) := by rw [IntKind.wrap_u8']; omega
    rw [this]
  simp only [Act.put, List.setIfInBounds_toArray, List.set]
  have hpb : ((UInt8.ofNat p).toNat : Int) = (p : Int) := by simp; omega
  generalize hbe : UInt8.ofNat p = b8 at hpb
  clear hbe
  rw [← hpb]
  clear hpb hp
  refine wpMix_cons rfl rfl (fun K hK => ?_)
  go_wp2_with fail
  refine ⟨fun h => h.alloc _, ?_⟩
  obtain ⟨hn3, hsz3, hk3⟩ := new1 wb (Obj.cells #[.int .u8 (b8.toNat : Int)] 5)
  generalize hG : wb.heap.size = G at hn3 hsz3 ⊢
  generalize wb.alloc (Obj.cells #[.int .u8 (b8.toNat : Int)] 5) = w3 at hn3 hsz3 hk3 ⊢
  have hB8 : BytesAt w3 G 0 [b8] := BytesAt.of_row (cs := [.int .u8 (b8.toNat : Int)]) hn3 (fun j v h => by rw [Nat.zero_add]; exact h)
  have hcv : (convert 56 9 (.slice (some ⟨G, 0, none⟩) 1 1)).run Tryz.prog w3 = .ok (sv [b8]) w3 := run_bytes_str (P := Tryz.prog) w3 56 9 _ _ _ 1 _ Tryz.underlying56 Tryz.underlying5 Tryz.underlying9 hB8
  have hap := sv_append f0 [b8]
  have hfl1 : (f0 ++ [b8]).length ≤ 3000 := by rw [List.length_append, List.length_singleton]; omega
  refine wpMix_cons rfl rfl (fun K hK => ?_)
  go_wp2_with fail
  refine ⟨fun h => h, ?_⟩
  refine wpMix_cons rfl rfl (fun K hK => ?_)
  go_wp2_with fail
  refine ⟨fun h => h, ?_⟩
  have hrow3 := hrow.kept hk3 (fun _ _ h => h)
  refine wpMix_cons rfl rfl (fun K hK => ?_)
  go_wp2_with fail
  refine (recover_yes hrow3 hsl h64 hls' hF (f0 ++ [b8]) (by omega) 5 _ rfl (by decide) (by decide) false (by
    rw [hMK]
    refine ⟨fun h => (by cases h), fun h => ?_⟩
    have := mark_len h
    rw [List.length_append, List.length_singleton] at this
    omega)).mono ?_
  rintro e wc ⟨BN, fN, rfl, hDocN, hBN, hkc⟩
  refine hK _ _ ⟨fun h => h.step hkc, ?_⟩
  clear hK hDocN hBN
  repeat (refine wpMix_pure rfl rfl (fun W => (by go_simp; rfl)) ?_; simp only [Act.put, List.setIfInBounds_toArray, List.set])
  refine wpMix_nil ?_
  have hk3' := ((hka.step hkb).step hk3).step hkc
  have hkw3 := (hk1.step hk2).step hk3'
  have hM3 := hM2.kept hk3' (fun _ _ h => h)
  clear hka hkb hkc hrow hrow3 hvn hb1 hb2 hd1 hd2 hn3 hB8 hcv hap hfl1 hk3 hcB hdF
  generalize wc = w4 at *
  have h40 : w4.cell? ⟨b, 0, none⟩ = some (.pointer (some ⟨bx, 0, none⟩)) := by rw [(cells_of hM3.cells).1]; rfl
  have h41 : w4.cell? ⟨b, 1, none⟩ = some (.pointer (some ⟨bd, 0, none⟩)) := by rw [(cells_of hM3.cells).1]; rfl
  have h4d : w4.cell? ⟨bd, 1, none⟩ = some (sv f0) := by rw [← hfile]; exact hM3.disk.fileCell
  go_wp2_with fail
  refine (look_doc hM3.doc).mono ?_
  rintro e w5 ⟨rfl, hk5⟩
  have hM5 := hM3.kept hk5 (fun _ _ h => h)
  have hkw5 := hkw3.step hk5
  have h50 : w5.cell? ⟨b, 0, none⟩ = some (.pointer (some ⟨bx, 0, none⟩)) := by rw [(cells_of hM5.cells).1]; rfl
  have hlen60 := hlo.few
  have hvf := view_lines (D.doc.lines.length : Int) (D.doc.edits : Int) (D.doc.kind : Int) w5
  clear h40 h41 h4d hM3 hM2 hM hlens hsl h64 hF hls' hMK hmk hsc
  go_upto_if 93 with fail
  go_cut [18] (fun s18 wx => ∃ (D1 : DeskS) (fx1 : List Nat) (k : Nat), Opened D1 f0 k ∧ k ≤ 1 ∧ D1.doc.lines.length ≤ 59 ∧ DeskM wx b D1.doc D1.disk D1.mt D1.mf ⟨D.doc.text, D.doc.every, D.doc.counted, D.most⟩ bx bd vt vf fx1 fd ft ff ∧ (∀ x ∈ fx1, x ∈ fx ∨ w5.heap.size ≤ x) ∧ Kept (fun x => x ∈ fx) w5 wx)
  case first =>
    by_cases hfull : D.doc.lines.length = 60
    · have hf1 : ((D.doc.lines.length : Int) == 60) = true := by rw [beq_iff_eq]; omega
      have hf2 : (D.doc.lines.length : Int) = 60 := by omega
      have hed0 := hOp.edits
      have hdel : D.doc.delete 0 = (0, (D.doc.setLines (D.doc.lines.take 0 ++ D.doc.lines.drop 1)).edited) := by
        unfold DocS.delete
        rw [if_neg (by have := hOp.kind; omega), if_neg (by omega)]
        rfl
      have hdd := delete_d hM5.doc 0 (by omega)
      rw [hdel] at hdd
      obtain ⟨e1, hO1⟩ := hOp.edit (by decide) (ls := D.doc.lines.take 0 ++ D.doc.lines.drop 1) (hOp.ok.doc.text.delete 0)
      have HL : Hid ((D.doc.setLines (D.doc.lines.take 0 ++ D.doc.lines.drop 1)).edited.lines.length ≤ 59) := by
        show _ ≤ _
        rw [e1]; simp; omega
      clear hdel e1 hfull hed0
      go_wp2_with fail
      refine hdd.mono ?_
      rintro e w6 ⟨rfl, hT⟩
      obtain ⟨fx6, hM6, hx6⟩ := hM5.doc_to hT
      clear hdd
      go_wp2_with fail
      go_meet
      case rel => exact ⟨_, fx6, 1, hO1, by decide, HL.out, hM6, hx6, hT.kept⟩
    · have hf1 : ((D.doc.lines.length : Int) == 60) = false := by rw [beq_eq_false_iff_ne]; omega
      have hf2 : ¬ (D.doc.lines.length : Int) = 60 := by omega
      go_wp2_with fail
      go_meet
      case rel => exact ⟨D, fx, 0, hOp, by decide, by omega, hM5, fun x hx => .inl hx, Kept.refl _ _⟩
  case rest =>
    obtain ⟨D1, fx1, k, hO1, hk01, h59, hM6, hx6, hk6⟩ := hcut
    clear hM5 h50 hOp hlo hlen60 hfile
    have hkw6 : Kept no w wc := hkw5.step' hk6 (fun x hx hlt => by have hx : x ∈ fx := hx; have := hge x (by simp [hx]); omega)
    have hge6 : ∀ x ∈ deskFp b fx1 fd ft ff, w.heap.size ≤ x := fun x hx => by
      simp only [deskFp, List.mem_cons, List.mem_append] at hx
      rcases hx with rfl | hx | hx | hx | hx
      · exact hge _ (by simp)
      · rcases hx6 x hx with h1 | h1
        · exact hge x (by simp [h1])
        · have := hkw5.size; omega
      · exact hge x (by simp [hx])
      · exact hge x (by simp [hx])
      · exact hge x (by simp [hx])
    clear hx6 hk6 hge hkw5 hk1 hkw3
    generalize hNM : (⟨D.doc.text, D.doc.every, D.doc.counted, D.most⟩ : Nums) = nm at hM6
    clear hNM
    have hb0 : ∀ W, Kept no wc W → W.cell? ⟨b, 0, none⟩ = some (.pointer (some ⟨bx, 0, none⟩)) := fun W hW => hW.read (by rw [(cells_of hM6.cells).1]; rfl) (fun h => h)
    have hpad : IntKind.i64.wrap ((D1.doc.lines.length : Int) + 1) = (D1.doc.lines.length : Int) + 1 := by rw [IntKind.wrap_i64]; omega
    go_wp2_with fail
    refine wp_region5 (fun W => Kept no wc W) [(0, true), (1, true), (2, true), (3, false), (4, true), (5, true), (6, true), (7, true), (8, false), (13, true)] [(9, false), (10, true), (11, true), (12, false), (14, false), (15, false), (16, true)] (by kernel_rfl) (by kernel_rfl) (fun _ _ d _ _ h => by cases d <;> exact h) ((Kept.refl _ _).drew) ?_
    repeat ((first | refine wpPre3_pure rfl rfl (fun W => (by go_simp; rfl)) ?_ | refine wpPre3_read rfl rfl (fun W hW => (by have h1 := hb0 W hW; go_simp; rfl)) ?_); simp only [Act.put, List.setIfInBounds_toArray, List.set])
    refine wpPre3_nil ?_
    have hka : Kept no wc wc.drew := (Kept.refl _ _).drew
    generalize wc.drew = wa at hka ⊢
    refine wpMix_cons rfl rfl (fun K hK => ?_)
    go_wp2_with fail
    refine (look_doc (hM6.doc.kept hka (fun _ _ h => h))).mono ?_
    rintro e wb ⟨rfl, hkb⟩
    refine hK _ _ ⟨fun h => h.step hkb, ?_⟩
    clear hK
    refine wpMix_pure rfl rfl (v := .int .i64 (D1.doc.lines.length : Int)) (fun W => ?_) ?_
    · have hvf := view_lines (D1.doc.lines.length : Int) (D1.doc.edits : Int) (D1.doc.kind : Int) W
      go_simp
    simp only [Act.put, List.setIfInBounds_toArray, List.set]
    refine wpMix_pure rfl rfl (v := .int .i64 ((D1.doc.lines.length : Int) + 1)) (fun W => ?_) ?_
    · go_simp
    simp only [Act.put, List.setIfInBounds_toArray, List.set]
    refine wpMix_cons rfl rfl (fun K hK => ?_)
    go_wp2_with fail
    refine (pick_keep at_ (D1.doc.lines.length + 1) _ (by omega) hat (by omega) (by omega) wb).mono ?_
    rintro e wb' ⟨rfl, hw⟩
    rw [hw]
    clear hw
    refine hK _ _ ⟨fun h => h, ?_⟩
    clear hK
    have hp := pickN_lt at_ (n := D1.doc.lines.length + 1) (by omega)
    generalize pickN at_ (D1.doc.lines.length + 1) = p at hp ⊢
    refine wpMix_cons rfl rfl (fun K hK => ?_)
    go_wp2_with fail
    refine (line_any c hc wb).mono ?_
    rintro e wl ⟨rfl, hkl⟩
    refine hK _ _ ⟨fun h => h.step hkl, ?_⟩
    clear hK
    generalize lineN c = l at hlk ⊢
    have hM7 := ((hM6.kept hka (fun _ _ h => h)).kept hkb (fun _ _ h => h)).kept hkl (fun _ _ h => h)
    have hkw7 := ((hkw6.step hka).step hkb).step hkl
    have hins := insert_d hM7.doc (p : Int) l (by have := hlk.1; omega) (by rw [hO1.edits]; omega)
    have hinsE : D1.doc.insert (p : Int) l = (0, (D1.doc.setLines (D1.doc.lines.take p ++ l :: D1.doc.lines.drop p)).edited) := by
      unfold DocS.insert
      rw [if_neg (by have := hO1.kind; omega), if_neg (by omega), if_neg (fun h => h hlk), if_neg (by omega)]
      rfl
    rw [hinsE] at hins
    obtain ⟨e2, hO2⟩ := hO1.edit (by omega) (ls := D1.doc.lines.take p ++ l :: D1.doc.lines.drop p) (hO1.ok.doc.text.insert p hlk (by omega))
    clear hinsE hb0 hpad e2
    refine wpMix_last (by kernel_rfl) rfl rfl (fun K hK => ?_)
    go_wp2_with fail
    refine hins.mono ?_
    rintro e w8 ⟨rfl, hT8⟩
    refine hK _ _ ?_
    clear hK hins
    refine wpMix_pure rfl rfl (fun W => (by go_simp; rfl)) ?_
    simp only [Act.put, List.setIfInBounds_toArray, List.set]
    refine wpMix_nil ?_
    obtain ⟨fx8, hM8, hx8⟩ := hM7.doc_to hT8
    have hkw8 : Kept no w w8 := hkw7.step' hT8.kept (fun x hx hlt => by have hx : x ∈ fx1 := hx; have := hge6 x (by simp [hx]); omega)
    have hge8 : ∀ x ∈ deskFp b fx8 fd ft ff, w.heap.size ≤ x := fun x hx => by
      simp only [deskFp, List.mem_cons, List.mem_append] at hx
      rcases hx with rfl | hx | hx | hx | hx
      · exact hge6 _ (by simp)
      · rcases hx8 x hx with h1 | h1
        · exact hge6 x (by simp [h1])
        · have := hkw7.size; omega
      · exact hge6 x (by simp [hx])
      · exact hge6 x (by simp [hx])
      · exact hge6 x (by simp [hx])
    generalize hd2 : (D1.doc.setLines (D1.doc.lines.take p ++ l :: D1.doc.lines.drop p)).edited = d2 at hO2 hM8
    obtain ⟨D2, hD2⟩ : ∃ D2 : DeskS, D2 = { D1 with doc := d2 } := ⟨_, rfl⟩
    have hD2d : d2 = D2.doc ∧ D1.disk = D2.disk ∧ D1.mt = D2.mt ∧ D1.mf = D2.mf := by rw [hD2]; exact ⟨rfl, rfl, rfl, rfl⟩
    rw [← hD2] at hO2
    rw [hD2d.1, hD2d.2.1, hD2d.2.2.1, hD2d.2.2.2] at hM8
    clear hM6 hM7 hx8 hT8 hkw7 hkw6 hd2 hD2 hD2d hO1 h59 hge6 hp
    have hk2 : D2.doc.kind = 0 := hO2.kind
    have hed2 : D2.doc.edits = k + 1 := hO2.edits
    -- Save
    have h80 : w8.cell? ⟨b, 0, none⟩ = some (.pointer (some ⟨bx, 0, none⟩)) := by rw [(cells_of hM8.cells).1]; rfl
    have hsv := save_d hM8.doc hk2
    go_wp2_with fail
    refine hsv.mono ?_
    rintro e w9 ⟨rfl, hT9⟩
    obtain ⟨fx9, hM9, hx9⟩ := hM8.doc_to hT9
    have hkw9 : Kept no w w9 := hkw8.step' hT9.kept (fun x hx hlt => by have hx : x ∈ fx8 := hx; have := hge8 x (by simp [hx]); omega)
    have hge9 : ∀ x ∈ deskFp b fx9 fd ft ff, w.heap.size ≤ x := fun x hx => by
      simp only [deskFp, List.mem_cons, List.mem_append] at hx
      rcases hx with rfl | hx | hx | hx | hx
      · exact hge8 _ (by simp)
      · rcases hx9 x hx with h1 | h1
        · exact hge8 x (by simp [h1])
        · have := hkw8.size; omega
      · exact hge8 x (by simp [hx])
      · exact hge8 x (by simp [hx])
      · exact hge8 x (by simp [hx])
    obtain ⟨ok3, D4, hw4, ok4, hdoc4, hfile4, hfiles4, hch4, hmt4, hmf4, hmo4⟩ := hO2.ok.saveAll hk2 hM9.doc.ok (D3 := { D2 with doc := D2.doc.save.2, files := D2.files ++ [D2.doc.text] }) rfl
    have hR9 : DeskRn w9 b bx bd { D2 with doc := D2.doc.save.2, files := D2.files ++ [D2.doc.text] } nm (deskFp b fx9 fd ft ff) := ⟨_, _, _, _, _, _, hM9, rfl⟩
    generalize ({ D2 with doc := D2.doc.save.2, files := D2.files ++ [D2.doc.text] } : DeskS) = D3 at ok3 hw4 hR9
    clear h80 hsv hM8 hM9 hT9 hx9 hge8 hkw8
    go_wp2_with fail
    refine (work_n hR9 ok3 500 500 (-1) 0 0 rfl rfl (by decide) (by decide) (by decide) (by decide) (by omega) (by decide)).mono ?_
    rintro e w10 ⟨rfl, hT10⟩
    have hT10' : DeskTon w9 w10 b bx bd nm (deskFp b fx9 fd ft ff) (D3.work 500 0 (-1) false) := hT10
    rw [hw4] at hT10'
    clear hT10 hw4 hR9 ok3
    obtain ⟨⟨fp10, hR10, hx10⟩, hk10⟩ := hT10'
    have hge10 : ∀ x ∈ fp10, w.heap.size ≤ x := fun x hx => (hx10 x hx).elim (hge9 x) (fun h => by have := hkw9.size; omega)
    have hkw10 : Kept no w w10 := hkw9.step' hk10 (fun x hx hlt => by have := hge9 x hx; omega)
    obtain ⟨vt', vf', fx10, fd', ft', ff', hM10, rfl⟩ := hR10
    have hk4 : D4.doc.kind = 0 := by rw [hdoc4]
    have hed4 : D4.doc.edits = k + 1 := by rw [hdoc4]; exact hed2
    have hl4 : D4.doc.lines = D2.doc.lines := by rw [hdoc4]
    have hm4 : D4.doc.file = markOf D2.doc.text := by rw [hdoc4]
    have ht4 : D4.doc.text = D2.doc.text := by unfold DocS.text; rw [hl4]
    -- Sync
    have h100 : w10.cell? ⟨b, 0, none⟩ = some (.pointer (some ⟨bx, 0, none⟩)) := by rw [(cells_of hM10.cells).1]; rfl
    have hsy := sync_d hM10.doc
    have hsyE : D4.doc.sync = (0, D4.doc.beginSync) := by
      unfold DocS.sync
      rw [if_neg (by omega), if_neg (by omega)]
    rw [hsyE] at hsy
    clear hsyE hdoc4 hx10 hk10 hge9
    go_wp2_with fail
    refine hsy.mono ?_
    rintro e w11 ⟨rfl, hT11⟩
    obtain ⟨fx11, hM11, hx11⟩ := hM10.doc_to hT11
    have hkw11 : Kept no w w11 := hkw10.step' hT11.kept (fun x hx hlt => by have hx : x ∈ fx10 := hx; have := hge10 x (by simp [hx]); omega)
    have hge11 : ∀ x ∈ deskFp b fx11 fd' ft' ff', w.heap.size ≤ x := fun x hx => by
      simp only [deskFp, List.mem_cons, List.mem_append] at hx
      rcases hx with rfl | hx | hx | hx | hx
      · exact hge10 _ (by simp)
      · rcases hx11 x hx with h1 | h1
        · exact hge10 x (by simp [h1])
        · have := hkw10.size; omega
      · exact hge10 x (by simp [hx])
      · exact hge10 x (by simp [hx])
      · exact hge10 x (by simp [hx])
    obtain ⟨ok5, D6, hw6, ok6, hl6, hk6, hkn6, hfi6, hch6⟩ := ok4.syncAll hk4 hM11.doc.ok (D5 := { D4 with doc := D4.doc.beginSync, ch := D4.ch ++ [(D4.doc.text, D4.doc.file)] }) rfl
    have hR11 : DeskRn w11 b bx bd { D4 with doc := D4.doc.beginSync, ch := D4.ch ++ [(D4.doc.text, D4.doc.file)] } nm (deskFp b fx11 fd' ft' ff') := ⟨_, _, _, _, _, _, hM11, rfl⟩
    generalize ({ D4 with doc := D4.doc.beginSync, ch := D4.ch ++ [(D4.doc.text, D4.doc.file)] } : DeskS) = D5 at ok5 hw6 hR11
    clear h100 hsy hM10 hM11 hT11 hx11 hge10 hkw10
    go_wp2_with fail
    refine (work_n hR11 ok5 500 500 (-1) 0 0 rfl rfl (by decide) (by decide) (by decide) (by decide) (by omega) (by decide)).mono ?_
    rintro e w12 ⟨rfl, hT12⟩
    have hT12' : DeskTon w11 w12 b bx bd nm (deskFp b fx11 fd' ft' ff') (D5.work 500 0 (-1) false) := hT12
    rw [hw6] at hT12'
    clear hT12 hw6 hR11 ok5
    obtain ⟨⟨fp12, hR12, hx12⟩, hk12⟩ := hT12'
    have hkw12 : Kept no w w12 := hkw11.step' hk12 (fun x hx hlt => by have := hge11 x hx; omega)
    obtain ⟨vt2, vf2, fx12, fd2, ft2, ff2, hM12, rfl⟩ := hR12
    have ht6 : D6.doc.text = D2.doc.text := by unfold DocS.text; rw [hl6, hl4]
    have hf6 : D6.disk.file = D2.doc.text := by
      have := ok6.file.1
      rw [hfi6, hfiles4] at this
      exact List.mem_singleton.1 this
    rw [ht4, hm4] at hch6
    have htl : D2.doc.text.length ≤ 2460 := hO2.ok.doc.text.length
    obtain ⟨hsl, h64, hh2, hd2', ls2, hls2, hF2, hmk2⟩ := found_one ok6 hkn6 hch6
    have hlens6 := ok6.lens
    generalize D2.doc.text = now at *
    clear hx12 hk12 hge11 hkw11 hch6 hfi6 hl6 hk6 hkn6 hm4 ht4 hl4 hk4 hed4 hfiles4 hch4 hmt4 hmf4 hmo4 hfile4 hO2 hk2 hed2 hkw9
    have h120 : w12.cell? ⟨b, 0, none⟩ = some (.pointer (some ⟨bx, 0, none⟩)) := by rw [(cells_of hM12.cells).1]; rfl
    go_wp2_with fail
    refine (text_doc hM12.doc).mono ?_
    rintro e w13 ⟨rfl, hk13⟩
    rw [ht6]
    have hM13 := hM12.kept hk13 (fun _ _ h => h)
    have hkw13 := hkw12.step hk13
    have h131 : w13.cell? ⟨b, 1, none⟩ = some (.pointer (some ⟨bd, 0, none⟩)) := by rw [(cells_of hM13.cells).1]; rfl
    clear h120 hM12
    go_wp2_with fail
    refine (now_any hM13.disk hlens6 (by omega)).mono ?_
    rintro e w14 ⟨v14, rfl, hrow14, hv14, hk14⟩
    go_wp2_with fail
    refine (recover_yes hrow14 hsl h64 hls2 hF2 now (by omega) 5 _ rfl (by decide) (by decide) true (by simp [hmk2])).mono ?_
    rintro e w15 ⟨B15, f15, rfl, hD15, hB15, hk15⟩
    have hM15 := (hM13.kept hk14 (fun _ _ h => h)).kept hk15 (fun _ _ h => h)
    have hkw15 := (hkw13.step hk14).step hk15
    have h151 : w15.cell? ⟨b, 1, none⟩ = some (.pointer (some ⟨bd, 0, none⟩)) := by rw [(cells_of hM15.cells).1]; rfl
    clear hM13 h131 hrow14 hv14 hD15 hB15
    obtain ⟨same, hsame⟩ : ∃ same : Bool, same = true ↔ markOf f0 = hd2'.file := by
      by_cases e : markOf f0 = hd2'.file
      · exact ⟨true, by simp [e]⟩
      · exact ⟨false, by simp [e]⟩
    go_wp2_with fail
    refine (now_any hM15.disk hlens6 (by omega)).mono ?_
    rintro e w16 ⟨v16, rfl, hrow16, hv16, hk16⟩
    go_wp2_with fail
    refine (recover_yes hrow16 hsl h64 hls2 hF2 f0 (by omega) 5 _ rfl (by decide) (by decide) same hsame).mono ?_
    rintro e w17 ⟨B17, f17, rfl, hD17, hB17, hk17⟩
    have hM17 := (hM15.kept hk16 (fun _ _ h => h)).kept hk17 (fun _ _ h => h)
    have hkw17 := (hkw15.step hk16).step hk17
    have h171 : w17.cell? ⟨b, 1, none⟩ = some (.pointer (some ⟨bd, 0, none⟩)) := by rw [(cells_of hM17.cells).1]; rfl
    have h17f : w17.cell? ⟨bd, 1, none⟩ = some (sv now) := by rw [← hf6]; exact hM17.disk.fileCell
    have hnn : (now == now) = true := by simp
    clear hM15 hM17 hF2 hrow16 hv16 hD17 hB17 hlens6 h151
    cases same with
    | false =>
      clear hsame hmk2
      go_wp2
      go_ret
      exact ⟨by simp, hkw17⟩
    | true =>
      have hlen : f0.length = now.length := mark_len ((hsame.1 rfl).trans hmk2)
      have hlen' : (f0.length : Int) = (now.length : Int) := by omega
      clear hsame hmk2 hlen
      go_wp2
      go_ret
      exact ⟨by simp, hkw17⟩
end Go.Proofs.YtdpfohgkikjeaaaGreat

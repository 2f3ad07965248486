/- Part XFew 1 of the proof: see its parts. -/
import Derived.Test.YtdpfohgkikjeaaaGreatW12
/- Few, in plain mathematics: what holds between two jobs. -/
namespace Go.Proofs.YtdpfohgkikjeaaaGreat
set_option linter.unusedVariables false
set_option linter.unusedSimpArgs false

/-- A bound is brought down. -/
theorem DeskS.Ok.tight {D : DeskS} {N M L : Nat} (h : D.Ok N L) (h1 : 1 ≤ M) (hr : ∀ r ∈ D.disk.sw, r.length ≤ M) (hc : D.ch.length ≤ M) (hf : D.files.length ≤ M) (he : D.doc.edits ≤ M) (hm : D.mf.length ≤ M) (hmt : D.mt.length ≤ M) : D.Ok M L :=
  ⟨h.doc, ⟨h.lens.sw, hr, h.lens.some, h.lens.size, h.lens.file, h.lens.before, h.lens.new, h.lens.safe, h.lens.newSafe⟩, h.swok, hc, hf, h.file, h.sync, h.save, he, h.most, h1, h.big, h.few, h.mf0, hm, h.mt0, hmt⟩

/-- The last act of a sync is a Sync. -/
theorem acts_settle (wr : Wr) (t : Str) (f : Mark) : ∃ X, wr.acts t f = X ++ [pSettle] :=
  ⟨(if wr.unsettled then [pSettle] else []) ++ pWrite (40 * (1 - wr.half)) [] :: (if wr.known then [] else [pWrite (40 * wr.half) []]) ++ pSettle :: (bodyActs (1 - wr.half) t ++ [pSettle, ⟨1, 40 * (1 - wr.half), headBytes (wr.head t f)⟩]), by simp [Wr.acts]⟩

theorem sync_rows (wr : Wr) (t : Str) (f : Mark) (k : DiskS) : ∀ r ∈ ((wr.acts t f).foldl DiskS.act k).sw, r.length ≤ 1 := by
  obtain ⟨X, e⟩ := acts_settle wr t f
  rw [e, List.foldl_append]
  intro r hr
  have hr : r ∈ ((X.foldl DiskS.act k).sw.map fun l => [lastOf l]) := hr
  obtain ⟨x, _, rfl⟩ := List.mem_map.1 hr
  simp

/-- Between two jobs, where no act fails. -/
structure Calm (D : DeskS) (n : Nat) : Prop where
  ok : D.Ok 501 2460
  known : D.doc.wr.known = true
  mf : D.mf = D.files
  mt : D.mt = D.ch.map (·.1)
  kind : D.doc.kind = 0
  every : D.doc.every = n
  edits : D.doc.edits = D.doc.counted
  last : D.doc.counted = 0 → ∀ c ∈ D.ch, c.1 = D.doc.text

theorem Begun.calm {D : DeskS} {ls : List Str} {n : Nat} (h : Begun D ls n) : Calm D n :=
  ⟨h.ok, h.known, h.mf.trans h.files.symm, by rw [h.mt, h.ch]; rfl, h.kind, h.every, h.edits.trans h.counted.symm, fun _ c hc => by
    rw [h.ch] at hc
    rw [List.mem_singleton.1 hc]
    show textOf ls = textOf D.doc.lines
    rw [h.lines]⟩

/-- An edit, and all acts of its job, if it began one. -/
theorem Calm.step {D : DeskS} {n : Nat} (h : Calm D n) (kind at_ c : Int) : Calm ((D.edit kind at_ c).work 500 0 (-1) false) n := by
  cases e : D.editLines kind at_ c with
  | none =>
    have hE : D.edit kind at_ c = D := by unfold DeskS.edit; rw [e]
    rw [hE, work_idle h.kind]
    exact h
  | some ls =>
    have hE : D.edit kind at_ c = D.edited ls (max D.most (D.doc.counted + 1)) := by unfold DeskS.edit; rw [e]
    have okE := h.ok.edit kind at_ c
    rw [hE] at okE ⊢
    generalize max D.most (D.doc.counted + 1) = m at okE ⊢
    clear hE e
    have okW := DeskS.Ok.work (fail := -1) (all := false) 500 0 okE
    have hce := h.ok.doc.counted
    have hev := h.ok.doc.every2
    have hed := h.edits
    by_cases he : D.doc.counted + 1 = D.doc.every
    · have e1 : D.edited ls m = { D with doc := { D.doc.setLines ls with edits := D.doc.edits + 1, counted := 0, kind := 1, acts := D.doc.wr.acts (textOf ls) D.doc.file }, most := m, ch := D.ch ++ [(textOf ls, D.doc.file)], mt := D.mt ++ [textOf ls] } := by
        unfold DeskS.edited DeskS.begun DocS.edited
        rw [if_pos (show (D.doc.setLines ls).counted + 1 = (D.doc.setLines ls).every from he)]
        exact if_pos rfl
      have hne : D.doc.wr.acts (textOf ls) D.doc.file ≠ [] := by
        obtain ⟨X, e⟩ := acts_settle D.doc.wr (textOf ls) D.doc.file
        rw [e]; simp
      have hlen : (D.edited ls m).doc.acts.length ≤ 100 := okE.few
      have hw := work_all (fail := -1) (all := false) 500 0 (D.edited ls m) (by rw [e1]; exact Nat.one_ne_zero) (by rw [e1]; exact hne) (by omega) (.inl (by decide))
      rw [e1] at hw okW ⊢
      have e2 : DocS.succeeded { D.doc.setLines ls with edits := D.doc.edits + 1, counted := 0, kind := 1, acts := D.doc.wr.acts (textOf ls) D.doc.file } = { D.doc.setLines ls with edits := 0, counted := 0, kind := 0, acts := [], wr := D.doc.wr.written } := by
        unfold DocS.succeeded
        exact if_neg (by show ¬ (1 : Nat) = 2; decide)
      have e3 : lastOne (D.ch ++ [(textOf ls, D.doc.file)]) = [(textOf ls, D.doc.file)] := lastOne_eq (by simp)
      have e4 : lastOne (D.mt ++ [textOf ls]) = [textOf ls] := lastOne_eq (by simp)
      simp only [e2, e3, e4, if_true, ne_eq, not_true_eq_false, if_false] at hw
      rw [hw] at okW ⊢
      have hfl := h.ok.fl
      have hmf := h.ok.mfN
      exact ⟨okW.tight (by decide) (fun r hr => by have := sync_rows D.doc.wr (textOf ls) D.doc.file D.disk r hr; omega) (by show 1 ≤ 501; decide) hfl (Nat.zero_le _) hmf (by show 1 ≤ 501; decide), rfl, h.mf, rfl, rfl, h.every, rfl, fun _ c hc => by
        rw [List.mem_singleton.1 hc]; rfl⟩
    · have e1 : D.edited ls m = { D with doc := { D.doc.setLines ls with edits := D.doc.edits + 1, counted := D.doc.counted + 1 }, most := m } := by
        unfold DeskS.edited DeskS.begun DocS.edited
        rw [if_neg (show ¬ (D.doc.setLines ls).counted + 1 = (D.doc.setLines ls).every from he)]
        rw [if_neg (by show ¬ D.doc.kind = 1; have := h.kind; omega)]
        rfl
      rw [e1] at okE ⊢
      rw [work_idle (D := { D with doc := { D.doc.setLines ls with edits := D.doc.edits + 1, counted := D.doc.counted + 1 }, most := m }) (show D.doc.kind = 0 from h.kind)]
      exact ⟨okE.tight (by decide) h.ok.lens.rows h.ok.ch h.ok.fl (by show D.doc.edits + 1 ≤ 501; omega) h.ok.mfN h.ok.mtN, h.known, h.mf, h.mt, h.kind, h.every, (by show D.doc.edits + 1 = D.doc.counted + 1; omega), fun hc => absurd hc (by show ¬ D.doc.counted + 1 = 0; omega)⟩
end Go.Proofs.YtdpfohgkikjeaaaGreat
/- Few: the walk. -/
namespace Go.Proofs.YtdpfohgkikjeaaaGreat
open Go.RowKit
set_option linter.unusedVariables false
set_option linter.unusedSimpArgs false

set_option maxRecDepth 100000 in
set_option maxHeartbeats 8000000 in
theorem few_walk {w : World} {B : Nat} {v vs : Value} {raw : List Int} (hr : IntsAt w B v raw) (every : Int) (he : RawOk every) (l : List (Int × Int × List Int)) (hl : MovesAt w B vs l) :
    Calls Tryz.prog 7 #[v, .int .i64 every, vs] w fun e w' => e = .returned (.bool true) ∧ Kept no w w' := by
  have hfew := hl.few
  have hBl := hl.low
  obtain ⟨pv, cv, hv⟩ : ∃ pv cv, vs = .slice pv l.length cv := by
    rcases hl.at_ with ⟨a, c, h1, h2⟩ | ⟨b, o, c, h1, _⟩
    · subst h2; exact ⟨_, _, h1⟩
    · exact ⟨_, _, h1⟩
  subst hv
  generalize hn : l.length = n at *
  go_enter Tryz.func7, Tryz.ntmps7
  go_wp2_with fail
  refine (begin_any hr every he).mono ?_
  rintro e w1 ⟨b, bx, bd, fp, D, rfl, hR, hB, hge, hk1⟩
  have hC := hB.calm
  clear hB
  generalize 1 + pickN every 20 = ev at hC
  go_wp2_with fail
  go_loopw [9] (fun s9 wr => ∃ (i bx' bd' : Nat) (fp' : List Nat) (D' : DeskS), i ≤ n ∧ s9 = .int .i64 ((i : Nat) : Int) ∧ DeskR wr b bx' bd' D' fp' ∧ Calm D' ev ∧ (∀ x ∈ fp', w.heap.size ≤ x) ∧ Kept no w wr) (fun s9 _ => n - (intOf s9).toNat)
  case atStart => exact ⟨0, bx, bd, fp, D, Nat.zero_le _, rfl, hR, hC, hge, hk1⟩
  case round =>
    clear hR hC hge hk1
    obtain ⟨i, bx1, bd1, fp1, D1, hi, rfl, hR1, hC1, hge1, hkr⟩ := hrel
    have hl1 := hl.kept hkr (fun _ h => h.elim)
    by_cases hlt : i < n
    · obtain ⟨m, hm⟩ : ∃ m, l[i]? = some m := ⟨l[i]'(by omega), by simp [hn, hlt]⟩
      obtain ⟨hf1, hf2⟩ := hl.fits m (List.mem_of_getElem? hm)
      obtain ⟨k, q, raw2⟩ := m
      rcases hl1.at_ with ⟨a, c, h1, h2⟩ | ⟨b2, o, c, h1, hb2, hc⟩
      · subst h2; simp at hm
      · simp only [Value.slice.injEq] at h1
        obtain ⟨rfl, h1', rfl⟩ := h1
        clear h1'
        obtain ⟨r, c0, c1, c2, hraw⟩ := hc i _ hm
        obtain ⟨pr, nr, cr, rfl⟩ : ∃ p n c, r = .slice p n c := by
          rcases hraw.at_ with ⟨a, c, rfl, _⟩ | ⟨b, o, c, rfl, _⟩
          · exact ⟨_, _, _, rfl⟩
          · exact ⟨_, _, _, rfl⟩
        clear hc hl1 hl hn hm
        simp only at c0 c1
        go_wp2_with fail
        obtain ⟨hn2, hsz2, hk2⟩ := new1 wr (Obj.cells #[.int .i64 k, .int .i64 q, .slice pr nr cr] 40)
        have hR2 := hR1.kept hk2 (fun _ _ h => h)
        have hraw2 := hraw.kept hk2 (fun _ h => h.elim)
        generalize hA : wr.heap.size = A at hn2 hsz2 ⊢
        generalize wr.alloc (Obj.cells #[.int .i64 k, .int .i64 q, .slice pr nr cr] 40) = w2 at hn2 hsz2 hk2 hR2 hraw2 ⊢
        obtain ⟨hcA, _⟩ := cells_of hn2
        have hv : ∀ W, Kept no w2 W → W.cell? ⟨A, 2, none⟩ = some (.slice pr nr cr) := fun W hW => hW.read (by rw [hcA]; rfl) (fun h => h)
        have hgo : ∀ i, RawOk (raw2.getD i 0) := fun i => by
          rw [List.getD_eq_getElem?_getD]
          cases hx : raw2[i]? with
          | none => exact ⟨by decide, by decide⟩
          | some x => exact hraw.fits x (List.mem_of_getElem? hx)
        clear hcA c0 c1 c2 hraw
        refine wp_region3 (fun W => Kept no w2 W) [(0, true), (1, true), (2, false), (4, true), (5, false), (7, true), (8, false)] [3, 6, 9, 10, 11] (by kernel_rfl) (by kernel_rfl) (fun _ _ d _ _ h => by cases d <;> exact h) ((Kept.refl _ _).drew) ?_
        repeat ((first | refine wpPre3_pure rfl rfl (fun W => (by go_simp; rfl)) ?_ | refine wpPre3_read rfl rfl (fun W hW => (by have h1 := hv W hW; go_simp; rfl)) ?_); simp only [Act.put, List.setIfInBounds_toArray, List.set])
        refine wpPre3_nil ?_
        have hk4 : Kept no w2 w2.drew := (Kept.refl _ _).drew
        have hraw4 := hraw2.kept hk4 (fun _ h => h.elim)
        have hR4 := hR2.kept hk4 (fun _ _ h => h)
        generalize w2.drew = w4 at hk4 hraw4 hR4 ⊢
        refine wpTail3_cons rfl rfl (fun K hK => ?_)
        go_wp2_with fail
        refine (number_any hraw4 0 0 rfl (by decide)).mono ?_
        rintro e w5 ⟨rfl, hw⟩
        rw [hw]
        clear hw
        refine hK _ _ ⟨fun h => h, ?_⟩
        clear hK
        refine wpTail3_cons rfl rfl (fun K hK => ?_)
        go_wp2_with fail
        refine (number_any hraw4 1 1 rfl (by decide)).mono ?_
        rintro e w5 ⟨rfl, hw⟩
        rw [hw]
        clear hw
        refine hK _ _ ⟨fun h => h, ?_⟩
        clear hK
        refine wpTail3_cons rfl rfl (fun K hK => ?_)
        go_wp2_with fail
        refine (number_any hraw4 2 2 rfl (by decide)).mono ?_
        rintro e w5 ⟨rfl, hw⟩
        rw [hw]
        clear hw
        refine hK _ _ ⟨fun h => h, ?_⟩
        clear hK
        refine wpTail3_last (by kernel_rfl) rfl rfl (fun K hK => ?_)
        go_wp2_with fail
        refine (edit_any hR4 hC1.ok (by decide) (raw2.getD 0 0) (raw2.getD 1 0) (raw2.getD 2 0) (hgo 0) (hgo 1) (hgo 2)).mono ?_
        rintro e w5 ⟨rfl, ⟨⟨fp5, hR5, hx5⟩, hk5⟩⟩
        refine hK _ _ ?_
        clear hK
        refine wpTail3_last (by kernel_rfl) rfl rfl (fun K hK => ?_)
        go_wp2_with fail
        refine wpTail3_nil ?_
        have okE := hC1.ok.edit (raw2.getD 0 0) (raw2.getD 1 0) (raw2.getD 2 0)
        have hC6 : Calm ((D1.edit (raw2.getD 0 0) (raw2.getD 1 0) (raw2.getD 2 0)).work 500 0 (-1) (decide (0 % 2 ≠ 0))) ev := hC1.step _ _ _
        generalize D1.edit (raw2.getD 0 0) (raw2.getD 1 0) (raw2.getD 2 0) = D5 at hR5 okE hC6
        go_wp2_with fail
        refine (work_any hR5 okE 500 500 (-1) 0 0 rfl rfl (by decide) (by decide) (by decide) (by decide) (by decide) (by decide)).mono ?_
        rintro e w6 ⟨rfl, ⟨⟨fp6, hR6, hx6⟩, hk6⟩⟩
        generalize D5.work 500 0 (-1) (decide (0 % 2 ≠ 0)) = D6 at hR6 hC6
        have hk24 : Kept no w w4 := (hkr.step hk2).step hk4
        have hs4 := hk24.size
        have hge5 : ∀ x ∈ fp5, w.heap.size ≤ x := fun x hx => (hx5 x hx).elim (hge1 x) (fun h => by omega)
        have hk25 : Kept no w w5 := hk24.step' hk5 (fun x hx hlt => by have := hge1 x hx; omega)
        have hge6 : ∀ x ∈ fp6, w.heap.size ≤ x := fun x hx => (hx6 x hx).elim (hge5 x) (fun h => by have := hk25.size; omega)
        have hk26 : Kept no w w6 := hk25.step' hk6 (fun x hx hlt => by have := hge5 x hx; omega)
        obtain ⟨vt, vf, fx, fd, ft, ff, hM, rfl⟩ := hR6
        obtain ⟨hc6, hf6⟩ := cells_of hM.cells
        have h5 : w6.cell? ⟨b, 5, none⟩ = some (.int .i64 (D6.doc.every : Int)) := by rw [hc6]; rfl
        have h6 : w6.cell? ⟨b, 6, none⟩ = some (.int .i64 (D6.doc.counted : Int)) := by rw [hc6]; rfl
        have h7 : w6.cell? ⟨b, 7, none⟩ = some (.int .i64 (D6.most : Int)) := by rw [hc6]; rfl
        have hlt1 : ¬ (D6.doc.counted : Int) ≥ (D6.doc.every : Int) := by have := hC6.ok.doc.counted; omega
        have hlt2 : ¬ (D6.most : Int) > (D6.doc.every : Int) := by have := hC6.ok.most; omega
        have hRr : ∀ n, DeskR (w6.drewN n) b bx1 bd1 D6 (deskFp b fx fd ft ff) := fun n => ⟨_, _, _, _, _, _, hM.kept ((Kept.refl no w6).drewN n) (fun _ _ h => h), rfl⟩
        clear hM hc6 hf6 hR5 hR4 hR2 hR1 hraw2 hraw4 hv
        go_wp2_with fail
        have hd1 : decide (D6.doc.every ≤ D6.doc.counted) = false := by rw [decide_eq_false_iff_not]; omega
        have hd2 : decide (D6.doc.every < D6.most) = false := by rw [decide_eq_false_iff_not]; omega
        go_quiet (fail)
        go_wp2
        exact ⟨⟨i + 1, bx1, bd1, deskFp b fx fd ft ff, D6, by omega, by go_num, hRr _, hC6, hge6, hk26.drewN _⟩, by simp [intOf]; omega⟩
    · have hin : i = n := by omega
      subst hin
      obtain ⟨vt, vf, fx, fd, ft, ff, hM, rfl⟩ := hR1
      obtain ⟨hc, hf⟩ := cells_of hM.cells
      have hr1 := hr.kept hkr (fun _ h => h.elim)
      have hbl : b < wr.heap.size := lt_of_heap hM.cells
      go_wp2_with fail
      refine (look_doc hM.doc).mono ?_
      rintro e w2 ⟨rfl, hk2⟩
      have hM2 := hM.kept hk2 (fun _ _ h => h)
      have h40 : w2.cell? ⟨b, 4, none⟩ = some (sv D1.doc.text) := by rw [(cells_of hM2.cells).1]; rfl
      have h10 : w2.cell? ⟨b, 1, none⟩ = some (.pointer (some ⟨bd1, 0, none⟩)) := by rw [(cells_of hM2.cells).1]; rfl
      have hbl2 : b < w2.heap.size := lt_of_heap hM2.cells
      clear hc hf
      go_wp2_with fail
      obtain ⟨hn3, hsz3, hk3⟩ := new1 w2 (Obj.cells #[.int .i64 (D1.doc.lines.length : Int), .int .i64 (D1.doc.edits : Int), .int .i64 (D1.doc.kind : Int)] viewT)
      have hM3 := hM2.kept hk3 (fun _ _ h => h)
      generalize hV : w2.heap.size = V at hn3 hsz3 ⊢
      generalize w2.alloc (Obj.cells #[.int .i64 (D1.doc.lines.length : Int), .int .i64 (D1.doc.edits : Int), .int .i64 (D1.doc.kind : Int)] viewT) = w3 at hn3 hsz3 hk3 hM3 ⊢
      have hkw3 := (hkr.step hk2).step hk3
      clear h40 h10
      have h4' : w3.cell? ⟨b, 4, none⟩ = some (sv D1.doc.text) := by rw [(cells_of hM3.cells).1]; rfl
      have h1' : w3.cell? ⟨b, 1, none⟩ = some (.pointer (some ⟨bd1, 0, none⟩)) := by rw [(cells_of hM3.cells).1]; rfl
      go_wp2_with fail
      have hVn : V ∉ deskFp b fx fd ft ff := fun hx => by have := hM2.lt V hx; omega
      refine (crash_any hM3.disk hC1.ok.lens (by decide) (by decide) (hr.kept hkw3 (fun _ h => h.elim))).mono ?_
      rintro e w5 ⟨⟨BK, fk, secs, f, rfl, hKD, hsl, hlv, hlf, hkn, hk5⟩⟩
      have hM5 := hM3.kept hk5 (fun _ _ h => h)
      have hR5 : DeskR w5 b bx1 bd1 D1 (deskFp b fx fd ft ff) := ⟨_, _, _, _, _, _, hM5, rfl⟩
      have hn5 := hk5.get hn3 (fun h => h)
      go_wp2_with fail
      refine (back_any hR5 hC1.ok hC1.known (by decide) (by decide) hKD hsl hlv (hC1.ok.file.leaves hlf) hC1.mf hC1.mt (leavesFile_len hC1.ok.lens hlf) (fun x hx hx2' => by have := hkn x hx; have := hM3.lt x hx2'; omega)).mono ?_
      rintro e w6 ⟨rfl, ls, hh, hd, bx', fp', hls, hch, hF, hR6, hok6, hx6, hk6⟩
      have hn6 := hk6.get hn5 hVn
      have hed := hC1.edits
      have hlast := hC1.last
      have hkw6 : Kept no w w6 := (hkw3.step hk5).step' hk6 (fun x hx hlt => by have := hge1 x hx; omega)
      obtain ⟨vt', vf', fx', fd', ft', ff', hM6, rfl⟩ := hR6
      have h4 : w6.cell? ⟨b, 4, none⟩ = some (sv (textOf ls)) := by rw [(cells_of hM6.cells).1]; rfl
      have hv1 : w6.cell? ⟨V, 1, none⟩ = some (.int .i64 (D1.doc.counted : Int)) := by rw [(cells_of hn6).1, ← hed]; rfl
      have hbl6 : b < w6.heap.size := lt_of_heap hM6.cells
      clear h4' h1' hR5 hM5 hM3 hM2 hM hn3 hn5 hn6 hM6 hF
      by_cases h0 : D1.doc.counted = 0
      · have htx := hlast h0 _ hch
        have htx : textOf ls = D1.doc.text := htx
        rw [htx] at h4
        have h00 : (D1.doc.counted : Int) = 0 := by omega
        have htt : (D1.doc.text == D1.doc.text) = true := by simp
        clear hlast h0 hed htx
        go_wp2
        go_ret
        exact ⟨by simp, hkw6⟩
      · have h00 : (D1.doc.counted : Int) > 0 := by omega
        clear hlast h0 hed
        go_wp2
        go_ret
        exact ⟨by simp, hkw6⟩
end Go.Proofs.YtdpfohgkikjeaaaGreat

/- Part 26 of the proof: see its parts. -/
import Derived.Test.YtdpfohgkikjeaaaGreatU25
/- edit: insert1. -/
namespace Go.Proofs.YtdpfohgkikjeaaaGreat
open Go.RowKit
set_option linter.unusedVariables false
set_option linter.unusedSimpArgs false

set_option maxRecDepth 100000 in
set_option maxHeartbeats 20000000 in
theorem edit_insert1 {w b bx bd D fp N L} (h : DeskR w b bx bd D fp) (ok : D.Ok N L) (hN : N ≤ 8000000000000) (kind at_ c : Int) (hkind : RawOk kind) (hat : RawOk at_) (hc : RawOk c) (hK : pickN kind 4 = 1) :
    Calls Tryz.prog 16 #[.pointer (some ⟨b, 0, none⟩), .int .i64 kind, .int .i64 at_, .int .i64 c] w fun e w' => e = .returned (.bool true) ∧ DeskTo w w' b bx bd fp (D.edit kind at_ c) := by
  obtain ⟨vt, vf, fx, fd, ft, ff, hM, rfl⟩ := h
  obtain ⟨hc0, _⟩ := cells_of hM.cells
  have hn60 := ok.doc.text.few
  have hed := ok.edits
  have hpk := pickN_lt at_ (n := D.doc.lines.length + 1) (by omega)
  have hlk := lineN_ok c
  have hlines : D.edit kind at_ c = match D.editLines kind at_ c with
    | none => D
    | some ls => D.edited ls (max D.most (D.doc.counted + 1)) := rfl
  unfold DeskS.editLines at hlines
  go_enter Tryz.func16, Tryz.ntmps16
  go_wp2_with fail
  refine (look_doc hM.doc).mono ?_
  rintro e w1 ⟨rfl, hk1⟩
  have hM1 := hM.kept hk1 (fun _ _ h => h)
  obtain ⟨hn2, hsz2, hk2⟩ := new1 w1 (Obj.cells #[.int .i64 (D.doc.lines.length : Int), .int .i64 (D.doc.edits : Int), .int .i64 (D.doc.kind : Int)] viewT)
  go_wp2_with fail
  have hM2 := hM1.kept hk2 (fun _ _ h => h)
  generalize hV : w1.heap.size = V at hn2 hsz2 ⊢
  generalize w1.alloc (Obj.cells #[.int .i64 (D.doc.lines.length : Int), .int .i64 (D.doc.edits : Int), .int .i64 (D.doc.kind : Int)] viewT) = w2 at hn2 hsz2 hk2 hM2 ⊢
  refine (pick_keep at_ (D.doc.lines.length + 1) _ (by omega) hat (by omega) (by omega) w2).mono ?_
  rintro e w3 ⟨rfl, hw⟩
  rw [hw]
  clear hw
  generalize hI : pickN at_ (D.doc.lines.length + 1) = i at hpk hlines ⊢
  clear hI
  obtain ⟨hcv2, _⟩ := cells_of hn2
  go_wp2_with fail
  refine (line_any c hc w2).mono ?_
  rintro e w3 ⟨rfl, hk3⟩
  generalize hLL : lineN c = l at hlk hlines ⊢
  clear hLL
  have hn3 := hk3.get hn2 (fun h => h)
  have hM3 := hM2.kept hk3 (fun _ _ h => h)
  obtain ⟨hcv3, _⟩ := cells_of hn3
  obtain ⟨hc3, _⟩ := cells_of hM3.cells
  have hk03 : Kept no w w3 := (hk1.step hk2).step hk3
  clear hcv2 hc0
  go_wp2_with fail
  refine (pick_keep kind 4 4 rfl hkind (by decide) (by decide) w3).mono ?_
  rintro e w4 ⟨rfl, hw⟩
  rw [hw]
  clear hw
  rw [hK]
  rw [hK] at hlines
  rw [if_pos (show (1 : Nat) ≤ 1 by decide)] at hlines
  by_cases hk0 : D.doc.kind = 0
  · rw [if_neg (by omega)] at hlines
    by_cases h60 : D.doc.lines.length = 60
    · rw [if_pos h60] at hlines
      have hr : D.doc.insert (i : Int) l = (4, D.doc) := by
        unfold DocS.insert
        rw [if_neg (by omega), if_neg (by omega), if_neg (by simpa using hlk), if_pos h60]
      have hcall := insert_d hM3.doc (i : Int) l (by have := hlk.1; omega) (by omega)
      rw [hr] at hcall
      go_wp2_with fail
      refine hcall.mono ?_
      rintro e w4 ⟨rfl, hT⟩
      obtain ⟨fx4, hM4, hx4⟩ := hM3.doc_to hT
      have hkT := hT.kept
      have hs3 := hk03.size
      have hD' : D.edit kind at_ c = D := hlines
      have hto : DeskTo w w4 b bx bd (deskFp b fx fd ft ff) D := ⟨⟨_, ⟨_, _, _, _, _, _, hM4, rfl⟩, fun x hx => by
        simp only [deskFp, List.mem_cons, List.mem_append] at hx ⊢
        rcases hx with rfl | hx | hx | hx | hx
        · exact .inl (.inl rfl)
        · rcases hx4 x hx with hx | hx
          · exact .inl (.inr (.inl hx))
          · exact .inr (by omega)
        · exact .inl (.inr (.inr (.inl hx)))
        · exact .inl (.inr (.inr (.inr (.inl hx))))
        · exact .inl (.inr (.inr (.inr (.inr hx))))⟩, (hk03.mono (T := fun x => x ∈ deskFp b fx fd ft ff) (fun _ h _ => h.elim)).step' hkT (fun x hx _ => by have hx : x ∈ fx := hx; show x ∈ deskFp b fx fd ft ff; simp [hx])⟩
      have hcv4 : ∀ k, w4.cell? ⟨V, k, none⟩ = #[Value.int .i64 (D.doc.lines.length : Int), .int .i64 (D.doc.edits : Int), .int .i64 (D.doc.kind : Int)][k]? := (cells_of (hkT.get hn3 (fun hx => by have := hM.doc.lt V hx; have := hk1.size; omega))).1
      have HD : Hid (D.edit kind at_ c = D) := hD'
      clear hM4 hcall hlines hD'
      have h60' : (D.doc.lines.length : Int) = 60 := by omega
      go_wp2
      go_ret
      exact ⟨by simp, by rw [HD.out]; exact hto⟩
    · rw [if_neg h60] at hlines
      have hr : D.doc.insert (i : Int) l = (0, (D.doc.setLines (D.doc.lines.take i ++ l :: D.doc.lines.drop i)).edited) := by
        unfold DocS.insert
        rw [if_neg (by omega), if_neg (by omega), if_neg (by simpa using hlk), if_neg h60]
        simp
      generalize (D.doc.lines.take i ++ l :: D.doc.lines.drop i) = ls2 at hr hlines
      have hcall := insert_d hM3.doc (i : Int) l (by have := hlk.1; omega) (by omega)
      rw [hr] at hcall
      go_wp2_with fail
      refine hcall.mono ?_
      rintro e w4 ⟨rfl, hT⟩
      obtain ⟨fx4, hM4, hx4⟩ := hM3.doc_to hT
      have hkT := hT.kept
      have hs3 := hk03.size
      have hD' : D.edit kind at_ c = D.edited ls2 (max D.most (D.doc.counted + 1)) := hlines
      have hkw4 : Kept (fun x => x ∈ deskFp b fx fd ft ff) w w4 := (hk03.mono (T := fun x => x ∈ deskFp b fx fd ft ff) (fun _ h _ => h.elim)).step' hkT (fun x hx _ => by have hx : x ∈ fx := hx; show x ∈ deskFp b fx fd ft ff; simp [hx])
      have hfp4 : ∀ x ∈ deskFp b fx4 fd ft ff, x ∈ deskFp b fx fd ft ff ∨ w.heap.size ≤ x := fun x hx => by
        simp only [deskFp, List.mem_cons, List.mem_append] at hx ⊢
        rcases hx with rfl | hx | hx | hx | hx
        · exact .inl (.inl rfl)
        · rcases hx4 x hx with hx | hx
          · exact .inl (.inr (.inl hx))
          · exact .inr (by omega)
        · exact .inl (.inr (.inr (.inl hx)))
        · exact .inl (.inr (.inr (.inr (.inl hx))))
        · exact .inl (.inr (.inr (.inr (.inr hx))))
      have HD : Hid (D.edit kind at_ c = D.edited ls2 (max D.most (D.doc.counted + 1))) := hD'
      clear hcall hlines hD'
      have hqt : (D.doc.setLines ls2).edited.text = textOf ls2 := by unfold DocS.edited; split <;> rfl
      have hqe : (D.doc.setLines ls2).edited.every = D.doc.every := by unfold DocS.edited; split <;> rfl
      have hqc : (D.doc.setLines ls2).edited.counted = if (D.doc.setLines ls2).edited.kind = 1 then 0 else D.doc.counted + 1 := by
        unfold DocS.edited
        split
        · rfl
        · rw [if_neg (by show ¬ D.doc.kind = 1; omega)]; rfl
      generalize hq : (D.doc.setLines ls2).edited = q at *
      have HQ : Hid ((D.doc.setLines ls2).edited = q) := hq
      clear hq hr
      obtain ⟨hc4, _⟩ := cells_of hM4.cells
      have hcl := ok.doc.counted
      have hev := ok.doc.every2
      have hmo := ok.most
      go_wp2_with fail
      refine (text_doc hM4.doc).mono ?_
      rintro e w5 ⟨rfl, hk5⟩
      have hM5 := hM4.kept hk5 (fun _ _ h => h)
      have hkw5 := hkw4.step (hk5.mono (fun _ h _ => h.elim))
      obtain ⟨hc5, hf5⟩ := cells_of hM5.cells
      go_wp2_with fail
      have hM6 := hM5.store0 (n' := ⟨textOf ls2, D.doc.every, D.doc.counted + 1, D.most⟩) (Kept.cell1 (b := b) (o := 4) (u := sv (textOf ls2)) |>.step (Kept.cell1 (b := b) (o := 6) (u := .int .i64 ((D.doc.counted : Int) + 1)))) (by rw [heap_set_same (heap_set_same hM5.cells)]; simp)
      have hk6 : Kept (fun x => x = b) w5 ((w5.setCell ⟨b, 4, none⟩ (sv (textOf ls2))).setCell ⟨b, 6, none⟩ (.int .i64 ((D.doc.counted : Int) + 1))) := Kept.cell1.step Kept.cell1
      have hs45 := hk5.size
      generalize (w5.setCell ⟨b, 4, none⟩ (sv (textOf ls2))).setCell ⟨b, 6, none⟩ (.int .i64 ((D.doc.counted : Int) + 1)) = w6 at hM6 hk6 ⊢
      have hkw6 : Kept (fun x => x ∈ deskFp b fx fd ft ff) w w6 := hkw5.step' hk6 (fun x e _ => by have e : x = b := e; show x ∈ deskFp b fx fd ft ff; simp [e])
      clear hc4 hc5 hf5
      obtain ⟨hc6, hf6⟩ := cells_of hM6.cells
      have hs6 := hk6.size
      go_quiet (fail)
      have hk67 : Kept no w6 (w6.drewN nq) := (Kept.refl _ _).drewN _
      have hM7 := hM6.kept hk67 (fun _ _ h => h)
      have hkw7 := hkw6.step (hk67.mono (T := fun x => x ∈ deskFp b fx fd ft ff) (fun _ h _ => h.elim))
      generalize w6.drewN nq = w7 at hk67 hM7 hkw7 ⊢
      clear hc6 hf6
      obtain ⟨hc7, hf7⟩ := cells_of hM7.cells
      go_upto_if 109 with fail
      go_cut [] (fun wx => DeskM wx b q D.disk D.mt D.mf ⟨textOf ls2, D.doc.every, D.doc.counted + 1, max D.most (D.doc.counted + 1)⟩ bx bd vt vf fx4 fd ft ff ∧ Kept (fun x => x = b) w7 wx)
      case first =>
        by_cases hgt : D.most < D.doc.counted + 1
        · have hgt' : (D.most : Int) < (D.doc.counted : Int) + 1 := by omega
          go_wp2
          go_meet
          case rel =>
            refine ⟨hM7.store0 Kept.cell1 ?_, Kept.cell1⟩
            rw [heap_set_same hM7.cells, Nat.max_eq_right (by omega)]
            simp
        · have hgt' : ¬ (D.most : Int) < (D.doc.counted : Int) + 1 := by omega
          go_wp2
          go_meet
          case rel =>
            rw [Nat.max_eq_left (by omega)]
            exact ⟨hM7, Kept.refl _ _⟩
      case rest =>
        obtain ⟨hM8, hk8⟩ := hcut
        have hkw8 : Kept (fun x => x ∈ deskFp b fx fd ft ff) w wc := hkw7.step' hk8 (fun x e _ => by have e : x = b := e; show x ∈ deskFp b fx fd ft ff; simp [e])
        have htl : D.mt.length ≤ 8000000000000 := by have := ok.mtN; omega
        by_cases hq1 : q.kind = 1
        · go_wp2_with fail
          refine (begun_yes hM8 hq1 htl).mono ?_
          rintro e w9 ⟨rfl, vt', ft', hM9, hx9, hk9⟩
          go_wp2
          go_ret
          have hs8 := hkw8.size
          refine ⟨by simp, ?_⟩
          rw [HD.out]
          unfold DeskS.edited DeskS.begun
          rw [HQ.out, if_pos (show q.kind = 1 from hq1)]
          rw [if_pos hq1] at hqc
          refine ⟨⟨deskFp b fx4 fd ft' ff, ⟨vt', vf, fx4, fd, ft', ff, ?_, rfl⟩, fun x hx => ?_⟩, hkw8.step' hk9 (fun x hx hlt => (hfp4 x hx).resolve_right (by omega))⟩
          · show DeskM w9 b q D.disk (D.mt ++ [q.text]) D.mf ⟨q.text, q.every, q.counted, _⟩ _ _ _ _ _ _ _ _
            rw [hqt, hqe, hqc]
            exact hM9
          · simp only [deskFp, List.mem_cons, List.mem_append] at hx
            rcases hx with rfl | hx | hx | hx | hx
            · exact hfp4 _ (by simp)
            · exact hfp4 x (by simp [hx])
            · exact hfp4 x (by simp [hx])
            · rcases hx9 x hx with hx | hx
              · exact hfp4 x (by simp [hx])
              · exact .inr (by omega)
            · exact hfp4 x (by simp [hx])
        · go_wp2_with fail
          refine (begun_no hM8 hq1).mono ?_
          rintro e w9 ⟨rfl, hk9⟩
          go_wp2
          go_ret
          refine ⟨by simp, ?_⟩
          rw [HD.out]
          unfold DeskS.edited DeskS.begun
          rw [HQ.out, if_neg (show ¬ q.kind = 1 from hq1)]
          rw [if_neg hq1] at hqc
          refine ⟨⟨deskFp b fx4 fd ft ff, ⟨vt, vf, fx4, fd, ft, ff, ?_, rfl⟩, hfp4⟩, hkw8.step (hk9.mono (fun _ h _ => h.elim))⟩
          show DeskM w9 b q D.disk D.mt D.mf ⟨q.text, q.every, q.counted, _⟩ _ _ _ _ _ _ _ _
          rw [hqt, hqe, hqc]
          exact hM8.kept hk9 (fun _ _ h => h)
  · rw [if_pos hk0] at hlines
    have hr : D.doc.insert (i : Int) l = (5, D.doc) := by
      unfold DocS.insert
      rw [if_pos hk0]
    have hcall := insert_d hM3.doc (i : Int) l (by have := hlk.1; omega) (by omega)
    rw [hr] at hcall
    go_wp2_with fail
    refine hcall.mono ?_
    rintro e w4 ⟨rfl, hT⟩
    obtain ⟨fx4, hM4, hx4⟩ := hM3.doc_to hT
    have hkT := hT.kept
    have hs3 := hk03.size
    have hD' : D.edit kind at_ c = D := hlines
    have hto : DeskTo w w4 b bx bd (deskFp b fx fd ft ff) D := ⟨⟨_, ⟨_, _, _, _, _, _, hM4, rfl⟩, fun x hx => by
      simp only [deskFp, List.mem_cons, List.mem_append] at hx ⊢
      rcases hx with rfl | hx | hx | hx | hx
      · exact .inl (.inl rfl)
      · rcases hx4 x hx with hx | hx
        · exact .inl (.inr (.inl hx))
        · exact .inr (by omega)
      · exact .inl (.inr (.inr (.inl hx)))
      · exact .inl (.inr (.inr (.inr (.inl hx))))
      · exact .inl (.inr (.inr (.inr (.inr hx))))⟩, (hk03.mono (T := fun x => x ∈ deskFp b fx fd ft ff) (fun _ h _ => h.elim)).step' hkT (fun x hx _ => by have hx : x ∈ fx := hx; show x ∈ deskFp b fx fd ft ff; simp [hx])⟩
    have hcv4 : ∀ k, w4.cell? ⟨V, k, none⟩ = #[Value.int .i64 (D.doc.lines.length : Int), .int .i64 (D.doc.edits : Int), .int .i64 (D.doc.kind : Int)][k]? := (cells_of (hkT.get hn3 (fun hx => by have := hM.doc.lt V hx; have := hk1.size; omega))).1
    have HD : Hid (D.edit kind at_ c = D) := hD'
    clear hM4 hcall hlines hD'
    have hk0' : ¬ (D.doc.kind : Int) = 0 := by omega
    go_wp2
    go_ret
    exact ⟨by simp [hk0], by rw [HD.out]; exact hto⟩
end Go.Proofs.YtdpfohgkikjeaaaGreat
/- edit: delete. -/
namespace Go.Proofs.YtdpfohgkikjeaaaGreat
open Go.RowKit
set_option linter.unusedVariables false
set_option linter.unusedSimpArgs false

theorem delete_d {w b d fp} (h : DocR w b d fp) (at_ : Int) (he : d.edits ≤ 8000000000000) :
    Calls Tryz.prog 24 #[.pointer (some ⟨b, 0, none⟩), .int .i64 at_] w fun e w' => e = .returned (.int .i64 ((d.delete at_).1 : Int)) ∧ DocTo w w' b fp (d.delete at_).2 := by
  obtain ⟨va, tfp, afp, h, rfl⟩ := h
  exact delete_doc h at_ he

set_option maxRecDepth 100000 in
set_option maxHeartbeats 20000000 in
theorem edit_delete {w b bx bd D fp N L} (h : DeskR w b bx bd D fp) (ok : D.Ok N L) (hN : N ≤ 8000000000000) (kind at_ c : Int) (hkind : RawOk kind) (hat : RawOk at_) (hc : RawOk c) (hK : pickN kind 4 = 2) :
    Calls Tryz.prog 16 #[.pointer (some ⟨b, 0, none⟩), .int .i64 kind, .int .i64 at_, .int .i64 c] w fun e w' => e = .returned (.bool true) ∧ DeskTo w w' b bx bd fp (D.edit kind at_ c) := by
  obtain ⟨vt, vf, fx, fd, ft, ff, hM, rfl⟩ := h
  obtain ⟨hc0, _⟩ := cells_of hM.cells
  have hn60 := ok.doc.text.few
  have hed := ok.edits
  have hpk := pickN_lt at_ (n := D.doc.lines.length + 1) (by omega)
  have hlk := lineN_ok c
  have hlines : D.edit kind at_ c = match D.editLines kind at_ c with
    | none => D
    | some ls => D.edited ls (max D.most (D.doc.counted + 1)) := rfl
  unfold DeskS.editLines at hlines
  go_enter Tryz.func16, Tryz.ntmps16
  go_wp2_with fail
  refine (look_doc hM.doc).mono ?_
  rintro e w1 ⟨rfl, hk1⟩
  have hM1 := hM.kept hk1 (fun _ _ h => h)
  obtain ⟨hn2, hsz2, hk2⟩ := new1 w1 (Obj.cells #[.int .i64 (D.doc.lines.length : Int), .int .i64 (D.doc.edits : Int), .int .i64 (D.doc.kind : Int)] viewT)
  go_wp2_with fail
  have hM2 := hM1.kept hk2 (fun _ _ h => h)
  generalize hV : w1.heap.size = V at hn2 hsz2 ⊢
  generalize w1.alloc (Obj.cells #[.int .i64 (D.doc.lines.length : Int), .int .i64 (D.doc.edits : Int), .int .i64 (D.doc.kind : Int)] viewT) = w2 at hn2 hsz2 hk2 hM2 ⊢
  refine (pick_keep at_ (D.doc.lines.length + 1) _ (by omega) hat (by omega) (by omega) w2).mono ?_
  rintro e w3 ⟨rfl, hw⟩
  rw [hw]
  clear hw
  generalize hI : pickN at_ (D.doc.lines.length + 1) = i at hpk hlines ⊢
  clear hI
  obtain ⟨hcv2, _⟩ := cells_of hn2
  go_wp2_with fail
  refine (line_any c hc w2).mono ?_
  rintro e w3 ⟨rfl, hk3⟩
  generalize hLL : lineN c = l at hlk hlines ⊢
  clear hLL
  have hn3 := hk3.get hn2 (fun h => h)
  have hM3 := hM2.kept hk3 (fun _ _ h => h)
  obtain ⟨hcv3, _⟩ := cells_of hn3
  obtain ⟨hc3, _⟩ := cells_of hM3.cells
  have hk03 : Kept no w w3 := (hk1.step hk2).step hk3
  clear hcv2 hc0
  go_wp2_with fail
  refine (pick_keep kind 4 4 rfl hkind (by decide) (by decide) w3).mono ?_
  rintro e w4 ⟨rfl, hw⟩
  rw [hw]
  clear hw
  rw [hK]
  rw [hK] at hlines
  rw [if_neg (show ¬ (2 : Nat) ≤ 1 by decide), if_pos (show (2 : Nat) = 2 by decide)] at hlines
  by_cases hk0 : D.doc.kind = 0
  · rw [if_neg (by omega)] at hlines
    by_cases h60 : i = D.doc.lines.length
    · rw [if_pos h60] at hlines
      subst h60
      have hr : D.doc.delete (D.doc.lines.length : Int) = (1, D.doc) := by
        unfold DocS.delete
        rw [if_neg (by omega), if_pos (by omega)]
      have hcall := delete_d hM3.doc (D.doc.lines.length : Int) (by omega)
      rw [hr] at hcall
      go_wp2_with fail
      refine hcall.mono ?_
      rintro e w4 ⟨rfl, hT⟩
      obtain ⟨fx4, hM4, hx4⟩ := hM3.doc_to hT
      have hkT := hT.kept
      have hs3 := hk03.size
      have hD' : D.edit kind at_ c = D := hlines
      have hto : DeskTo w w4 b bx bd (deskFp b fx fd ft ff) D := ⟨⟨_, ⟨_, _, _, _, _, _, hM4, rfl⟩, fun x hx => by
        simp only [deskFp, List.mem_cons, List.mem_append] at hx ⊢
        rcases hx with rfl | hx | hx | hx | hx
        · exact .inl (.inl rfl)
        · rcases hx4 x hx with hx | hx
          · exact .inl (.inr (.inl hx))
          · exact .inr (by omega)
        · exact .inl (.inr (.inr (.inl hx)))
        · exact .inl (.inr (.inr (.inr (.inl hx))))
        · exact .inl (.inr (.inr (.inr (.inr hx))))⟩, (hk03.mono (T := fun x => x ∈ deskFp b fx fd ft ff) (fun _ h _ => h.elim)).step' hkT (fun x hx _ => by have hx : x ∈ fx := hx; show x ∈ deskFp b fx fd ft ff; simp [hx])⟩
      have hcv4 : ∀ k, w4.cell? ⟨V, k, none⟩ = #[Value.int .i64 (D.doc.lines.length : Int), .int .i64 (D.doc.edits : Int), .int .i64 (D.doc.kind : Int)][k]? := (cells_of (hkT.get hn3 (fun hx => by have := hM.doc.lt V hx; have := hk1.size; omega))).1
      have HD : Hid (D.edit kind at_ c = D) := hD'
      clear hM4 hcall hlines hD'
      have hk0' : (D.doc.kind : Int) = 0 := by omega
      go_wp2
      go_ret
      exact ⟨by simp, by rw [HD.out]; exact hto⟩
    · rw [if_neg h60] at hlines
      have hr : D.doc.delete (i : Int) = (0, (D.doc.setLines (D.doc.lines.take i ++ D.doc.lines.drop (i + 1))).edited) := by
        unfold DocS.delete
        rw [if_neg (by omega), if_neg (by omega)]
        simp
      generalize (D.doc.lines.take i ++ D.doc.lines.drop (i + 1)) = ls2 at hr hlines
      have hcall := delete_d hM3.doc (i : Int) (by omega)
      rw [hr] at hcall
      go_wp2_with fail
      refine hcall.mono ?_
      rintro e w4 ⟨rfl, hT⟩
      obtain ⟨fx4, hM4, hx4⟩ := hM3.doc_to hT
      have hkT := hT.kept
      have hs3 := hk03.size
      have hD' : D.edit kind at_ c = D.edited ls2 (max D.most (D.doc.counted + 1)) := hlines
      have hkw4 : Kept (fun x => x ∈ deskFp b fx fd ft ff) w w4 := (hk03.mono (T := fun x => x ∈ deskFp b fx fd ft ff) (fun _ h _ => h.elim)).step' hkT (fun x hx _ => by have hx : x ∈ fx := hx; show x ∈ deskFp b fx fd ft ff; simp [hx])
      have hfp4 : ∀ x ∈ deskFp b fx4 fd ft ff, x ∈ deskFp b fx fd ft ff ∨ w.heap.size ≤ x := fun x hx => by
        simp only [deskFp, List.mem_cons, List.mem_append] at hx ⊢
        rcases hx with rfl | hx | hx | hx | hx
        · exact .inl (.inl rfl)
        · rcases hx4 x hx with hx | hx
          · exact .inl (.inr (.inl hx))
          · exact .inr (by omega)
        · exact .inl (.inr (.inr (.inl hx)))
        · exact .inl (.inr (.inr (.inr (.inl hx))))
        · exact .inl (.inr (.inr (.inr (.inr hx))))
      have HD : Hid (D.edit kind at_ c = D.edited ls2 (max D.most (D.doc.counted + 1))) := hD'
      clear hcall hlines hD'
      have hqt : (D.doc.setLines ls2).edited.text = textOf ls2 := by unfold DocS.edited; split <;> rfl
      have hqe : (D.doc.setLines ls2).edited.every = D.doc.every := by unfold DocS.edited; split <;> rfl
      have hqc : (D.doc.setLines ls2).edited.counted = if (D.doc.setLines ls2).edited.kind = 1 then 0 else D.doc.counted + 1 := by
        unfold DocS.edited
        split
        · rfl
        · rw [if_neg (by show ¬ D.doc.kind = 1; omega)]; rfl
      generalize hq : (D.doc.setLines ls2).edited = q at *
      have HQ : Hid ((D.doc.setLines ls2).edited = q) := hq
      clear hq hr
      obtain ⟨hc4, _⟩ := cells_of hM4.cells
      have hcl := ok.doc.counted
      have hev := ok.doc.every2
      have hmo := ok.most
      go_wp2_with fail
      refine (text_doc hM4.doc).mono ?_
      rintro e w5 ⟨rfl, hk5⟩
      have hM5 := hM4.kept hk5 (fun _ _ h => h)
      have hkw5 := hkw4.step (hk5.mono (fun _ h _ => h.elim))
      obtain ⟨hc5, hf5⟩ := cells_of hM5.cells
      go_wp2_with fail
      have hM6 := hM5.store0 (n' := ⟨textOf ls2, D.doc.every, D.doc.counted + 1, D.most⟩) (Kept.cell1 (b := b) (o := 4) (u := sv (textOf ls2)) |>.step (Kept.cell1 (b := b) (o := 6) (u := .int .i64 ((D.doc.counted : Int) + 1)))) (by rw [heap_set_same (heap_set_same hM5.cells)]; simp)
      have hk6 : Kept (fun x => x = b) w5 ((w5.setCell ⟨b, 4, none⟩ (sv (textOf ls2))).setCell ⟨b, 6, none⟩ (.int .i64 ((D.doc.counted : Int) + 1))) := Kept.cell1.step Kept.cell1
      have hs45 := hk5.size
      generalize (w5.setCell ⟨b, 4, none⟩ (sv (textOf ls2))).setCell ⟨b, 6, none⟩ (.int .i64 ((D.doc.counted : Int) + 1)) = w6 at hM6 hk6 ⊢
      have hkw6 : Kept (fun x => x ∈ deskFp b fx fd ft ff) w w6 := hkw5.step' hk6 (fun x e _ => by have e : x = b := e; show x ∈ deskFp b fx fd ft ff; simp [e])
      clear hc4 hc5 hf5
      obtain ⟨hc6, hf6⟩ := cells_of hM6.cells
      have hs6 := hk6.size
      go_quiet (fail)
      have hk67 : Kept no w6 (w6.drewN nq) := (Kept.refl _ _).drewN _
      have hM7 := hM6.kept hk67 (fun _ _ h => h)
      have hkw7 := hkw6.step (hk67.mono (T := fun x => x ∈ deskFp b fx fd ft ff) (fun _ h _ => h.elim))
      generalize w6.drewN nq = w7 at hk67 hM7 hkw7 ⊢
      clear hc6 hf6
      obtain ⟨hc7, hf7⟩ := cells_of hM7.cells
      go_upto_if 109 with fail
      go_cut [] (fun wx => DeskM wx b q D.disk D.mt D.mf ⟨textOf ls2, D.doc.every, D.doc.counted + 1, max D.most (D.doc.counted + 1)⟩ bx bd vt vf fx4 fd ft ff ∧ Kept (fun x => x = b) w7 wx)
      case first =>
        by_cases hgt : D.most < D.doc.counted + 1
        · have hgt' : (D.most : Int) < (D.doc.counted : Int) + 1 := by omega
          go_wp2
          go_meet
          case rel =>
            refine ⟨hM7.store0 Kept.cell1 ?_, Kept.cell1⟩
            rw [heap_set_same hM7.cells, Nat.max_eq_right (by omega)]
            simp
        · have hgt' : ¬ (D.most : Int) < (D.doc.counted : Int) + 1 := by omega
          go_wp2
          go_meet
          case rel =>
            rw [Nat.max_eq_left (by omega)]
            exact ⟨hM7, Kept.refl _ _⟩
      case rest =>
        obtain ⟨hM8, hk8⟩ := hcut
        have hkw8 : Kept (fun x => x ∈ deskFp b fx fd ft ff) w wc := hkw7.step' hk8 (fun x e _ => by have e : x = b := e; show x ∈ deskFp b fx fd ft ff; simp [e])
        have htl : D.mt.length ≤ 8000000000000 := by have := ok.mtN; omega
        by_cases hq1 : q.kind = 1
        · go_wp2_with fail
          refine (begun_yes hM8 hq1 htl).mono ?_
          rintro e w9 ⟨rfl, vt', ft', hM9, hx9, hk9⟩
          go_wp2
          go_ret
          have hs8 := hkw8.size
          refine ⟨by simp, ?_⟩
          rw [HD.out]
          unfold DeskS.edited DeskS.begun
          rw [HQ.out, if_pos (show q.kind = 1 from hq1)]
          rw [if_pos hq1] at hqc
          refine ⟨⟨deskFp b fx4 fd ft' ff, ⟨vt', vf, fx4, fd, ft', ff, ?_, rfl⟩, fun x hx => ?_⟩, hkw8.step' hk9 (fun x hx hlt => (hfp4 x hx).resolve_right (by omega))⟩
          · show DeskM w9 b q D.disk (D.mt ++ [q.text]) D.mf ⟨q.text, q.every, q.counted, _⟩ _ _ _ _ _ _ _ _
            rw [hqt, hqe, hqc]
            exact hM9
          · simp only [deskFp, List.mem_cons, List.mem_append] at hx
            rcases hx with rfl | hx | hx | hx | hx
            · exact hfp4 _ (by simp)
            · exact hfp4 x (by simp [hx])
            · exact hfp4 x (by simp [hx])
            · rcases hx9 x hx with hx | hx
              · exact hfp4 x (by simp [hx])
              · exact .inr (by omega)
            · exact hfp4 x (by simp [hx])
        · go_wp2_with fail
          refine (begun_no hM8 hq1).mono ?_
          rintro e w9 ⟨rfl, hk9⟩
          go_wp2
          go_ret
          refine ⟨by simp, ?_⟩
          rw [HD.out]
          unfold DeskS.edited DeskS.begun
          rw [HQ.out, if_neg (show ¬ q.kind = 1 from hq1)]
          rw [if_neg hq1] at hqc
          refine ⟨⟨deskFp b fx4 fd ft ff, ⟨vt, vf, fx4, fd, ft, ff, ?_, rfl⟩, hfp4⟩, hkw8.step (hk9.mono (fun _ h _ => h.elim))⟩
          show DeskM w9 b q D.disk D.mt D.mf ⟨q.text, q.every, q.counted, _⟩ _ _ _ _ _ _ _ _
          rw [hqt, hqe, hqc]
          exact hM8.kept hk9 (fun _ _ h => h)
  · rw [if_pos hk0] at hlines
    have hr : D.doc.delete (i : Int) = (5, D.doc) := by
      unfold DocS.delete
      rw [if_pos hk0]
    have hcall := delete_d hM3.doc (i : Int) (by omega)
    rw [hr] at hcall
    go_wp2_with fail
    refine hcall.mono ?_
    rintro e w4 ⟨rfl, hT⟩
    obtain ⟨fx4, hM4, hx4⟩ := hM3.doc_to hT
    have hkT := hT.kept
    have hs3 := hk03.size
    have hD' : D.edit kind at_ c = D := hlines
    have hto : DeskTo w w4 b bx bd (deskFp b fx fd ft ff) D := ⟨⟨_, ⟨_, _, _, _, _, _, hM4, rfl⟩, fun x hx => by
      simp only [deskFp, List.mem_cons, List.mem_append] at hx ⊢
      rcases hx with rfl | hx | hx | hx | hx
      · exact .inl (.inl rfl)
      · rcases hx4 x hx with hx | hx
        · exact .inl (.inr (.inl hx))
        · exact .inr (by omega)
      · exact .inl (.inr (.inr (.inl hx)))
      · exact .inl (.inr (.inr (.inr (.inl hx))))
      · exact .inl (.inr (.inr (.inr (.inr hx))))⟩, (hk03.mono (T := fun x => x ∈ deskFp b fx fd ft ff) (fun _ h _ => h.elim)).step' hkT (fun x hx _ => by have hx : x ∈ fx := hx; show x ∈ deskFp b fx fd ft ff; simp [hx])⟩
    have hcv4 : ∀ k, w4.cell? ⟨V, k, none⟩ = #[Value.int .i64 (D.doc.lines.length : Int), .int .i64 (D.doc.edits : Int), .int .i64 (D.doc.kind : Int)][k]? := (cells_of (hkT.get hn3 (fun hx => by have := hM.doc.lt V hx; have := hk1.size; omega))).1
    have HD : Hid (D.edit kind at_ c = D) := hD'
    clear hM4 hcall hlines hD'
    have hk0' : ¬ (D.doc.kind : Int) = 0 := by omega
    go_wp2
    go_ret
    exact ⟨by simp [hk0], by rw [HD.out]; exact hto⟩
end Go.Proofs.YtdpfohgkikjeaaaGreat
/- edit: replace. -/
namespace Go.Proofs.YtdpfohgkikjeaaaGreat
open Go.RowKit
set_option linter.unusedVariables false
set_option linter.unusedSimpArgs false

set_option maxRecDepth 100000 in
set_option maxHeartbeats 20000000 in
theorem edit_replace {w b bx bd D fp N L} (h : DeskR w b bx bd D fp) (ok : D.Ok N L) (hN : N ≤ 8000000000000) (kind at_ c : Int) (hkind : RawOk kind) (hat : RawOk at_) (hc : RawOk c) (hK : pickN kind 4 = 3) :
    Calls Tryz.prog 16 #[.pointer (some ⟨b, 0, none⟩), .int .i64 kind, .int .i64 at_, .int .i64 c] w fun e w' => e = .returned (.bool true) ∧ DeskTo w w' b bx bd fp (D.edit kind at_ c) := by
  obtain ⟨vt, vf, fx, fd, ft, ff, hM, rfl⟩ := h
  obtain ⟨hc0, _⟩ := cells_of hM.cells
  have hn60 := ok.doc.text.few
  have hed := ok.edits
  have hpk := pickN_lt at_ (n := D.doc.lines.length + 1) (by omega)
  have hlk := lineN_ok c
  have hlines : D.edit kind at_ c = match D.editLines kind at_ c with
    | none => D
    | some ls => D.edited ls (max D.most (D.doc.counted + 1)) := rfl
  unfold DeskS.editLines at hlines
  go_enter Tryz.func16, Tryz.ntmps16
  go_wp2_with fail
  refine (look_doc hM.doc).mono ?_
  rintro e w1 ⟨rfl, hk1⟩
  have hM1 := hM.kept hk1 (fun _ _ h => h)
  obtain ⟨hn2, hsz2, hk2⟩ := new1 w1 (Obj.cells #[.int .i64 (D.doc.lines.length : Int), .int .i64 (D.doc.edits : Int), .int .i64 (D.doc.kind : Int)] viewT)
  go_wp2_with fail
  have hM2 := hM1.kept hk2 (fun _ _ h => h)
  generalize hV : w1.heap.size = V at hn2 hsz2 ⊢
  generalize w1.alloc (Obj.cells #[.int .i64 (D.doc.lines.length : Int), .int .i64 (D.doc.edits : Int), .int .i64 (D.doc.kind : Int)] viewT) = w2 at hn2 hsz2 hk2 hM2 ⊢
  refine (pick_keep at_ (D.doc.lines.length + 1) _ (by omega) hat (by omega) (by omega) w2).mono ?_
  rintro e w3 ⟨rfl, hw⟩
  rw [hw]
  clear hw
  generalize hI : pickN at_ (D.doc.lines.length + 1) = i at hpk hlines ⊢
  clear hI
  obtain ⟨hcv2, _⟩ := cells_of hn2
  go_wp2_with fail
  refine (line_any c hc w2).mono ?_
  rintro e w3 ⟨rfl, hk3⟩
  generalize hLL : lineN c = l at hlk hlines ⊢
  clear hLL
  have hn3 := hk3.get hn2 (fun h => h)
  have hM3 := hM2.kept hk3 (fun _ _ h => h)
  obtain ⟨hcv3, _⟩ := cells_of hn3
  obtain ⟨hc3, _⟩ := cells_of hM3.cells
  have hk03 : Kept no w w3 := (hk1.step hk2).step hk3
  clear hcv2 hc0
  go_wp2_with fail
  refine (pick_keep kind 4 4 rfl hkind (by decide) (by decide) w3).mono ?_
  rintro e w4 ⟨rfl, hw⟩
  rw [hw]
  clear hw
  rw [hK]
  rw [hK] at hlines
  rw [if_neg (show ¬ (3 : Nat) ≤ 1 by decide), if_neg (show ¬ (3 : Nat) = 2 by decide)] at hlines
  by_cases hk0 : D.doc.kind = 0
  · rw [if_neg (by omega)] at hlines
    by_cases h60 : i = D.doc.lines.length
    · rw [if_pos h60] at hlines
      subst h60
      have hr : D.doc.replace (D.doc.lines.length : Int) l = (1, D.doc) := by
        unfold DocS.replace
        rw [if_neg (by omega), if_pos (by omega)]
      have hcall := replace_d hM3.doc (D.doc.lines.length : Int) l (by have := hlk.1; omega) (by omega)
      rw [hr] at hcall
      go_wp2_with fail
      refine hcall.mono ?_
      rintro e w4 ⟨rfl, hT⟩
      obtain ⟨fx4, hM4, hx4⟩ := hM3.doc_to hT
      have hkT := hT.kept
      have hs3 := hk03.size
      have hD' : D.edit kind at_ c = D := hlines
      have hto : DeskTo w w4 b bx bd (deskFp b fx fd ft ff) D := ⟨⟨_, ⟨_, _, _, _, _, _, hM4, rfl⟩, fun x hx => by
        simp only [deskFp, List.mem_cons, List.mem_append] at hx ⊢
        rcases hx with rfl | hx | hx | hx | hx
        · exact .inl (.inl rfl)
        · rcases hx4 x hx with hx | hx
          · exact .inl (.inr (.inl hx))
          · exact .inr (by omega)
        · exact .inl (.inr (.inr (.inl hx)))
        · exact .inl (.inr (.inr (.inr (.inl hx))))
        · exact .inl (.inr (.inr (.inr (.inr hx))))⟩, (hk03.mono (T := fun x => x ∈ deskFp b fx fd ft ff) (fun _ h _ => h.elim)).step' hkT (fun x hx _ => by have hx : x ∈ fx := hx; show x ∈ deskFp b fx fd ft ff; simp [hx])⟩
      have hcv4 : ∀ k, w4.cell? ⟨V, k, none⟩ = #[Value.int .i64 (D.doc.lines.length : Int), .int .i64 (D.doc.edits : Int), .int .i64 (D.doc.kind : Int)][k]? := (cells_of (hkT.get hn3 (fun hx => by have := hM.doc.lt V hx; have := hk1.size; omega))).1
      have HD : Hid (D.edit kind at_ c = D) := hD'
      clear hM4 hcall hlines hD'
      have hk0' : (D.doc.kind : Int) = 0 := by omega
      go_wp2
      go_ret
      exact ⟨by simp, by rw [HD.out]; exact hto⟩
    · rw [if_neg h60] at hlines
      have hr : D.doc.replace (i : Int) l = (0, (D.doc.setLines (D.doc.lines.take i ++ l :: D.doc.lines.drop (i + 1))).edited) := by
        unfold DocS.replace
        rw [if_neg (by omega), if_neg (by omega), if_neg (by simpa using hlk)]
        simp
      generalize (D.doc.lines.take i ++ l :: D.doc.lines.drop (i + 1)) = ls2 at hr hlines
      have hcall := replace_d hM3.doc (i : Int) l (by have := hlk.1; omega) (by omega)
      rw [hr] at hcall
      go_wp2_with fail
      refine hcall.mono ?_
      rintro e w4 ⟨rfl, hT⟩
      obtain ⟨fx4, hM4, hx4⟩ := hM3.doc_to hT
      have hkT := hT.kept
      have hs3 := hk03.size
      have hD' : D.edit kind at_ c = D.edited ls2 (max D.most (D.doc.counted + 1)) := hlines
      have hkw4 : Kept (fun x => x ∈ deskFp b fx fd ft ff) w w4 := (hk03.mono (T := fun x => x ∈ deskFp b fx fd ft ff) (fun _ h _ => h.elim)).step' hkT (fun x hx _ => by have hx : x ∈ fx := hx; show x ∈ deskFp b fx fd ft ff; simp [hx])
      have hfp4 : ∀ x ∈ deskFp b fx4 fd ft ff, x ∈ deskFp b fx fd ft ff ∨ w.heap.size ≤ x := fun x hx => by
        simp only [deskFp, List.mem_cons, List.mem_append] at hx ⊢
        rcases hx with rfl | hx | hx | hx | hx
        · exact .inl (.inl rfl)
        · rcases hx4 x hx with hx | hx
          · exact .inl (.inr (.inl hx))
          · exact .inr (by omega)
        · exact .inl (.inr (.inr (.inl hx)))
        · exact .inl (.inr (.inr (.inr (.inl hx))))
        · exact .inl (.inr (.inr (.inr (.inr hx))))
      have HD : Hid (D.edit kind at_ c = D.edited ls2 (max D.most (D.doc.counted + 1))) := hD'
      clear hcall hlines hD'
      have hqt : (D.doc.setLines ls2).edited.text = textOf ls2 := by unfold DocS.edited; split <;> rfl
      have hqe : (D.doc.setLines ls2).edited.every = D.doc.every := by unfold DocS.edited; split <;> rfl
      have hqc : (D.doc.setLines ls2).edited.counted = if (D.doc.setLines ls2).edited.kind = 1 then 0 else D.doc.counted + 1 := by
        unfold DocS.edited
        split
        · rfl
        · rw [if_neg (by show ¬ D.doc.kind = 1; omega)]; rfl
      generalize hq : (D.doc.setLines ls2).edited = q at *
      have HQ : Hid ((D.doc.setLines ls2).edited = q) := hq
      clear hq hr
      obtain ⟨hc4, _⟩ := cells_of hM4.cells
      have hcl := ok.doc.counted
      have hev := ok.doc.every2
      have hmo := ok.most
      go_wp2_with fail
      refine (text_doc hM4.doc).mono ?_
      rintro e w5 ⟨rfl, hk5⟩
      have hM5 := hM4.kept hk5 (fun _ _ h => h)
      have hkw5 := hkw4.step (hk5.mono (fun _ h _ => h.elim))
      obtain ⟨hc5, hf5⟩ := cells_of hM5.cells
      go_wp2_with fail
      have hM6 := hM5.store0 (n' := ⟨textOf ls2, D.doc.every, D.doc.counted + 1, D.most⟩) (Kept.cell1 (b := b) (o := 4) (u := sv (textOf ls2)) |>.step (Kept.cell1 (b := b) (o := 6) (u := .int .i64 ((D.doc.counted : Int) + 1)))) (by rw [heap_set_same (heap_set_same hM5.cells)]; simp)
      have hk6 : Kept (fun x => x = b) w5 ((w5.setCell ⟨b, 4, none⟩ (sv (textOf ls2))).setCell ⟨b, 6, none⟩ (.int .i64 ((D.doc.counted : Int) + 1))) := Kept.cell1.step Kept.cell1
      have hs45 := hk5.size
      generalize (w5.setCell ⟨b, 4, none⟩ (sv (textOf ls2))).setCell ⟨b, 6, none⟩ (.int .i64 ((D.doc.counted : Int) + 1)) = w6 at hM6 hk6 ⊢
      have hkw6 : Kept (fun x => x ∈ deskFp b fx fd ft ff) w w6 := hkw5.step' hk6 (fun x e _ => by have e : x = b := e; show x ∈ deskFp b fx fd ft ff; simp [e])
      clear hc4 hc5 hf5
      obtain ⟨hc6, hf6⟩ := cells_of hM6.cells
      have hs6 := hk6.size
      go_quiet (fail)
      have hk67 : Kept no w6 (w6.drewN nq) := (Kept.refl _ _).drewN _
      have hM7 := hM6.kept hk67 (fun _ _ h => h)
      have hkw7 := hkw6.step (hk67.mono (T := fun x => x ∈ deskFp b fx fd ft ff) (fun _ h _ => h.elim))
      generalize w6.drewN nq = w7 at hk67 hM7 hkw7 ⊢
      clear hc6 hf6
      obtain ⟨hc7, hf7⟩ := cells_of hM7.cells
      go_upto_if 109 with fail
      go_cut [] (fun wx => DeskM wx b q D.disk D.mt D.mf ⟨textOf ls2, D.doc.every, D.doc.counted + 1, max D.most (D.doc.counted + 1)⟩ bx bd vt vf fx4 fd ft ff ∧ Kept (fun x => x = b) w7 wx)
      case first =>
        by_cases hgt : D.most < D.doc.counted + 1
        · have hgt' : (D.most : Int) < (D.doc.counted : Int) + 1 := by omega
          go_wp2
          go_meet
          case rel =>
            refine ⟨hM7.store0 Kept.cell1 ?_, Kept.cell1⟩
            rw [heap_set_same hM7.cells, Nat.max_eq_right (by omega)]
            simp
        · have hgt' : ¬ (D.most : Int) < (D.doc.counted : Int) + 1 := by omega
          go_wp2
          go_meet
          case rel =>
            rw [Nat.max_eq_left (by omega)]
            exact ⟨hM7, Kept.refl _ _⟩
      case rest =>
        obtain ⟨hM8, hk8⟩ := hcut
        have hkw8 : Kept (fun x => x ∈ deskFp b fx fd ft ff) w wc := hkw7.step' hk8 (fun x e _ => by have e : x = b := e; show x ∈ deskFp b fx fd ft ff; simp [e])
        have htl : D.mt.length ≤ 8000000000000 := by have := ok.mtN; omega
        by_cases hq1 : q.kind = 1
        · go_wp2_with fail
          refine (begun_yes hM8 hq1 htl).mono ?_
          rintro e w9 ⟨rfl, vt', ft', hM9, hx9, hk9⟩
          go_wp2
          go_ret
          have hs8 := hkw8.size
          refine ⟨by simp, ?_⟩
          rw [HD.out]
          unfold DeskS.edited DeskS.begun
          rw [HQ.out, if_pos (show q.kind = 1 from hq1)]
          rw [if_pos hq1] at hqc
          refine ⟨⟨deskFp b fx4 fd ft' ff, ⟨vt', vf, fx4, fd, ft', ff, ?_, rfl⟩, fun x hx => ?_⟩, hkw8.step' hk9 (fun x hx hlt => (hfp4 x hx).resolve_right (by omega))⟩
          · show DeskM w9 b q D.disk (D.mt ++ [q.text]) D.mf ⟨q.text, q.every, q.counted, _⟩ _ _ _ _ _ _ _ _
            rw [hqt, hqe, hqc]
            exact hM9
          · simp only [deskFp, List.mem_cons, List.mem_append] at hx
            rcases hx with rfl | hx | hx | hx | hx
            · exact hfp4 _ (by simp)
            · exact hfp4 x (by simp [hx])
            · exact hfp4 x (by simp [hx])
            · rcases hx9 x hx with hx | hx
              · exact hfp4 x (by simp [hx])
              · exact .inr (by omega)
            · exact hfp4 x (by simp [hx])
        · go_wp2_with fail
          refine (begun_no hM8 hq1).mono ?_
          rintro e w9 ⟨rfl, hk9⟩
          go_wp2
          go_ret
          refine ⟨by simp, ?_⟩
          rw [HD.out]
          unfold DeskS.edited DeskS.begun
          rw [HQ.out, if_neg (show ¬ q.kind = 1 from hq1)]
          rw [if_neg hq1] at hqc
          refine ⟨⟨deskFp b fx4 fd ft ff, ⟨vt, vf, fx4, fd, ft, ff, ?_, rfl⟩, hfp4⟩, hkw8.step (hk9.mono (fun _ h _ => h.elim))⟩
          show DeskM w9 b q D.disk D.mt D.mf ⟨q.text, q.every, q.counted, _⟩ _ _ _ _ _ _ _ _
          rw [hqt, hqe, hqc]
          exact hM8.kept hk9 (fun _ _ h => h)
  · rw [if_pos hk0] at hlines
    have hr : D.doc.replace (i : Int) l = (5, D.doc) := by
      unfold DocS.replace
      rw [if_pos hk0]
    have hcall := replace_d hM3.doc (i : Int) l (by have := hlk.1; omega) (by omega)
    rw [hr] at hcall
    go_wp2_with fail
    refine hcall.mono ?_
    rintro e w4 ⟨rfl, hT⟩
    obtain ⟨fx4, hM4, hx4⟩ := hM3.doc_to hT
    have hkT := hT.kept
    have hs3 := hk03.size
    have hD' : D.edit kind at_ c = D := hlines
    have hto : DeskTo w w4 b bx bd (deskFp b fx fd ft ff) D := ⟨⟨_, ⟨_, _, _, _, _, _, hM4, rfl⟩, fun x hx => by
      simp only [deskFp, List.mem_cons, List.mem_append] at hx ⊢
      rcases hx with rfl | hx | hx | hx | hx
      · exact .inl (.inl rfl)
      · rcases hx4 x hx with hx | hx
        · exact .inl (.inr (.inl hx))
        · exact .inr (by omega)
      · exact .inl (.inr (.inr (.inl hx)))
      · exact .inl (.inr (.inr (.inr (.inl hx))))
      · exact .inl (.inr (.inr (.inr (.inr hx))))⟩, (hk03.mono (T := fun x => x ∈ deskFp b fx fd ft ff) (fun _ h _ => h.elim)).step' hkT (fun x hx _ => by have hx : x ∈ fx := hx; show x ∈ deskFp b fx fd ft ff; simp [hx])⟩
    have hcv4 : ∀ k, w4.cell? ⟨V, k, none⟩ = #[Value.int .i64 (D.doc.lines.length : Int), .int .i64 (D.doc.edits : Int), .int .i64 (D.doc.kind : Int)][k]? := (cells_of (hkT.get hn3 (fun hx => by have := hM.doc.lt V hx; have := hk1.size; omega))).1
    have HD : Hid (D.edit kind at_ c = D) := hD'
    clear hM4 hcall hlines hD'
    have hk0' : ¬ (D.doc.kind : Int) = 0 := by omega
    go_wp2
    go_ret
    exact ⟨by simp [hk0], by rw [HD.out]; exact hto⟩
end Go.Proofs.YtdpfohgkikjeaaaGreat

/- Part W 11 of the proof: see its parts. -/
import Derived.Test.YtdpfohgkikjeaaaGreatW10
/- edit: insert0. -/
namespace Go.Proofs.YtdpfohgkikjeaaaGreat
open Go.RowKit
set_option linter.unusedVariables false
set_option linter.unusedSimpArgs false

set_option maxRecDepth 100000 in
set_option maxHeartbeats 20000000 in
theorem edit_insert0 {w b bx bd D fp N L} (h : DeskR w b bx bd D fp) (ok : D.Ok N L) (hN : N ≤ 1000000000000) (kind at_ c : Int) (hkind : RawOk kind) (hat : RawOk at_) (hc : RawOk c) (hK : pickN kind 4 = 0) :
    Calls Tryz.prog 16 #[.pointer (some ⟨b, 0, none⟩), .int .i64 kind, .int .i64 at_, .int .i64 c] w fun e w' => e = .returned (.bool true) ∧ DeskTo w w' b bx bd fp (D.edit kind at_ c) := by
  obtain ⟨vt, vf, fx, fd, ft, ff, hM, rfl⟩ := h
  obtain ⟨hc0, _⟩ := cells_of hM.cells
  have hn60 := ok.doc.text.few
  have hed := ok.edits
  have hpk := pickN_lt at_ (n := D.doc.lines.length + 1) (by omega)
  have hlk := lineN_ok c
  have hlines : D.edit kind at_ c = match D.editLines kind at_ c with
    | none => D
    | some ls => D.edited ls (max D.most (D.doc.counted + 1)) := rfl
  unfold DeskS.editLines at hlines
  go_enter Tryz.func16, Tryz.ntmps16
  go_wp2_with fail
  refine (look_doc hM.doc).mono ?_
  rintro e w1 ⟨rfl, hk1⟩
  have hM1 := hM.kept hk1 (fun _ _ h => h)
  obtain ⟨hn2, hsz2, hk2⟩ := new1 w1 (Obj.cells #[.int .i64 (D.doc.lines.length : Int), .int .i64 (D.doc.edits : Int), .int .i64 (D.doc.kind : Int)] viewT)
  go_wp2_with fail
  have hM2 := hM1.kept hk2 (fun _ _ h => h)
  generalize hV : w1.heap.size = V at hn2 hsz2 ⊢
  generalize w1.alloc (Obj.cells #[.int .i64 (D.doc.lines.length : Int), .int .i64 (D.doc.edits : Int), .int .i64 (D.doc.kind : Int)] viewT) = w2 at hn2 hsz2 hk2 hM2 ⊢
  refine (pick_keep at_ (D.doc.lines.length + 1) _ (by omega) hat (by omega) (by omega) w2).mono ?_
  rintro e w3 ⟨rfl, hw⟩
  rw [hw]
  clear hw
  generalize hI : pickN at_ (D.doc.lines.length + 1) = i at hpk hlines ⊢
  clear hI
  obtain ⟨hcv2, _⟩ := cells_of hn2
  go_wp2_with fail
  refine (line_any c hc w2).mono ?_
  rintro e w3 ⟨rfl, hk3⟩
  generalize hLL : lineN c = l at hlk hlines ⊢
  clear hLL
  have hn3 := hk3.get hn2 (fun h => h)
  have hM3 := hM2.kept hk3 (fun _ _ h => h)
  obtain ⟨hcv3, _⟩ := cells_of hn3
  obtain ⟨hc3, _⟩ := cells_of hM3.cells
  have hk03 : Kept no w w3 := (hk1.step hk2).step hk3
  clear hcv2 hc0
  go_wp2_with fail
  refine (pick_keep kind 4 4 rfl hkind (by decide) (by decide) w3).mono ?_
  rintro e w4 ⟨rfl, hw⟩
  rw [hw]
  clear hw
  rw [hK]
  rw [hK] at hlines
  rw [if_pos (show (0 : Nat) ≤ 1 by decide)] at hlines
  by_cases hk0 : D.doc.kind = 0
  · rw [if_neg (by omega)] at hlines
    by_cases h60 : D.doc.lines.length = 60
    · rw [if_pos h60] at hlines
      have hr : D.doc.insert (i : Int) l = (4, D.doc) := by
        unfold DocS.insert
        rw [if_neg (by omega), if_neg (by omega), if_neg (by simpa using hlk), if_pos h60]
      have hcall := insert_d hM3.doc (i : Int) l (by have := hlk.1; omega) (by omega)
      rw [hr] at hcall
      go_wp2_with fail
      refine hcall.mono ?_
      rintro e w4 ⟨rfl, hT⟩
      obtain ⟨fx4, hM4, hx4⟩ := hM3.doc_to hT
      have hkT := hT.kept
      have hs3 := hk03.size
      have hD' : D.edit kind at_ c = D := hlines
      have hto : DeskTo w w4 b bx bd (deskFp b fx fd ft ff) D := ⟨⟨_, ⟨_, _, _, _, _, _, hM4, rfl⟩, fun x hx => by
        simp only [deskFp, List.mem_cons, List.mem_append] at hx ⊢
        rcases hx with rfl | hx | hx | hx | hx
        · exact .inl (.inl rfl)
        · rcases hx4 x hx with hx | hx
          · exact .inl (.inr (.inl hx))
          · exact .inr (by omega)
        · exact .inl (.inr (.inr (.inl hx)))
        · exact .inl (.inr (.inr (.inr (.inl hx))))
        · exact .inl (.inr (.inr (.inr (.inr hx))))⟩, (hk03.mono (T := fun x => x ∈ deskFp b fx fd ft ff) (fun _ h _ => h.elim)).step' hkT (fun x hx _ => by have hx : x ∈ fx := hx; show x ∈ deskFp b fx fd ft ff; simp [hx])⟩
      have hcv4 : ∀ k, w4.cell? ⟨V, k, none⟩ = #[Value.int .i64 (D.doc.lines.length : Int), .int .i64 (D.doc.edits : Int), .int .i64 (D.doc.kind : Int)][k]? := (cells_of (hkT.get hn3 (fun hx => by have := hM.doc.lt V hx; have := hk1.size; omega))).1
      have HD : Hid (D.edit kind at_ c = D) := hD'
      clear hM4 hcall hlines hD'
      have h60' : (D.doc.lines.length : Int) = 60 := by omega
      go_wp2
      go_ret
      exact ⟨by simp, by rw [HD.out]; exact hto⟩
    · rw [if_neg h60] at hlines
      have hr : D.doc.insert (i : Int) l = (0, (D.doc.setLines (D.doc.lines.take i ++ l :: D.doc.lines.drop i)).edited) := by
        unfold DocS.insert
        rw [if_neg (by omega), if_neg (by omega), if_neg (by simpa using hlk), if_neg h60]
        simp
      generalize (D.doc.lines.take i ++ l :: D.doc.lines.drop i) = ls2 at hr hlines
      have hcall := insert_d hM3.doc (i : Int) l (by have := hlk.1; omega) (by omega)
      rw [hr] at hcall
      go_wp2_with fail
      refine hcall.mono ?_
      rintro e w4 ⟨rfl, hT⟩
      obtain ⟨fx4, hM4, hx4⟩ := hM3.doc_to hT
      have hkT := hT.kept
      have hs3 := hk03.size
      have hD' : D.edit kind at_ c = D.edited ls2 (max D.most (D.doc.counted + 1)) := hlines
      have hkw4 : Kept (fun x => x ∈ deskFp b fx fd ft ff) w w4 := (hk03.mono (T := fun x => x ∈ deskFp b fx fd ft ff) (fun _ h _ => h.elim)).step' hkT (fun x hx _ => by have hx : x ∈ fx := hx; show x ∈ deskFp b fx fd ft ff; simp [hx])
      have hfp4 : ∀ x ∈ deskFp b fx4 fd ft ff, x ∈ deskFp b fx fd ft ff ∨ w.heap.size ≤ x := fun x hx => by
        simp only [deskFp, List.mem_cons, List.mem_append] at hx ⊢
        rcases hx with rfl | hx | hx | hx | hx
        · exact .inl (.inl rfl)
        · rcases hx4 x hx with hx | hx
          · exact .inl (.inr (.inl hx))
          · exact .inr (by omega)
        · exact .inl (.inr (.inr (.inl hx)))
        · exact .inl (.inr (.inr (.inr (.inl hx))))
        · exact .inl (.inr (.inr (.inr (.inr hx))))
      have HD : Hid (D.edit kind at_ c = D.edited ls2 (max D.most (D.doc.counted + 1))) := hD'
      clear hcall hlines hD'
      have hqt : (D.doc.setLines ls2).edited.text = textOf ls2 := by unfold DocS.edited; split <;> rfl
      have hqe : (D.doc.setLines ls2).edited.every = D.doc.every := by unfold DocS.edited; split <;> rfl
      have hqc : (D.doc.setLines ls2).edited.counted = if (D.doc.setLines ls2).edited.kind = 1 then 0 else D.doc.counted + 1 := by
        unfold DocS.edited
        split
        · rfl
        · rw [if_neg (by show ¬ D.doc.kind = 1; omega)]; rfl
      generalize hq : (D.doc.setLines ls2).edited = q at *
      have HQ : Hid ((D.doc.setLines ls2).edited = q) := hq
      clear hq hr
      obtain ⟨hc4, _⟩ := cells_of hM4.cells
      have hcl := ok.doc.counted
      have hev := ok.doc.every2
      have hmo := ok.most
      go_wp2_with fail
      refine (text_doc hM4.doc).mono ?_
      rintro e w5 ⟨rfl, hk5⟩
      have hM5 := hM4.kept hk5 (fun _ _ h => h)
      have hkw5 := hkw4.step (hk5.mono (fun _ h _ => h.elim))
      obtain ⟨hc5, hf5⟩ := cells_of hM5.cells
      go_wp2_with fail
      have hM6 := hM5.store0 (n' := ⟨textOf ls2, D.doc.every, D.doc.counted + 1, D.most⟩) (Kept.cell1 (b := b) (o := 4) (u := sv (textOf ls2)) |>.step (Kept.cell1 (b := b) (o := 6) (u := .int .i64 ((D.doc.counted : Int) + 1)))) (by rw [heap_set_same (heap_set_same hM5.cells)]; simp)
      have hk6 : Kept (fun x => x = b) w5 ((w5.setCell ⟨b, 4, none⟩ (sv (textOf ls2))).setCell ⟨b, 6, none⟩ (.int .i64 ((D.doc.counted : Int) + 1))) := Kept.cell1.step Kept.cell1
      have hs45 := hk5.size
      generalize (w5.setCell ⟨b, 4, none⟩ (sv (textOf ls2))).setCell ⟨b, 6, none⟩ (.int .i64 ((D.doc.counted : Int) + 1)) = w6 at hM6 hk6 ⊢
      have hkw6 : Kept (fun x => x ∈ deskFp b fx fd ft ff) w w6 := hkw5.step' hk6 (fun x e _ => by have e : x = b := e; show x ∈ deskFp b fx fd ft ff; simp [e])
      clear hc4 hc5 hf5
      obtain ⟨hc6, hf6⟩ := cells_of hM6.cells
      have hs6 := hk6.size
      go_quiet (fail)
      have hk67 : Kept no w6 (w6.drewN nq) := (Kept.refl _ _).drewN _
      have hM7 := hM6.kept hk67 (fun _ _ h => h)
      have hkw7 := hkw6.step (hk67.mono (T := fun x => x ∈ deskFp b fx fd ft ff) (fun _ h _ => h.elim))
      generalize w6.drewN nq = w7 at hk67 hM7 hkw7 ⊢
      clear hc6 hf6
      obtain ⟨hc7, hf7⟩ := cells_of hM7.cells
      go_upto_if 109 with fail
      go_cut [] (fun wx => DeskM wx b q D.disk D.mt D.mf ⟨textOf ls2, D.doc.every, D.doc.counted + 1, max D.most (D.doc.counted + 1)⟩ bx bd vt vf fx4 fd ft ff ∧ Kept (fun x => x = b) w7 wx)
      case first =>
        by_cases hgt : D.most < D.doc.counted + 1
        · have hgt' : (D.most : Int) < (D.doc.counted : Int) + 1 := by omega
          go_wp2
          go_meet
          case rel =>
            refine ⟨hM7.store0 Kept.cell1 ?_, Kept.cell1⟩
            rw [heap_set_same hM7.cells, Nat.max_eq_right (by omega)]
            simp
        · have hgt' : ¬ (D.most : Int) < (D.doc.counted : Int) + 1 := by omega
          go_wp2
          go_meet
          case rel =>
            rw [Nat.max_eq_left (by omega)]
            exact ⟨hM7, Kept.refl _ _⟩
      case rest =>
        obtain ⟨hM8, hk8⟩ := hcut
        have hkw8 : Kept (fun x => x ∈ deskFp b fx fd ft ff) w wc := hkw7.step' hk8 (fun x e _ => by have e : x = b := e; show x ∈ deskFp b fx fd ft ff; simp [e])
        have htl : D.mt.length ≤ 1000000000000 := by have := ok.mtN; omega
        by_cases hq1 : q.kind = 1
        · go_wp2_with fail
          refine (begun_yes hM8 hq1 htl).mono ?_
          rintro e w9 ⟨rfl, vt', ft', hM9, hx9, hk9⟩
          go_wp2
          go_ret
          have hs8 := hkw8.size
          refine ⟨by simp, ?_⟩
          rw [HD.out]
          unfold DeskS.edited DeskS.begun
          rw [HQ.out, if_pos (show q.kind = 1 from hq1)]
          rw [if_pos hq1] at hqc
          refine ⟨⟨deskFp b fx4 fd ft' ff, ⟨vt', vf, fx4, fd, ft', ff, ?_, rfl⟩, fun x hx => ?_⟩, hkw8.step' hk9 (fun x hx hlt => (hfp4 x hx).resolve_right (by omega))⟩
          · show DeskM w9 b q D.disk (D.mt ++ [q.text]) D.mf ⟨q.text, q.every, q.counted, _⟩ _ _ _ _ _ _ _ _
            rw [hqt, hqe, hqc]
            exact hM9
          · simp only [deskFp, List.mem_cons, List.mem_append] at hx
            rcases hx with rfl | hx | hx | hx | hx
            · exact hfp4 _ (by simp)
            · exact hfp4 x (by simp [hx])
            · exact hfp4 x (by simp [hx])
            · rcases hx9 x hx with hx | hx
              · exact hfp4 x (by simp [hx])
              · exact .inr (by omega)
            · exact hfp4 x (by simp [hx])
        · go_wp2_with fail
          refine (begun_no hM8 hq1).mono ?_
          rintro e w9 ⟨rfl, hk9⟩
          go_wp2
          go_ret
          refine ⟨by simp, ?_⟩
          rw [HD.out]
          unfold DeskS.edited DeskS.begun
          rw [HQ.out, if_neg (show ¬ q.kind = 1 from hq1)]
          rw [if_neg hq1] at hqc
          refine ⟨⟨deskFp b fx4 fd ft ff, ⟨vt, vf, fx4, fd, ft, ff, ?_, rfl⟩, hfp4⟩, hkw8.step (hk9.mono (fun _ h _ => h.elim))⟩
          show DeskM w9 b q D.disk D.mt D.mf ⟨q.text, q.every, q.counted, _⟩ _ _ _ _ _ _ _ _
          rw [hqt, hqe, hqc]
          exact hM8.kept hk9 (fun _ _ h => h)
  · rw [if_pos hk0] at hlines
    have hr : D.doc.insert (i : Int) l = (5, D.doc) := by
      unfold DocS.insert
      rw [if_pos hk0]
    have hcall := insert_d hM3.doc (i : Int) l (by have := hlk.1; omega) (by omega)
    rw [hr] at hcall
    go_wp2_with fail
    refine hcall.mono ?_
    rintro e w4 ⟨rfl, hT⟩
    obtain ⟨fx4, hM4, hx4⟩ := hM3.doc_to hT
    have hkT := hT.kept
    have hs3 := hk03.size
    have hD' : D.edit kind at_ c = D := hlines
    have hto : DeskTo w w4 b bx bd (deskFp b fx fd ft ff) D := ⟨⟨_, ⟨_, _, _, _, _, _, hM4, rfl⟩, fun x hx => by
      simp only [deskFp, List.mem_cons, List.mem_append] at hx ⊢
      rcases hx with rfl | hx | hx | hx | hx
      · exact .inl (.inl rfl)
      · rcases hx4 x hx with hx | hx
        · exact .inl (.inr (.inl hx))
        · exact .inr (by omega)
      · exact .inl (.inr (.inr (.inl hx)))
      · exact .inl (.inr (.inr (.inr (.inl hx))))
      · exact .inl (.inr (.inr (.inr (.inr hx))))⟩, (hk03.mono (T := fun x => x ∈ deskFp b fx fd ft ff) (fun _ h _ => h.elim)).step' hkT (fun x hx _ => by have hx : x ∈ fx := hx; show x ∈ deskFp b fx fd ft ff; simp [hx])⟩
    have hcv4 : ∀ k, w4.cell? ⟨V, k, none⟩ = #[Value.int .i64 (D.doc.lines.length : Int), .int .i64 (D.doc.edits : Int), .int .i64 (D.doc.kind : Int)][k]? := (cells_of (hkT.get hn3 (fun hx => by have := hM.doc.lt V hx; have := hk1.size; omega))).1
    have HD : Hid (D.edit kind at_ c = D) := hD'
    clear hM4 hcall hlines hD'
    have hk0' : ¬ (D.doc.kind : Int) = 0 := by omega
    go_wp2
    go_ret
    exact ⟨by simp [hk0], by rw [HD.out]; exact hto⟩
end Go.Proofs.YtdpfohgkikjeaaaGreat
/- edit: insert1. -/
namespace Go.Proofs.YtdpfohgkikjeaaaGreat
open Go.RowKit
set_option linter.unusedVariables false
set_option linter.unusedSimpArgs false

set_option maxRecDepth 100000 in
set_option maxHeartbeats 20000000 in
theorem edit_insert1 {w b bx bd D fp N L} (h : DeskR w b bx bd D fp) (ok : D.Ok N L) (hN : N ≤ 1000000000000) (kind at_ c : Int) (hkind : RawOk kind) (hat : RawOk at_) (hc : RawOk c) (hK : pickN kind 4 = 1) :
    Calls Tryz.prog 16 #[.pointer (some ⟨b, 0, none⟩), .int .i64 kind, .int .i64 at_, .int .i64 c] w fun e w' => e = .returned (.bool true) ∧ DeskTo w w' b bx bd fp (D.edit kind at_ c) := by
  obtain ⟨vt, vf, fx, fd, ft, ff, hM, rfl⟩ := h
  obtain ⟨hc0, _⟩ := cells_of hM.cells
  have hn60 := ok.doc.text.few
  have hed := ok.edits
  have hpk := pickN_lt at_ (n := D.doc.lines.length + 1) (by omega)
  have hlk := lineN_ok c
  have hlines : D.edit kind at_ c = match D.editLines kind at_ c with
    | none => D
    | some ls => D.edited ls (max D.most (D.doc.counted + 1)) := rfl
  unfold DeskS.editLines at hlines
  go_enter Tryz.func16, Tryz.ntmps16
  go_wp2_with fail
  refine (look_doc hM.doc).mono ?_
  rintro e w1 ⟨rfl, hk1⟩
  have hM1 := hM.kept hk1 (fun _ _ h => h)
  obtain ⟨hn2, hsz2, hk2⟩ := new1 w1 (Obj.cells #[.int .i64 (D.doc.lines.length : Int), .int .i64 (D.doc.edits : Int), .int .i64 (D.doc.kind : Int)] viewT)
  go_wp2_with fail
  have hM2 := hM1.kept hk2 (fun _ _ h => h)
  generalize hV : w1.heap.size = V at hn2 hsz2 ⊢
  generalize w1.alloc (Obj.cells #[.int .i64 (D.doc.lines.length : Int), .int .i64 (D.doc.edits : Int), .int .i64 (D.doc.kind : Int)] viewT) = w2 at hn2 hsz2 hk2 hM2 ⊢
  refine (pick_keep at_ (D.doc.lines.length + 1) _ (by omega) hat (by omega) (by omega) w2).mono ?_
  rintro e w3 ⟨rfl, hw⟩
  rw [hw]
  clear hw
  generalize hI : pickN at_ (D.doc.lines.length + 1) = i at hpk hlines ⊢
  clear hI
  obtain ⟨hcv2, _⟩ := cells_of hn2
  go_wp2_with fail
  refine (line_any c hc w2).mono ?_
  rintro e w3 ⟨rfl, hk3⟩
  generalize hLL : lineN c = l at hlk hlines ⊢
  clear hLL
  have hn3 := hk3.get hn2 (fun h => h)
  have hM3 := hM2.kept hk3 (fun _ _ h => h)
  obtain ⟨hcv3, _⟩ := cells_of hn3
  obtain ⟨hc3, _⟩ := cells_of hM3.cells
  have hk03 : Kept no w w3 := (hk1.step hk2).step hk3
  clear hcv2 hc0
  go_wp2_with fail
  refine (pick_keep kind 4 4 rfl hkind (by decide) (by decide) w3).mono ?_
  rintro e w4 ⟨rfl, hw⟩
  rw [hw]
  clear hw
  rw [hK]
  rw [hK] at hlines
  rw [if_pos (show (1 : Nat) ≤ 1 by decide)] at hlines
  by_cases hk0 : D.doc.kind = 0
  · rw [if_neg (by omega)] at hlines
    by_cases h60 : D.doc.lines.length = 60
    · rw [if_pos h60] at hlines
      have hr : D.doc.insert (i : Int) l = (4, D.doc) := by
        unfold DocS.insert
        rw [if_neg (by omega), if_neg (by omega), if_neg (by simpa using hlk), if_pos h60]
      have hcall := insert_d hM3.doc (i : Int) l (by have := hlk.1; omega) (by omega)
      rw [hr] at hcall
      go_wp2_with fail
      refine hcall.mono ?_
      rintro e w4 ⟨rfl, hT⟩
      obtain ⟨fx4, hM4, hx4⟩ := hM3.doc_to hT
      have hkT := hT.kept
      have hs3 := hk03.size
      have hD' : D.edit kind at_ c = D := hlines
      have hto : DeskTo w w4 b bx bd (deskFp b fx fd ft ff) D := ⟨⟨_, ⟨_, _, _, _, _, _, hM4, rfl⟩, fun x hx => by
        simp only [deskFp, List.mem_cons, List.mem_append] at hx ⊢
        rcases hx with rfl | hx | hx | hx | hx
        · exact .inl (.inl rfl)
        · rcases hx4 x hx with hx | hx
          · exact .inl (.inr (.inl hx))
          · exact .inr (by omega)
        · exact .inl (.inr (.inr (.inl hx)))
        · exact .inl (.inr (.inr (.inr (.inl hx))))
        · exact .inl (.inr (.inr (.inr (.inr hx))))⟩, (hk03.mono (T := fun x => x ∈ deskFp b fx fd ft ff) (fun _ h _ => h.elim)).step' hkT (fun x hx _ => by have hx : x ∈ fx := hx; show x ∈ deskFp b fx fd ft ff; simp [hx])⟩
      have hcv4 : ∀ k, w4.cell? ⟨V, k, none⟩ = #[Value.int .i64 (D.doc.lines.length : Int), .int .i64 (D.doc.edits : Int), .int .i64 (D.doc.kind : Int)][k]? := (cells_of (hkT.get hn3 (fun hx => by have := hM.doc.lt V hx; have := hk1.size; omega))).1
      have HD : Hid (D.edit kind at_ c = D) := hD'
      clear hM4 hcall hlines hD'
      have h60' : (D.doc.lines.length : Int) = 60 := by omega
      go_wp2
      go_ret
      exact ⟨by simp, by rw [HD.out]; exact hto⟩
    · rw [if_neg h60] at hlines
      have hr : D.doc.insert (i : Int) l = (0, (D.doc.setLines (D.doc.lines.take i ++ l :: D.doc.lines.drop i)).edited) := by
        unfold DocS.insert
        rw [if_neg (by omega), if_neg (by omega), if_neg (by simpa using hlk), if_neg h60]
        simp
      generalize (D.doc.lines.take i ++ l :: D.doc.lines.drop i) = ls2 at hr hlines
      have hcall := insert_d hM3.doc (i : Int) l (by have := hlk.1; omega) (by omega)
      rw [hr] at hcall
      go_wp2_with fail
      refine hcall.mono ?_
      rintro e w4 ⟨rfl, hT⟩
      obtain ⟨fx4, hM4, hx4⟩ := hM3.doc_to hT
      have hkT := hT.kept
      have hs3 := hk03.size
      have hD' : D.edit kind at_ c = D.edited ls2 (max D.most (D.doc.counted + 1)) := hlines
      have hkw4 : Kept (fun x => x ∈ deskFp b fx fd ft ff) w w4 := (hk03.mono (T := fun x => x ∈ deskFp b fx fd ft ff) (fun _ h _ => h.elim)).step' hkT (fun x hx _ => by have hx : x ∈ fx := hx; show x ∈ deskFp b fx fd ft ff; simp [hx])
      have hfp4 : ∀ x ∈ deskFp b fx4 fd ft ff, x ∈ deskFp b fx fd ft ff ∨ w.heap.size ≤ x := fun x hx => by
        simp only [deskFp, List.mem_cons, List.mem_append] at hx ⊢
        rcases hx with rfl | hx | hx | hx | hx
        · exact .inl (.inl rfl)
        · rcases hx4 x hx with hx | hx
          · exact .inl (.inr (.inl hx))
          · exact .inr (by omega)
        · exact .inl (.inr (.inr (.inl hx)))
        · exact .inl (.inr (.inr (.inr (.inl hx))))
        · exact .inl (.inr (.inr (.inr (.inr hx))))
      have HD : Hid (D.edit kind at_ c = D.edited ls2 (max D.most (D.doc.counted + 1))) := hD'
      clear hcall hlines hD'
      have hqt : (D.doc.setLines ls2).edited.text = textOf ls2 := by unfold DocS.edited; split <;> rfl
      have hqe : (D.doc.setLines ls2).edited.every = D.doc.every := by unfold DocS.edited; split <;> rfl
      have hqc : (D.doc.setLines ls2).edited.counted = if (D.doc.setLines ls2).edited.kind = 1 then 0 else D.doc.counted + 1 := by
        unfold DocS.edited
        split
        · rfl
        · rw [if_neg (by show ¬ D.doc.kind = 1; omega)]; rfl
      generalize hq : (D.doc.setLines ls2).edited = q at *
      have HQ : Hid ((D.doc.setLines ls2).edited = q) := hq
      clear hq hr
      obtain ⟨hc4, _⟩ := cells_of hM4.cells
      have hcl := ok.doc.counted
      have hev := ok.doc.every2
      have hmo := ok.most
      go_wp2_with fail
      refine (text_doc hM4.doc).mono ?_
      rintro e w5 ⟨rfl, hk5⟩
      have hM5 := hM4.kept hk5 (fun _ _ h => h)
      have hkw5 := hkw4.step (hk5.mono (fun _ h _ => h.elim))
      obtain ⟨hc5, hf5⟩ := cells_of hM5.cells
      go_wp2_with fail
      have hM6 := hM5.store0 (n' := ⟨textOf ls2, D.doc.every, D.doc.counted + 1, D.most⟩) (Kept.cell1 (b := b) (o := 4) (u := sv (textOf ls2)) |>.step (Kept.cell1 (b := b) (o := 6) (u := .int .i64 ((D.doc.counted : Int) + 1)))) (by rw [heap_set_same (heap_set_same hM5.cells)]; simp)
      have hk6 : Kept (fun x => x = b) w5 ((w5.setCell ⟨b, 4, none⟩ (sv (textOf ls2))).setCell ⟨b, 6, none⟩ (.int .i64 ((D.doc.counted : Int) + 1))) := Kept.cell1.step Kept.cell1
      have hs45 := hk5.size
      generalize (w5.setCell ⟨b, 4, none⟩ (sv (textOf ls2))).setCell ⟨b, 6, none⟩ (.int .i64 ((D.doc.counted : Int) + 1)) = w6 at hM6 hk6 ⊢
      have hkw6 : Kept (fun x => x ∈ deskFp b fx fd ft ff) w w6 := hkw5.step' hk6 (fun x e _ => by have e : x = b := e; show x ∈ deskFp b fx fd ft ff; simp [e])
      clear hc4 hc5 hf5
      obtain ⟨hc6, hf6⟩ := cells_of hM6.cells
      have hs6 := hk6.size
      go_quiet (fail)
      have hk67 : Kept no w6 (w6.drewN nq) := (Kept.refl _ _).drewN _
      have hM7 := hM6.kept hk67 (fun _ _ h => h)
      have hkw7 := hkw6.step (hk67.mono (T := fun x => x ∈ deskFp b fx fd ft ff) (fun _ h _ => h.elim))
      generalize w6.drewN nq = w7 at hk67 hM7 hkw7 ⊢
      clear hc6 hf6
      obtain ⟨hc7, hf7⟩ := cells_of hM7.cells
      go_upto_if 109 with fail
      go_cut [] (fun wx => DeskM wx b q D.disk D.mt D.mf ⟨textOf ls2, D.doc.every, D.doc.counted + 1, max D.most (D.doc.counted + 1)⟩ bx bd vt vf fx4 fd ft ff ∧ Kept (fun x => x = b) w7 wx)
      case first =>
        by_cases hgt : D.most < D.doc.counted + 1
        · have hgt' : (D.most : Int) < (D.doc.counted : Int) + 1 := by omega
          go_wp2
          go_meet
          case rel =>
            refine ⟨hM7.store0 Kept.cell1 ?_, Kept.cell1⟩
            rw [heap_set_same hM7.cells, Nat.max_eq_right (by omega)]
            simp
        · have hgt' : ¬ (D.most : Int) < (D.doc.counted : Int) + 1 := by omega
          go_wp2
          go_meet
          case rel =>
            rw [Nat.max_eq_left (by omega)]
            exact ⟨hM7, Kept.refl _ _⟩
      case rest =>
        obtain ⟨hM8, hk8⟩ := hcut
        have hkw8 : Kept (fun x => x ∈ deskFp b fx fd ft ff) w wc := hkw7.step' hk8 (fun x e _ => by have e : x = b := e; show x ∈ deskFp b fx fd ft ff; simp [e])
        have htl : D.mt.length ≤ 1000000000000 := by have := ok.mtN; omega
        by_cases hq1 : q.kind = 1
        · go_wp2_with fail
          refine (begun_yes hM8 hq1 htl).mono ?_
          rintro e w9 ⟨rfl, vt', ft', hM9, hx9, hk9⟩
          go_wp2
          go_ret
          have hs8 := hkw8.size
          refine ⟨by simp, ?_⟩
          rw [HD.out]
          unfold DeskS.edited DeskS.begun
          rw [HQ.out, if_pos (show q.kind = 1 from hq1)]
          rw [if_pos hq1] at hqc
          refine ⟨⟨deskFp b fx4 fd ft' ff, ⟨vt', vf, fx4, fd, ft', ff, ?_, rfl⟩, fun x hx => ?_⟩, hkw8.step' hk9 (fun x hx hlt => (hfp4 x hx).resolve_right (by omega))⟩
          · show DeskM w9 b q D.disk (D.mt ++ [q.text]) D.mf ⟨q.text, q.every, q.counted, _⟩ _ _ _ _ _ _ _ _
            rw [hqt, hqe, hqc]
            exact hM9
          · simp only [deskFp, List.mem_cons, List.mem_append] at hx
            rcases hx with rfl | hx | hx | hx | hx
            · exact hfp4 _ (by simp)
            · exact hfp4 x (by simp [hx])
            · exact hfp4 x (by simp [hx])
            · rcases hx9 x hx with hx | hx
              · exact hfp4 x (by simp [hx])
              · exact .inr (by omega)
            · exact hfp4 x (by simp [hx])
        · go_wp2_with fail
          refine (begun_no hM8 hq1).mono ?_
          rintro e w9 ⟨rfl, hk9⟩
          go_wp2
          go_ret
          refine ⟨by simp, ?_⟩
          rw [HD.out]
          unfold DeskS.edited DeskS.begun
          rw [HQ.out, if_neg (show ¬ q.kind = 1 from hq1)]
          rw [if_neg hq1] at hqc
          refine ⟨⟨deskFp b fx4 fd ft ff, ⟨vt, vf, fx4, fd, ft, ff, ?_, rfl⟩, hfp4⟩, hkw8.step (hk9.mono (fun _ h _ => h.elim))⟩
          show DeskM w9 b q D.disk D.mt D.mf ⟨q.text, q.every, q.counted, _⟩ _ _ _ _ _ _ _ _
          rw [hqt, hqe, hqc]
          exact hM8.kept hk9 (fun _ _ h => h)
  · rw [if_pos hk0] at hlines
    have hr : D.doc.insert (i : Int) l = (5, D.doc) := by
      unfold DocS.insert
      rw [if_pos hk0]
    have hcall := insert_d hM3.doc (i : Int) l (by have := hlk.1; omega) (by omega)
    rw [hr] at hcall
    go_wp2_with fail
    refine hcall.mono ?_
    rintro e w4 ⟨rfl, hT⟩
    obtain ⟨fx4, hM4, hx4⟩ := hM3.doc_to hT
    have hkT := hT.kept
    have hs3 := hk03.size
    have hD' : D.edit kind at_ c = D := hlines
    have hto : DeskTo w w4 b bx bd (deskFp b fx fd ft ff) D := ⟨⟨_, ⟨_, _, _, _, _, _, hM4, rfl⟩, fun x hx => by
      simp only [deskFp, List.mem_cons, List.mem_append] at hx ⊢
      rcases hx with rfl | hx | hx | hx | hx
      · exact .inl (.inl rfl)
      · rcases hx4 x hx with hx | hx
        · exact .inl (.inr (.inl hx))
        · exact .inr (by omega)
      · exact .inl (.inr (.inr (.inl hx)))
      · exact .inl (.inr (.inr (.inr (.inl hx))))
      · exact .inl (.inr (.inr (.inr (.inr hx))))⟩, (hk03.mono (T := fun x => x ∈ deskFp b fx fd ft ff) (fun _ h _ => h.elim)).step' hkT (fun x hx _ => by have hx : x ∈ fx := hx; show x ∈ deskFp b fx fd ft ff; simp [hx])⟩
    have hcv4 : ∀ k, w4.cell? ⟨V, k, none⟩ = #[Value.int .i64 (D.doc.lines.length : Int), .int .i64 (D.doc.edits : Int), .int .i64 (D.doc.kind : Int)][k]? := (cells_of (hkT.get hn3 (fun hx => by have := hM.doc.lt V hx; have := hk1.size; omega))).1
    have HD : Hid (D.edit kind at_ c = D) := hD'
    clear hM4 hcall hlines hD'
    have hk0' : ¬ (D.doc.kind : Int) = 0 := by omega
    go_wp2
    go_ret
    exact ⟨by simp [hk0], by rw [HD.out]; exact hto⟩
end Go.Proofs.YtdpfohgkikjeaaaGreat
/- edit: delete. -/
namespace Go.Proofs.YtdpfohgkikjeaaaGreat
open Go.RowKit
set_option linter.unusedVariables false
set_option linter.unusedSimpArgs false

theorem delete_d {w b d fp} (h : DocR w b d fp) (at_ : Int) (he : d.edits ≤ 1000000000000) :
    Calls Tryz.prog 24 #[.pointer (some ⟨b, 0, none⟩), .int .i64 at_] w fun e w' => e = .returned (.int .i64 ((d.delete at_).1 : Int)) ∧ DocTo w w' b fp (d.delete at_).2 := by
  obtain ⟨va, tfp, afp, h, rfl⟩ := h
  exact delete_doc h at_ he

set_option maxRecDepth 100000 in
set_option maxHeartbeats 20000000 in
theorem edit_delete {w b bx bd D fp N L} (h : DeskR w b bx bd D fp) (ok : D.Ok N L) (hN : N ≤ 1000000000000) (kind at_ c : Int) (hkind : RawOk kind) (hat : RawOk at_) (hc : RawOk c) (hK : pickN kind 4 = 2) :
    Calls Tryz.prog 16 #[.pointer (some ⟨b, 0, none⟩), .int .i64 kind, .int .i64 at_, .int .i64 c] w fun e w' => e = .returned (.bool true) ∧ DeskTo w w' b bx bd fp (D.edit kind at_ c) := by
  obtain ⟨vt, vf, fx, fd, ft, ff, hM, rfl⟩ := h
  obtain ⟨hc0, _⟩ := cells_of hM.cells
  have hn60 := ok.doc.text.few
  have hed := ok.edits
  have hpk := pickN_lt at_ (n := D.doc.lines.length + 1) (by omega)
  have hlk := lineN_ok c
  have hlines : D.edit kind at_ c = match D.editLines kind at_ c with
    | none => D
    | some ls => D.edited ls (max D.most (D.doc.counted + 1)) := rfl
  unfold DeskS.editLines at hlines
  go_enter Tryz.func16, Tryz.ntmps16
  go_wp2_with fail
  refine (look_doc hM.doc).mono ?_
  rintro e w1 ⟨rfl, hk1⟩
  have hM1 := hM.kept hk1 (fun _ _ h => h)
  obtain ⟨hn2, hsz2, hk2⟩ := new1 w1 (Obj.cells #[.int .i64 (D.doc.lines.length : Int), .int .i64 (D.doc.edits : Int), .int .i64 (D.doc.kind : Int)] viewT)
  go_wp2_with fail
  have hM2 := hM1.kept hk2 (fun _ _ h => h)
  generalize hV : w1.heap.size = V at hn2 hsz2 ⊢
  generalize w1.alloc (Obj.cells #[.int .i64 (D.doc.lines.length : Int), .int .i64 (D.doc.edits : Int), .int .i64 (D.doc.kind : Int)] viewT) = w2 at hn2 hsz2 hk2 hM2 ⊢
  refine (pick_keep at_ (D.doc.lines.length + 1) _ (by omega) hat (by omega) (by omega) w2).mono ?_
  rintro e w3 ⟨rfl, hw⟩
  rw [hw]
  clear hw
  generalize hI : pickN at_ (D.doc.lines.length + 1) = i at hpk hlines ⊢
  clear hI
  obtain ⟨hcv2, _⟩ := cells_of hn2
  go_wp2_with fail
  refine (line_any c hc w2).mono ?_
  rintro e w3 ⟨rfl, hk3⟩
  generalize hLL : lineN c = l at hlk hlines ⊢
  clear hLL
  have hn3 := hk3.get hn2 (fun h => h)
  have hM3 := hM2.kept hk3 (fun _ _ h => h)
  obtain ⟨hcv3, _⟩ := cells_of hn3
  obtain ⟨hc3, _⟩ := cells_of hM3.cells
  have hk03 : Kept no w w3 := (hk1.step hk2).step hk3
  clear hcv2 hc0
  go_wp2_with fail
  refine (pick_keep kind 4 4 rfl hkind (by decide) (by decide) w3).mono ?_
  rintro e w4 ⟨rfl, hw⟩
  rw [hw]
  clear hw
  rw [hK]
  rw [hK] at hlines
  rw [if_neg (show ¬ (2 : Nat) ≤ 1 by decide), if_pos (show (2 : Nat) = 2 by decide)] at hlines
  by_cases hk0 : D.doc.kind = 0
  · rw [if_neg (by omega)] at hlines
    by_cases h60 : i = D.doc.lines.length
    · rw [if_pos h60] at hlines
      subst h60
      have hr : D.doc.delete (D.doc.lines.length : Int) = (1, D.doc) := by
        unfold DocS.delete
        rw [if_neg (by omega), if_pos (by omega)]
      have hcall := delete_d hM3.doc (D.doc.lines.length : Int) (by omega)
      rw [hr] at hcall
      go_wp2_with fail
      refine hcall.mono ?_
      rintro e w4 ⟨rfl, hT⟩
      obtain ⟨fx4, hM4, hx4⟩ := hM3.doc_to hT
      have hkT := hT.kept
      have hs3 := hk03.size
      have hD' : D.edit kind at_ c = D := hlines
      have hto : DeskTo w w4 b bx bd (deskFp b fx fd ft ff) D := ⟨⟨_, ⟨_, _, _, _, _, _, hM4, rfl⟩, fun x hx => by
        simp only [deskFp, List.mem_cons, List.mem_append] at hx ⊢
        rcases hx with rfl | hx | hx | hx | hx
        · exact .inl (.inl rfl)
        · rcases hx4 x hx with hx | hx
          · exact .inl (.inr (.inl hx))
          · exact .inr (by omega)
        · exact .inl (.inr (.inr (.inl hx)))
        · exact .inl (.inr (.inr (.inr (.inl hx))))
        · exact .inl (.inr (.inr (.inr (.inr hx))))⟩, (hk03.mono (T := fun x => x ∈ deskFp b fx fd ft ff) (fun _ h _ => h.elim)).step' hkT (fun x hx _ => by have hx : x ∈ fx := hx; show x ∈ deskFp b fx fd ft ff; simp [hx])⟩
      have hcv4 : ∀ k, w4.cell? ⟨V, k, none⟩ = #[Value.int .i64 (D.doc.lines.length : Int), .int .i64 (D.doc.edits : Int), .int .i64 (D.doc.kind : Int)][k]? := (cells_of (hkT.get hn3 (fun hx => by have := hM.doc.lt V hx; have := hk1.size; omega))).1
      have HD : Hid (D.edit kind at_ c = D) := hD'
      clear hM4 hcall hlines hD'
      have hk0' : (D.doc.kind : Int) = 0 := by omega
      go_wp2
      go_ret
      exact ⟨by simp, by rw [HD.out]; exact hto⟩
    · rw [if_neg h60] at hlines
      have hr : D.doc.delete (i : Int) = (0, (D.doc.setLines (D.doc.lines.take i ++ D.doc.lines.drop (i + 1))).edited) := by
        unfold DocS.delete
        rw [if_neg (by omega), if_neg (by omega)]
        simp
      generalize (D.doc.lines.take i ++ D.doc.lines.drop (i + 1)) = ls2 at hr hlines
      have hcall := delete_d hM3.doc (i : Int) (by omega)
      rw [hr] at hcall
      go_wp2_with fail
      refine hcall.mono ?_
      rintro e w4 ⟨rfl, hT⟩
      obtain ⟨fx4, hM4, hx4⟩ := hM3.doc_to hT
      have hkT := hT.kept
      have hs3 := hk03.size
      have hD' : D.edit kind at_ c = D.edited ls2 (max D.most (D.doc.counted + 1)) := hlines
      have hkw4 : Kept (fun x => x ∈ deskFp b fx fd ft ff) w w4 := (hk03.mono (T := fun x => x ∈ deskFp b fx fd ft ff) (fun _ h _ => h.elim)).step' hkT (fun x hx _ => by have hx : x ∈ fx := hx; show x ∈ deskFp b fx fd ft ff; simp [hx])
      have hfp4 : ∀ x ∈ deskFp b fx4 fd ft ff, x ∈ deskFp b fx fd ft ff ∨ w.heap.size ≤ x := fun x hx => by
        simp only [deskFp, List.mem_cons, List.mem_append] at hx ⊢
        rcases hx with rfl | hx | hx | hx | hx
        · exact .inl (.inl rfl)
        · rcases hx4 x hx with hx | hx
          · exact .inl (.inr (.inl hx))
          · exact .inr (by omega)
        · exact .inl (.inr (.inr (.inl hx)))
        · exact .inl (.inr (.inr (.inr (.inl hx))))
        · exact .inl (.inr (.inr (.inr (.inr hx))))
      have HD : Hid (D.edit kind at_ c = D.edited ls2 (max D.most (D.doc.counted + 1))) := hD'
      clear hcall hlines hD'
      have hqt : (D.doc.setLines ls2).edited.text = textOf ls2 := by unfold DocS.edited; split <;> rfl
      have hqe : (D.doc.setLines ls2).edited.every = D.doc.every := by unfold DocS.edited; split <;> rfl
      have hqc : (D.doc.setLines ls2).edited.counted = if (D.doc.setLines ls2).edited.kind = 1 then 0 else D.doc.counted + 1 := by
        unfold DocS.edited
        split
        · rfl
        · rw [if_neg (by show ¬ D.doc.kind = 1; omega)]; rfl
      generalize hq : (D.doc.setLines ls2).edited = q at *
      have HQ : Hid ((D.doc.setLines ls2).edited = q) := hq
      clear hq hr
      obtain ⟨hc4, _⟩ := cells_of hM4.cells
      have hcl := ok.doc.counted
      have hev := ok.doc.every2
      have hmo := ok.most
      go_wp2_with fail
      refine (text_doc hM4.doc).mono ?_
      rintro e w5 ⟨rfl, hk5⟩
      have hM5 := hM4.kept hk5 (fun _ _ h => h)
      have hkw5 := hkw4.step (hk5.mono (fun _ h _ => h.elim))
      obtain ⟨hc5, hf5⟩ := cells_of hM5.cells
      go_wp2_with fail
      have hM6 := hM5.store0 (n' := ⟨textOf ls2, D.doc.every, D.doc.counted + 1, D.most⟩) (Kept.cell1 (b := b) (o := 4) (u := sv (textOf ls2)) |>.step (Kept.cell1 (b := b) (o := 6) (u := .int .i64 ((D.doc.counted : Int) + 1)))) (by rw [heap_set_same (heap_set_same hM5.cells)]; simp)
      have hk6 : Kept (fun x => x = b) w5 ((w5.setCell ⟨b, 4, none⟩ (sv (textOf ls2))).setCell ⟨b, 6, none⟩ (.int .i64 ((D.doc.counted : Int) + 1))) := Kept.cell1.step Kept.cell1
      have hs45 := hk5.size
      generalize (w5.setCell ⟨b, 4, none⟩ (sv (textOf ls2))).setCell ⟨b, 6, none⟩ (.int .i64 ((D.doc.counted : Int) + 1)) = w6 at hM6 hk6 ⊢
      have hkw6 : Kept (fun x => x ∈ deskFp b fx fd ft ff) w w6 := hkw5.step' hk6 (fun x e _ => by have e : x = b := e; show x ∈ deskFp b fx fd ft ff; simp [e])
      clear hc4 hc5 hf5
      obtain ⟨hc6, hf6⟩ := cells_of hM6.cells
      have hs6 := hk6.size
      go_quiet (fail)
      have hk67 : Kept no w6 (w6.drewN nq) := (Kept.refl _ _).drewN _
      have hM7 := hM6.kept hk67 (fun _ _ h => h)
      have hkw7 := hkw6.step (hk67.mono (T := fun x => x ∈ deskFp b fx fd ft ff) (fun _ h _ => h.elim))
      generalize w6.drewN nq = w7 at hk67 hM7 hkw7 ⊢
      clear hc6 hf6
      obtain ⟨hc7, hf7⟩ := cells_of hM7.cells
      go_upto_if 109 with fail
      go_cut [] (fun wx => DeskM wx b q D.disk D.mt D.mf ⟨textOf ls2, D.doc.every, D.doc.counted + 1, max D.most (D.doc.counted + 1)⟩ bx bd vt vf fx4 fd ft ff ∧ Kept (fun x => x = b) w7 wx)
      case first =>
        by_cases hgt : D.most < D.doc.counted + 1
        · have hgt' : (D.most : Int) < (D.doc.counted : Int) + 1 := by omega
          go_wp2
          go_meet
          case rel =>
            refine ⟨hM7.store0 Kept.cell1 ?_, Kept.cell1⟩
            rw [heap_set_same hM7.cells, Nat.max_eq_right (by omega)]
            simp
        · have hgt' : ¬ (D.most : Int) < (D.doc.counted : Int) + 1 := by omega
          go_wp2
          go_meet
          case rel =>
            rw [Nat.max_eq_left (by omega)]
            exact ⟨hM7, Kept.refl _ _⟩
      case rest =>
        obtain ⟨hM8, hk8⟩ := hcut
        have hkw8 : Kept (fun x => x ∈ deskFp b fx fd ft ff) w wc := hkw7.step' hk8 (fun x e _ => by have e : x = b := e; show x ∈ deskFp b fx fd ft ff; simp [e])
        have htl : D.mt.length ≤ 1000000000000 := by have := ok.mtN; omega
        by_cases hq1 : q.kind = 1
        · go_wp2_with fail
          refine (begun_yes hM8 hq1 htl).mono ?_
          rintro e w9 ⟨rfl, vt', ft', hM9, hx9, hk9⟩
          go_wp2
          go_ret
          have hs8 := hkw8.size
          refine ⟨by simp, ?_⟩
          rw [HD.out]
          unfold DeskS.edited DeskS.begun
          rw [HQ.out, if_pos (show q.kind = 1 from hq1)]
          rw [if_pos hq1] at hqc
          refine ⟨⟨deskFp b fx4 fd ft' ff, ⟨vt', vf, fx4, fd, ft', ff, ?_, rfl⟩, fun x hx => ?_⟩, hkw8.step' hk9 (fun x hx hlt => (hfp4 x hx).resolve_right (by omega))⟩
          · show DeskM w9 b q D.disk (D.mt ++ [q.text]) D.mf ⟨q.text, q.every, q.counted, _⟩ _ _ _ _ _ _ _ _
            rw [hqt, hqe, hqc]
            exact hM9
          · simp only [deskFp, List.mem_cons, List.mem_append] at hx
            rcases hx with rfl | hx | hx | hx | hx
            · exact hfp4 _ (by simp)
            · exact hfp4 x (by simp [hx])
            · exact hfp4 x (by simp [hx])
            · rcases hx9 x hx with hx | hx
              · exact hfp4 x (by simp [hx])
              · exact .inr (by omega)
            · exact hfp4 x (by simp [hx])
        · go_wp2_with fail
          refine (begun_no hM8 hq1).mono ?_
          rintro e w9 ⟨rfl, hk9⟩
          go_wp2
          go_ret
          refine ⟨by simp, ?_⟩
          rw [HD.out]
          unfold DeskS.edited DeskS.begun
          rw [HQ.out, if_neg (show ¬ q.kind = 1 from hq1)]
          rw [if_neg hq1] at hqc
          refine ⟨⟨deskFp b fx4 fd ft ff, ⟨vt, vf, fx4, fd, ft, ff, ?_, rfl⟩, hfp4⟩, hkw8.step (hk9.mono (fun _ h _ => h.elim))⟩
          show DeskM w9 b q D.disk D.mt D.mf ⟨q.text, q.every, q.counted, _⟩ _ _ _ _ _ _ _ _
          rw [hqt, hqe, hqc]
          exact hM8.kept hk9 (fun _ _ h => h)
  · rw [if_pos hk0] at hlines
    have hr : D.doc.delete (i : Int) = (5, D.doc) := by
      unfold DocS.delete
      rw [if_pos hk0]
    have hcall := delete_d hM3.doc (i : Int) (by omega)
    rw [hr] at hcall
    go_wp2_with fail
    refine hcall.mono ?_
    rintro e w4 ⟨rfl, hT⟩
    obtain ⟨fx4, hM4, hx4⟩ := hM3.doc_to hT
    have hkT := hT.kept
    have hs3 := hk03.size
    have hD' : D.edit kind at_ c = D := hlines
    have hto : DeskTo w w4 b bx bd (deskFp b fx fd ft ff) D := ⟨⟨_, ⟨_, _, _, _, _, _, hM4, rfl⟩, fun x hx => by
      simp only [deskFp, List.mem_cons, List.mem_append] at hx ⊢
      rcases hx with rfl | hx | hx | hx | hx
      · exact .inl (.inl rfl)
      · rcases hx4 x hx with hx | hx
        · exact .inl (.inr (.inl hx))
        · exact .inr (by omega)
      · exact .inl (.inr (.inr (.inl hx)))
      · exact .inl (.inr (.inr (.inr (.inl hx))))
      · exact .inl (.inr (.inr (.inr (.inr hx))))⟩, (hk03.mono (T := fun x => x ∈ deskFp b fx fd ft ff) (fun _ h _ => h.elim)).step' hkT (fun x hx _ => by have hx : x ∈ fx := hx; show x ∈ deskFp b fx fd ft ff; simp [hx])⟩
    have hcv4 : ∀ k, w4.cell? ⟨V, k, none⟩ = #[Value.int .i64 (D.doc.lines.length : Int), .int .i64 (D.doc.edits : Int), .int .i64 (D.doc.kind : Int)][k]? := (cells_of (hkT.get hn3 (fun hx => by have := hM.doc.lt V hx; have := hk1.size; omega))).1
    have HD : Hid (D.edit kind at_ c = D) := hD'
    clear hM4 hcall hlines hD'
    have hk0' : ¬ (D.doc.kind : Int) = 0 := by omega
    go_wp2
    go_ret
    exact ⟨by simp [hk0], by rw [HD.out]; exact hto⟩
end Go.Proofs.YtdpfohgkikjeaaaGreat
/- edit: replace. -/
namespace Go.Proofs.YtdpfohgkikjeaaaGreat
open Go.RowKit
set_option linter.unusedVariables false
set_option linter.unusedSimpArgs false

set_option maxRecDepth 100000 in
set_option maxHeartbeats 20000000 in
theorem edit_replace {w b bx bd D fp N L} (h : DeskR w b bx bd D fp) (ok : D.Ok N L) (hN : N ≤ 1000000000000) (kind at_ c : Int) (hkind : RawOk kind) (hat : RawOk at_) (hc : RawOk c) (hK : pickN kind 4 = 3) :
    Calls Tryz.prog 16 #[.pointer (some ⟨b, 0, none⟩), .int .i64 kind, .int .i64 at_, .int .i64 c] w fun e w' => e = .returned (.bool true) ∧ DeskTo w w' b bx bd fp (D.edit kind at_ c) := by
  obtain ⟨vt, vf, fx, fd, ft, ff, hM, rfl⟩ := h
  obtain ⟨hc0, _⟩ := cells_of hM.cells
  have hn60 := ok.doc.text.few
  have hed := ok.edits
  have hpk := pickN_lt at_ (n := D.doc.lines.length + 1) (by omega)
  have hlk := lineN_ok c
  have hlines : D.edit kind at_ c = match D.editLines kind at_ c with
    | none => D
    | some ls => D.edited ls (max D.most (D.doc.counted + 1)) := rfl
  unfold DeskS.editLines at hlines
  go_enter Tryz.func16, Tryz.ntmps16
  go_wp2_with fail
  refine (look_doc hM.doc).mono ?_
  rintro e w1 ⟨rfl, hk1⟩
  have hM1 := hM.kept hk1 (fun _ _ h => h)
  obtain ⟨hn2, hsz2, hk2⟩ := new1 w1 (Obj.cells #[.int .i64 (D.doc.lines.length : Int), .int .i64 (D.doc.edits : Int), .int .i64 (D.doc.kind : Int)] viewT)
  go_wp2_with fail
  have hM2 := hM1.kept hk2 (fun _ _ h => h)
  generalize hV : w1.heap.size = V at hn2 hsz2 ⊢
  generalize w1.alloc (Obj.cells #[.int .i64 (D.doc.lines.length : Int), .int .i64 (D.doc.edits : Int), .int .i64 (D.doc.kind : Int)] viewT) = w2 at hn2 hsz2 hk2 hM2 ⊢
  refine (pick_keep at_ (D.doc.lines.length + 1) _ (by omega) hat (by omega) (by omega) w2).mono ?_
  rintro e w3 ⟨rfl, hw⟩
  rw [hw]
  clear hw
  generalize hI : pickN at_ (D.doc.lines.length + 1) = i at hpk hlines ⊢
  clear hI
  obtain ⟨hcv2, _⟩ := cells_of hn2
  go_wp2_with fail
  refine (line_any c hc w2).mono ?_
  rintro e w3 ⟨rfl, hk3⟩
  generalize hLL : lineN c = l at hlk hlines ⊢
  clear hLL
  have hn3 := hk3.get hn2 (fun h => h)
  have hM3 := hM2.kept hk3 (fun _ _ h => h)
  obtain ⟨hcv3, _⟩ := cells_of hn3
  obtain ⟨hc3, _⟩ := cells_of hM3.cells
  have hk03 : Kept no w w3 := (hk1.step hk2).step hk3
  clear hcv2 hc0
  go_wp2_with fail
  refine (pick_keep kind 4 4 rfl hkind (by decide) (by decide) w3).mono ?_
  rintro e w4 ⟨rfl, hw⟩
  rw [hw]
  clear hw
  rw [hK]
  rw [hK] at hlines
  rw [if_neg (show ¬ (3 : Nat) ≤ 1 by decide), if_neg (show ¬ (3 : Nat) = 2 by decide)] at hlines
  by_cases hk0 : D.doc.kind = 0
  · rw [if_neg (by omega)] at hlines
    by_cases h60 : i = D.doc.lines.length
    · rw [if_pos h60] at hlines
      subst h60
      have hr : D.doc.replace (D.doc.lines.length : Int) l = (1, D.doc) := by
        unfold DocS.replace
        rw [if_neg (by omega), if_pos (by omega)]
      have hcall := replace_d hM3.doc (D.doc.lines.length : Int) l (by have := hlk.1; omega) (by omega)
      rw [hr] at hcall
      go_wp2_with fail
      refine hcall.mono ?_
      rintro e w4 ⟨rfl, hT⟩
      obtain ⟨fx4, hM4, hx4⟩ := hM3.doc_to hT
      have hkT := hT.kept
      have hs3 := hk03.size
      have hD' : D.edit kind at_ c = D := hlines
      have hto : DeskTo w w4 b bx bd (deskFp b fx fd ft ff) D := ⟨⟨_, ⟨_, _, _, _, _, _, hM4, rfl⟩, fun x hx => by
        simp only [deskFp, List.mem_cons, List.mem_append] at hx ⊢
        rcases hx with rfl | hx | hx | hx | hx
        · exact .inl (.inl rfl)
        · rcases hx4 x hx with hx | hx
          · exact .inl (.inr (.inl hx))
          · exact .inr (by omega)
        · exact .inl (.inr (.inr (.inl hx)))
        · exact .inl (.inr (.inr (.inr (.inl hx))))
        · exact .inl (.inr (.inr (.inr (.inr hx))))⟩, (hk03.mono (T := fun x => x ∈ deskFp b fx fd ft ff) (fun _ h _ => h.elim)).step' hkT (fun x hx _ => by have hx : x ∈ fx := hx; show x ∈ deskFp b fx fd ft ff; simp [hx])⟩
      have hcv4 : ∀ k, w4.cell? ⟨V, k, none⟩ = #[Value.int .i64 (D.doc.lines.length : Int), .int .i64 (D.doc.edits : Int), .int .i64 (D.doc.kind : Int)][k]? := (cells_of (hkT.get hn3 (fun hx => by have := hM.doc.lt V hx; have := hk1.size; omega))).1
      have HD : Hid (D.edit kind at_ c = D) := hD'
      clear hM4 hcall hlines hD'
      have hk0' : (D.doc.kind : Int) = 0 := by omega
      go_wp2
      go_ret
      exact ⟨by simp, by rw [HD.out]; exact hto⟩
    · rw [if_neg h60] at hlines
      have hr : D.doc.replace (i : Int) l = (0, (D.doc.setLines (D.doc.lines.take i ++ l :: D.doc.lines.drop (i + 1))).edited) := by
        unfold DocS.replace
        rw [if_neg (by omega), if_neg (by omega), if_neg (by simpa using hlk)]
        simp
      generalize (D.doc.lines.take i ++ l :: D.doc.lines.drop (i + 1)) = ls2 at hr hlines
      have hcall := replace_d hM3.doc (i : Int) l (by have := hlk.1; omega) (by omega)
      rw [hr] at hcall
      go_wp2_with fail
      refine hcall.mono ?_
      rintro e w4 ⟨rfl, hT⟩
      obtain ⟨fx4, hM4, hx4⟩ := hM3.doc_to hT
      have hkT := hT.kept
      have hs3 := hk03.size
      have hD' : D.edit kind at_ c = D.edited ls2 (max D.most (D.doc.counted + 1)) := hlines
      have hkw4 : Kept (fun x => x ∈ deskFp b fx fd ft ff) w w4 := (hk03.mono (T := fun x => x ∈ deskFp b fx fd ft ff) (fun _ h _ => h.elim)).step' hkT (fun x hx _ => by have hx : x ∈ fx := hx; show x ∈ deskFp b fx fd ft ff; simp [hx])
      have hfp4 : ∀ x ∈ deskFp b fx4 fd ft ff, x ∈ deskFp b fx fd ft ff ∨ w.heap.size ≤ x := fun x hx => by
        simp only [deskFp, List.mem_cons, List.mem_append] at hx ⊢
        rcases hx with rfl | hx | hx | hx | hx
        · exact .inl (.inl rfl)
        · rcases hx4 x hx with hx | hx
          · exact .inl (.inr (.inl hx))
          · exact .inr (by omega)
        · exact .inl (.inr (.inr (.inl hx)))
        · exact .inl (.inr (.inr (.inr (.inl hx))))
        · exact .inl (.inr (.inr (.inr (.inr hx))))
      have HD : Hid (D.edit kind at_ c = D.edited ls2 (max D.most (D.doc.counted + 1))) := hD'
      clear hcall hlines hD'
      have hqt : (D.doc.setLines ls2).edited.text = textOf ls2 := by unfold DocS.edited; split <;> rfl
      have hqe : (D.doc.setLines ls2).edited.every = D.doc.every := by unfold DocS.edited; split <;> rfl
      have hqc : (D.doc.setLines ls2).edited.counted = if (D.doc.setLines ls2).edited.kind = 1 then 0 else D.doc.counted + 1 := by
        unfold DocS.edited
        split
        · rfl
        · rw [if_neg (by show ¬ D.doc.kind = 1; omega)]; rfl
      generalize hq : (D.doc.setLines ls2).edited = q at *
      have HQ : Hid ((D.doc.setLines ls2).edited = q) := hq
      clear hq hr
      obtain ⟨hc4, _⟩ := cells_of hM4.cells
      have hcl := ok.doc.counted
      have hev := ok.doc.every2
      have hmo := ok.most
      go_wp2_with fail
      refine (text_doc hM4.doc).mono ?_
      rintro e w5 ⟨rfl, hk5⟩
      have hM5 := hM4.kept hk5 (fun _ _ h => h)
      have hkw5 := hkw4.step (hk5.mono (fun _ h _ => h.elim))
      obtain ⟨hc5, hf5⟩ := cells_of hM5.cells
      go_wp2_with fail
      have hM6 := hM5.store0 (n' := ⟨textOf ls2, D.doc.every, D.doc.counted + 1, D.most⟩) (Kept.cell1 (b := b) (o := 4) (u := sv (textOf ls2)) |>.step (Kept.cell1 (b := b) (o := 6) (u := .int .i64 ((D.doc.counted : Int) + 1)))) (by rw [heap_set_same (heap_set_same hM5.cells)]; simp)
      have hk6 : Kept (fun x => x = b) w5 ((w5.setCell ⟨b, 4, none⟩ (sv (textOf ls2))).setCell ⟨b, 6, none⟩ (.int .i64 ((D.doc.counted : Int) + 1))) := Kept.cell1.step Kept.cell1
      have hs45 := hk5.size
      generalize (w5.setCell ⟨b, 4, none⟩ (sv (textOf ls2))).setCell ⟨b, 6, none⟩ (.int .i64 ((D.doc.counted : Int) + 1)) = w6 at hM6 hk6 ⊢
      have hkw6 : Kept (fun x => x ∈ deskFp b fx fd ft ff) w w6 := hkw5.step' hk6 (fun x e _ => by have e : x = b := e; show x ∈ deskFp b fx fd ft ff; simp [e])
      clear hc4 hc5 hf5
      obtain ⟨hc6, hf6⟩ := cells_of hM6.cells
      have hs6 := hk6.size
      go_quiet (fail)
      have hk67 : Kept no w6 (w6.drewN nq) := (Kept.refl _ _).drewN _
      have hM7 := hM6.kept hk67 (fun _ _ h => h)
      have hkw7 := hkw6.step (hk67.mono (T := fun x => x ∈ deskFp b fx fd ft ff) (fun _ h _ => h.elim))
      generalize w6.drewN nq = w7 at hk67 hM7 hkw7 ⊢
      clear hc6 hf6
      obtain ⟨hc7, hf7⟩ := cells_of hM7.cells
      go_upto_if 109 with fail
      go_cut [] (fun wx => DeskM wx b q D.disk D.mt D.mf ⟨textOf ls2, D.doc.every, D.doc.counted + 1, max D.most (D.doc.counted + 1)⟩ bx bd vt vf fx4 fd ft ff ∧ Kept (fun x => x = b) w7 wx)
      case first =>
        by_cases hgt : D.most < D.doc.counted + 1
        · have hgt' : (D.most : Int) < (D.doc.counted : Int) + 1 := by omega
          go_wp2
          go_meet
          case rel =>
            refine ⟨hM7.store0 Kept.cell1 ?_, Kept.cell1⟩
            rw [heap_set_same hM7.cells, Nat.max_eq_right (by omega)]
            simp
        · have hgt' : ¬ (D.most : Int) < (D.doc.counted : Int) + 1 := by omega
          go_wp2
          go_meet
          case rel =>
            rw [Nat.max_eq_left (by omega)]
            exact ⟨hM7, Kept.refl _ _⟩
      case rest =>
        obtain ⟨hM8, hk8⟩ := hcut
        have hkw8 : Kept (fun x => x ∈ deskFp b fx fd ft ff) w wc := hkw7.step' hk8 (fun x e _ => by have e : x = b := e; show x ∈ deskFp b fx fd ft ff; simp [e])
        have htl : D.mt.length ≤ 1000000000000 := by have := ok.mtN; omega
        by_cases hq1 : q.kind = 1
        · go_wp2_with fail
          refine (begun_yes hM8 hq1 htl).mono ?_
          rintro e w9 ⟨rfl, vt', ft', hM9, hx9, hk9⟩
          go_wp2
          go_ret
          have hs8 := hkw8.size
          refine ⟨by simp, ?_⟩
          rw [HD.out]
          unfold DeskS.edited DeskS.begun
          rw [HQ.out, if_pos (show q.kind = 1 from hq1)]
          rw [if_pos hq1] at hqc
          refine ⟨⟨deskFp b fx4 fd ft' ff, ⟨vt', vf, fx4, fd, ft', ff, ?_, rfl⟩, fun x hx => ?_⟩, hkw8.step' hk9 (fun x hx hlt => (hfp4 x hx).resolve_right (by omega))⟩
          · show DeskM w9 b q D.disk (D.mt ++ [q.text]) D.mf ⟨q.text, q.every, q.counted, _⟩ _ _ _ _ _ _ _ _
            rw [hqt, hqe, hqc]
            exact hM9
          · simp only [deskFp, List.mem_cons, List.mem_append] at hx
            rcases hx with rfl | hx | hx | hx | hx
            · exact hfp4 _ (by simp)
            · exact hfp4 x (by simp [hx])
            · exact hfp4 x (by simp [hx])
            · rcases hx9 x hx with hx | hx
              · exact hfp4 x (by simp [hx])
              · exact .inr (by omega)
            · exact hfp4 x (by simp [hx])
        · go_wp2_with fail
          refine (begun_no hM8 hq1).mono ?_
          rintro e w9 ⟨rfl, hk9⟩
          go_wp2
          go_ret
          refine ⟨by simp, ?_⟩
          rw [HD.out]
          unfold DeskS.edited DeskS.begun
          rw [HQ.out, if_neg (show ¬ q.kind = 1 from hq1)]
          rw [if_neg hq1] at hqc
          refine ⟨⟨deskFp b fx4 fd ft ff, ⟨vt, vf, fx4, fd, ft, ff, ?_, rfl⟩, hfp4⟩, hkw8.step (hk9.mono (fun _ h _ => h.elim))⟩
          show DeskM w9 b q D.disk D.mt D.mf ⟨q.text, q.every, q.counted, _⟩ _ _ _ _ _ _ _ _
          rw [hqt, hqe, hqc]
          exact hM8.kept hk9 (fun _ _ h => h)
  · rw [if_pos hk0] at hlines
    have hr : D.doc.replace (i : Int) l = (5, D.doc) := by
      unfold DocS.replace
      rw [if_pos hk0]
    have hcall := replace_d hM3.doc (i : Int) l (by have := hlk.1; omega) (by omega)
    rw [hr] at hcall
    go_wp2_with fail
    refine hcall.mono ?_
    rintro e w4 ⟨rfl, hT⟩
    obtain ⟨fx4, hM4, hx4⟩ := hM3.doc_to hT
    have hkT := hT.kept
    have hs3 := hk03.size
    have hD' : D.edit kind at_ c = D := hlines
    have hto : DeskTo w w4 b bx bd (deskFp b fx fd ft ff) D := ⟨⟨_, ⟨_, _, _, _, _, _, hM4, rfl⟩, fun x hx => by
      simp only [deskFp, List.mem_cons, List.mem_append] at hx ⊢
      rcases hx with rfl | hx | hx | hx | hx
      · exact .inl (.inl rfl)
      · rcases hx4 x hx with hx | hx
        · exact .inl (.inr (.inl hx))
        · exact .inr (by omega)
      · exact .inl (.inr (.inr (.inl hx)))
      · exact .inl (.inr (.inr (.inr (.inl hx))))
      · exact .inl (.inr (.inr (.inr (.inr hx))))⟩, (hk03.mono (T := fun x => x ∈ deskFp b fx fd ft ff) (fun _ h _ => h.elim)).step' hkT (fun x hx _ => by have hx : x ∈ fx := hx; show x ∈ deskFp b fx fd ft ff; simp [hx])⟩
    have hcv4 : ∀ k, w4.cell? ⟨V, k, none⟩ = #[Value.int .i64 (D.doc.lines.length : Int), .int .i64 (D.doc.edits : Int), .int .i64 (D.doc.kind : Int)][k]? := (cells_of (hkT.get hn3 (fun hx => by have := hM.doc.lt V hx; have := hk1.size; omega))).1
    have HD : Hid (D.edit kind at_ c = D) := hD'
    clear hM4 hcall hlines hD'
    have hk0' : ¬ (D.doc.kind : Int) = 0 := by omega
    go_wp2
    go_ret
    exact ⟨by simp [hk0], by rw [HD.out]; exact hto⟩
end Go.Proofs.YtdpfohgkikjeaaaGreat
/- edit, whole. -/
namespace Go.Proofs.YtdpfohgkikjeaaaGreat
open Go.RowKit
set_option linter.unusedVariables false
set_option linter.unusedSimpArgs false

theorem edit_any {w b bx bd D fp N L} (h : DeskR w b bx bd D fp) (ok : D.Ok N L) (hN : N ≤ 1000000000000) (kind at_ c : Int) (hkind : RawOk kind) (hat : RawOk at_) (hc : RawOk c) :
    Calls Tryz.prog 16 #[.pointer (some ⟨b, 0, none⟩), .int .i64 kind, .int .i64 at_, .int .i64 c] w fun e w' => e = .returned (.bool true) ∧ DeskTo w w' b bx bd fp (D.edit kind at_ c) := by
  have hp := pickN_lt kind (n := 4) (by decide)
  rcases (by omega : pickN kind 4 = 0 ∨ pickN kind 4 = 1 ∨ pickN kind 4 = 2 ∨ pickN kind 4 = 3) with e | e | e | e
  · exact edit_insert0 h ok hN kind at_ c hkind hat hc e
  · exact edit_insert1 h ok hN kind at_ c hkind hat hc e
  · exact edit_delete h ok hN kind at_ c hkind hat hc e
  · exact edit_replace h ok hN kind at_ c hkind hat hc e
end Go.Proofs.YtdpfohgkikjeaaaGreat
/- move: what a move leaves; all acts. -/
namespace Go.Proofs.YtdpfohgkikjeaaaGreat
open Go.RowKit
set_option linter.unusedVariables false
set_option linter.unusedSimpArgs false

/-- A desk that goes on. -/
structure Going (D : DeskS) (N L : Nat) : Prop where
  ok : D.Ok N L
  known : D.doc.wr.known = true
  mf : D.mf = D.files
  mt : D.mt = D.ch.map (·.1)

/-- What a move leaves. -/
def MovedTo (w w' : World) (b : Nat) (fp : List Nat) (D : DeskS) (N L : Nat) : Prop :=
  ∃ bx bd fp' D', DeskR w' b bx bd D' fp' ∧ Going D' N L ∧ D'.doc.every = D.doc.every ∧ (∀ x ∈ fp', x ∈ fp ∨ w.heap.size ≤ x) ∧ Kept (fun x => x ∈ fp) w w'

theorem Going.mono {D : DeskS} {N M L : Nat} (h : Going D N L) (hm : N ≤ M) : Going D M L := ⟨h.ok.mono hm, h.known, h.mf, h.mt⟩

theorem Going.work {D : DeskS} {N L : Nat} (h : Going D N L) (n : Nat) (fail : Int) (all : Bool) : Going (D.work n 0 fail all) (N + n) L :=
  ⟨h.ok.work n 0, (work_same fail all n 0 D).2.2.2.2 h.known, work_mf fail all n 0 h.mf, work_mt fail all n 0 h.mt⟩

theorem edited_same (D : DeskS) (ls : List Str) (m : Nat) : (D.edited ls m).doc.wr = D.doc.wr ∧ (D.edited ls m).doc.every = D.doc.every ∧ (D.edited ls m).mf = D.mf ∧ (D.edited ls m).files = D.files := by
  have h : ((D.doc.setLines ls).edited).wr = D.doc.wr ∧ ((D.doc.setLines ls).edited).every = D.doc.every := by
    unfold DocS.edited; split <;> exact ⟨rfl, rfl⟩
  unfold DeskS.edited DeskS.begun
  split
  · exact ⟨h.1, h.2, rfl, rfl⟩
  · exact ⟨h.1, h.2, rfl, rfl⟩

theorem edited_mt {D : DeskS} (h : D.mt = D.ch.map (·.1)) (ls : List Str) (m : Nat) : (D.edited ls m).mt = (D.edited ls m).ch.map (·.1) := by
  unfold DeskS.edited DeskS.begun
  split
  · simp [h]
  · exact h

theorem Going.edit {D : DeskS} {N L : Nat} (h : Going D N L) (kind at_ c : Int) : Going (D.edit kind at_ c) (N + 1) L ∧ (D.edit kind at_ c).doc.every = D.doc.every := by
  have ok := h.ok.edit kind at_ c
  cases e : D.editLines kind at_ c with
  | none =>
    have hE : D.edit kind at_ c = D := by unfold DeskS.edit; rw [e]
    rw [hE] at ok ⊢
    exact ⟨⟨ok, h.known, h.mf, h.mt⟩, rfl⟩
  | some ls =>
    have hE : D.edit kind at_ c = D.edited ls (max D.most (D.doc.counted + 1)) := by unfold DeskS.edit; rw [e]
    rw [hE] at ok ⊢
    obtain ⟨h1, h2, h3, h4⟩ := edited_same D ls (max D.most (D.doc.counted + 1))
    exact ⟨⟨ok, by rw [h1]; exact h.known, by rw [h3, h4]; exact h.mf, edited_mt h.mt _ _⟩, h2⟩

theorem DeskTo.moved {w w' : World} {b bx bd : Nat} {fp : List Nat} {D D' : DeskS} {N L : Nat} (h : DeskTo w w' b bx bd fp D') (g : Going D' N L) (he : D'.doc.every = D.doc.every) : MovedTo w w' b fp D N L := by
  obtain ⟨⟨fp', hr, hx⟩, hk⟩ := h
  exact ⟨bx, bd, fp', D', hr, g, he, hx, hk⟩

theorem sync_d {w b d fp} (h : DocR w b d fp) : Calls Tryz.prog 28 #[.pointer (some ⟨b, 0, none⟩)] w fun e w' => e = .returned (.int .i64 (d.sync.1 : Int)) ∧ DocTo w w' b fp d.sync.2 := by
  obtain ⟨va, tfp, afp, h, rfl⟩ := h
  unfold DocS.sync
  by_cases hk : d.kind ≠ 0
  · rw [if_pos hk]
    refine (sync_busy h hk).mono ?_
    rintro e w' ⟨rfl, rfl⟩
    exact ⟨rfl, h.same⟩
  · rw [if_neg hk]
    by_cases he : d.edits = 0 ∧ d.wr.known = true
    · rw [if_pos he]
      refine (sync_idle h (by omega) he.1 he.2).mono ?_
      rintro e w' ⟨rfl, rfl⟩
      exact ⟨rfl, h.same⟩
    · rw [if_neg he]
      exact sync_yes h (by omega) he
theorem save_any {w b d fp} (h : DocR w b d fp) : Calls Tryz.prog 27 #[.pointer (some ⟨b, 0, none⟩)] w fun e w' => e = .returned (.int .i64 (d.save.1 : Int)) ∧ DocTo w w' b fp d.save.2 := by
  by_cases hk : d.kind = 0
  · refine (save_d h hk).mono ?_
    rintro e w' ⟨rfl, hT⟩
    exact ⟨by unfold DocS.save; rw [if_neg (by omega)]; rfl, hT⟩
  · obtain ⟨va, tfp, afp, h, rfl⟩ := h
    unfold DocS.save
    rw [if_pos hk]
    refine (save_busy h hk).mono ?_
    rintro e w' ⟨rfl, rfl⟩
    exact ⟨rfl, h.same⟩
end Go.Proofs.YtdpfohgkikjeaaaGreat
/- move: all acts; an edit. -/
namespace Go.Proofs.YtdpfohgkikjeaaaGreat
open Go.RowKit
set_option linter.unusedVariables false
set_option linter.unusedSimpArgs false

set_option maxRecDepth 100000 in
set_option maxHeartbeats 8000000 in
theorem move_work {w b bx bd D fp N L B} (h : DeskR w b bx bd D fp) (g : Going D N L) (hN : N + 600 ≤ 1000000000000) (hL : L ≤ 1000000000000) (kind n : Int) (v : Value) (raw : List Int) (hraw : IntsAt w B v raw) (hBw : ∀ x ∈ fp, B ≤ x) (hkind : RawOk kind) (hn : RawOk n) (hK : pickN kind 8 = 6) :
    Calls Tryz.prog 31 #[.pointer (some ⟨b, 0, none⟩), .agg #[.int .i64 kind, .int .i64 n, v]] w fun e w' => e = .returned (.bool true) ∧ MovedTo w w' b fp D (N + 600) L := by
  obtain ⟨vt, vf, fx, fd, ft, ff, hM, rfl⟩ := h
  have hb0 : b < w.heap.size := lt_of_heap hM.cells
  obtain ⟨hc0, _⟩ := cells_of hM.cells
  go_enter Tryz.func31, Tryz.ntmps31
  go_wp2_with fail
  obtain ⟨hn1, hsz1, hk1⟩ := new1 w (Obj.cells #[.int .i64 kind, .int .i64 n, v] 40)
  have hM1 := hM.kept hk1 (fun _ _ h => h)
  generalize hA : w.heap.size = A at hn1 hsz1 ⊢
  generalize w.alloc (Obj.cells #[.int .i64 kind, .int .i64 n, v] 40) = w1 at hn1 hsz1 hk1 hM1 ⊢
  refine (look_doc hM1.doc).mono ?_
  rintro e w2 ⟨rfl, hk2⟩
  have hM2 := hM1.kept hk2 (fun _ _ h => h)
  have hn2 := hk2.get hn1 (fun h => h)
  obtain ⟨hca2, _⟩ := cells_of hn2
  have hA2 : A < w2.heap.size := lt_of_heap hn2
  go_wp2_with fail
  obtain ⟨hn3, hsz3, hk3⟩ := new1 w2 (Obj.cells #[.int .i64 (D.doc.lines.length : Int), .int .i64 (D.doc.edits : Int), .int .i64 (D.doc.kind : Int)] viewT)
  have hM3 := hM2.kept hk3 (fun _ _ h => h)
  have ha3 := hk3.get hn2 (fun h => h)
  generalize hV : w2.heap.size = V at hn3 hsz3 hA2 ⊢
  generalize w2.alloc (Obj.cells #[.int .i64 (D.doc.lines.length : Int), .int .i64 (D.doc.edits : Int), .int .i64 (D.doc.kind : Int)] viewT) = w3 at hn3 hsz3 hk3 hM3 ha3 ⊢
  refine (pick_keep kind 8 8 rfl hkind (by decide) (by decide) w3).mono ?_
  rintro e w4 ⟨rfl, hw⟩
  rw [hw, hK]
  clear hw hc0 hca2
  have hkw : Kept no w w3 := (hk1.step hk2).step hk3
  have hraw3 := hraw.kept hkw (fun _ h => h.elim)
  have hR3 : DeskR w3 b bx bd D (deskFp b fx fd ft ff) := ⟨_, _, _, _, _, _, hM3, rfl⟩
  have hmv : ∀ w' D', DeskTo w3 w' b bx bd (deskFp b fx fd ft ff) D' → Going D' (N + 600) L → D'.doc.every = D.doc.every → MovedTo w w' b (deskFp b fx fd ft ff) D (N + 600) L := fun w' D' ⟨⟨fp', hr, hx⟩, hk⟩ g' he =>
    ⟨bx, bd, fp', D', hr, g', he, fun x hx' => by
      rcases hx x hx' with h | h
      · exact .inl h
      · have := hkw.size; exact .inr (by omega), (hkw.mono (fun _ h _ => h.elim)).step hk⟩
  obtain ⟨hcA, _⟩ := cells_of ha3
  obtain ⟨hcV, _⟩ := cells_of hn3
  obtain ⟨hcB, _⟩ := cells_of hM3.cells
  go_wp2_with fail
  refine (work_any hR3 g.ok 500 500 (-1) 0 0 rfl rfl (by decide) (by decide) (by decide) (by decide) (by omega) hL).mono ?_
  rintro e w5 ⟨rfl, hT⟩
  go_wp2
  go_ret
  exact ⟨by simp, hmv _ _ hT ((g.work 500 (-1) _).mono (by omega)) (work_same _ _ 500 0 D).2.1⟩

set_option maxRecDepth 100000 in
set_option maxHeartbeats 8000000 in
theorem move_edit0 {w b bx bd D fp N L B} (h : DeskR w b bx bd D fp) (g : Going D N L) (hN : N + 600 ≤ 1000000000000) (hL : L ≤ 1000000000000) (kind n : Int) (v : Value) (raw : List Int) (hraw : IntsAt w B v raw) (hBw : ∀ x ∈ fp, B ≤ x) (hkind : RawOk kind) (hn : RawOk n) (hK : pickN kind 8 = 0) :
    Calls Tryz.prog 31 #[.pointer (some ⟨b, 0, none⟩), .agg #[.int .i64 kind, .int .i64 n, v]] w fun e w' => e = .returned (.bool true) ∧ MovedTo w w' b fp D (N + 600) L := by
  obtain ⟨vt, vf, fx, fd, ft, ff, hM, rfl⟩ := h
  have hb0 : b < w.heap.size := lt_of_heap hM.cells
  obtain ⟨hc0, _⟩ := cells_of hM.cells
  go_enter Tryz.func31, Tryz.ntmps31
  go_wp2_with fail
  obtain ⟨hn1, hsz1, hk1⟩ := new1 w (Obj.cells #[.int .i64 kind, .int .i64 n, v] 40)
  have hM1 := hM.kept hk1 (fun _ _ h => h)
  generalize hA : w.heap.size = A at hn1 hsz1 ⊢
  generalize w.alloc (Obj.cells #[.int .i64 kind, .int .i64 n, v] 40) = w1 at hn1 hsz1 hk1 hM1 ⊢
  refine (look_doc hM1.doc).mono ?_
  rintro e w2 ⟨rfl, hk2⟩
  have hM2 := hM1.kept hk2 (fun _ _ h => h)
  have hn2 := hk2.get hn1 (fun h => h)
  obtain ⟨hca2, _⟩ := cells_of hn2
  have hA2 : A < w2.heap.size := lt_of_heap hn2
  go_wp2_with fail
  obtain ⟨hn3, hsz3, hk3⟩ := new1 w2 (Obj.cells #[.int .i64 (D.doc.lines.length : Int), .int .i64 (D.doc.edits : Int), .int .i64 (D.doc.kind : Int)] viewT)
  have hM3 := hM2.kept hk3 (fun _ _ h => h)
  have ha3 := hk3.get hn2 (fun h => h)
  generalize hV : w2.heap.size = V at hn3 hsz3 hA2 ⊢
  generalize w2.alloc (Obj.cells #[.int .i64 (D.doc.lines.length : Int), .int .i64 (D.doc.edits : Int), .int .i64 (D.doc.kind : Int)] viewT) = w3 at hn3 hsz3 hk3 hM3 ha3 ⊢
  refine (pick_keep kind 8 8 rfl hkind (by decide) (by decide) w3).mono ?_
  rintro e w4 ⟨rfl, hw⟩
  rw [hw, hK]
  clear hw hc0 hca2
  have hkw : Kept no w w3 := (hk1.step hk2).step hk3
  have hraw3 := hraw.kept hkw (fun _ h => h.elim)
  have hR3 : DeskR w3 b bx bd D (deskFp b fx fd ft ff) := ⟨_, _, _, _, _, _, hM3, rfl⟩
  have hmv : ∀ w' D', DeskTo w3 w' b bx bd (deskFp b fx fd ft ff) D' → Going D' (N + 600) L → D'.doc.every = D.doc.every → MovedTo w w' b (deskFp b fx fd ft ff) D (N + 600) L := fun w' D' ⟨⟨fp', hr, hx⟩, hk⟩ g' he =>
    ⟨bx, bd, fp', D', hr, g', he, fun x hx' => by
      rcases hx x hx' with h | h
      · exact .inl h
      · have := hkw.size; exact .inr (by omega), (hkw.mono (fun _ h _ => h.elim)).step hk⟩
  obtain ⟨hcA, _⟩ := cells_of ha3
  obtain ⟨hcV, _⟩ := cells_of hn3
  obtain ⟨hcB, _⟩ := cells_of hM3.cells
  have hv : ∀ W, Kept no w3 W → W.cell? ⟨A, 2, none⟩ = some v := fun W hW => hW.read (by rw [hcA]; rfl) (fun h => h)
  have hf := hraw.fits
  have hgo : ∀ i, RawOk (raw.getD i 0) := fun i => by
    rw [List.getD_eq_getElem?_getD]
    cases hx : raw[i]? with
    | none => exact ⟨by decide, by decide⟩
    | some x => exact hf x (List.mem_of_getElem? hx)
  go_wp2_with fail
  refine wp_region3 (fun W => Kept no w3 W) [(0, true), (1, true), (2, false), (4, true), (5, false), (7, true), (8, false)] [3, 6, 9, 10, 11] (by kernel_rfl) (by kernel_rfl) (fun _ _ d _ _ h => by cases d <;> exact h) ((Kept.refl _ _).drew) ?_
  repeat ((first | refine wpPre3_pure rfl rfl (fun W => (by go_simp; rfl)) ?_ | refine wpPre3_read rfl rfl (fun W hW => (by have h1 := hv W hW; go_simp; rfl)) ?_); simp only [Act.put, List.setIfInBounds_toArray, List.set])
  refine wpPre3_nil ?_
  have hk4 : Kept no w3 w3.drew := (Kept.refl _ _).drew
  have hraw4 := hraw3.kept hk4 (fun _ h => h.elim)
  have hR4 := hR3.kept hk4 (fun _ _ h => h)
  generalize w3.drew = w4 at hk4 hraw4 hR4 ⊢
  refine wpTail3_cons rfl rfl (fun K hK => ?_)
  go_wp2_with fail
  refine (number_any hraw4 0 0 rfl (by decide)).mono ?_
  rintro e w5 ⟨rfl, hw⟩
  rw [hw]
  clear hw
  refine hK _ _ ⟨fun h => h, ?_⟩
  clear hK
  refine wpTail3_cons rfl rfl (fun K hK => ?_)
  go_wp2_with fail
  refine (number_any hraw4 1 1 rfl (by decide)).mono ?_
  rintro e w5 ⟨rfl, hw⟩
  rw [hw]
  clear hw
  refine hK _ _ ⟨fun h => h, ?_⟩
  clear hK
  refine wpTail3_cons rfl rfl (fun K hK => ?_)
  go_wp2_with fail
  refine (number_any hraw4 2 2 rfl (by decide)).mono ?_
  rintro e w5 ⟨rfl, hw⟩
  rw [hw]
  clear hw
  refine hK _ _ ⟨fun h => h, ?_⟩
  clear hK
  refine wpTail3_last (by kernel_rfl) rfl rfl (fun K hK => ?_)
  go_wp2_with fail
  refine (edit_any hR4 g.ok (by omega) (raw.getD 0 0) (raw.getD 1 0) (raw.getD 2 0) (hgo 0) (hgo 1) (hgo 2)).mono ?_
  rintro e w5 ⟨rfl, hT⟩
  refine hK _ _ ?_
  clear hK
  refine wpTail3_last (by kernel_rfl) rfl rfl (fun K hK => ?_)
  go_wp2_with fail
  refine wpTail3_nil ?_
  go_wp2
  go_ret
  have hT' : DeskTo w3 w5 b bx bd (deskFp b fx fd ft ff) (D.edit (raw.getD 0 0) (raw.getD 1 0) (raw.getD 2 0)) := ⟨by
    obtain ⟨fp', hr, hx⟩ := hT.ex
    exact ⟨fp', hr, fun x hx' => (hx x hx').imp id (fun h => by have := hk4.size; omega)⟩, (hk4.mono (fun _ h _ => h.elim)).step hT.kept⟩
  obtain ⟨g2, he2⟩ := g.edit (raw.getD 0 0) (raw.getD 1 0) (raw.getD 2 0)
  exact ⟨by simp, hmv _ _ hT' (g2.mono (by omega)) he2⟩

set_option maxRecDepth 100000 in
set_option maxHeartbeats 8000000 in
theorem move_edit1 {w b bx bd D fp N L B} (h : DeskR w b bx bd D fp) (g : Going D N L) (hN : N + 600 ≤ 1000000000000) (hL : L ≤ 1000000000000) (kind n : Int) (v : Value) (raw : List Int) (hraw : IntsAt w B v raw) (hBw : ∀ x ∈ fp, B ≤ x) (hkind : RawOk kind) (hn : RawOk n) (hK : pickN kind 8 = 1) :
    Calls Tryz.prog 31 #[.pointer (some ⟨b, 0, none⟩), .agg #[.int .i64 kind, .int .i64 n, v]] w fun e w' => e = .returned (.bool true) ∧ MovedTo w w' b fp D (N + 600) L := by
  obtain ⟨vt, vf, fx, fd, ft, ff, hM, rfl⟩ := h
  have hb0 : b < w.heap.size := lt_of_heap hM.cells
  obtain ⟨hc0, _⟩ := cells_of hM.cells
  go_enter Tryz.func31, Tryz.ntmps31
  go_wp2_with fail
  obtain ⟨hn1, hsz1, hk1⟩ := new1 w (Obj.cells #[.int .i64 kind, .int .i64 n, v] 40)
  have hM1 := hM.kept hk1 (fun _ _ h => h)
  generalize hA : w.heap.size = A at hn1 hsz1 ⊢
  generalize w.alloc (Obj.cells #[.int .i64 kind, .int .i64 n, v] 40) = w1 at hn1 hsz1 hk1 hM1 ⊢
  refine (look_doc hM1.doc).mono ?_
  rintro e w2 ⟨rfl, hk2⟩
  have hM2 := hM1.kept hk2 (fun _ _ h => h)
  have hn2 := hk2.get hn1 (fun h => h)
  obtain ⟨hca2, _⟩ := cells_of hn2
  have hA2 : A < w2.heap.size := lt_of_heap hn2
  go_wp2_with fail
  obtain ⟨hn3, hsz3, hk3⟩ := new1 w2 (Obj.cells #[.int .i64 (D.doc.lines.length : Int), .int .i64 (D.doc.edits : Int), .int .i64 (D.doc.kind : Int)] viewT)
  have hM3 := hM2.kept hk3 (fun _ _ h => h)
  have ha3 := hk3.get hn2 (fun h => h)
  generalize hV : w2.heap.size = V at hn3 hsz3 hA2 ⊢
  generalize w2.alloc (Obj.cells #[.int .i64 (D.doc.lines.length : Int), .int .i64 (D.doc.edits : Int), .int .i64 (D.doc.kind : Int)] viewT) = w3 at hn3 hsz3 hk3 hM3 ha3 ⊢
  refine (pick_keep kind 8 8 rfl hkind (by decide) (by decide) w3).mono ?_
  rintro e w4 ⟨rfl, hw⟩
  rw [hw, hK]
  clear hw hc0 hca2
  have hkw : Kept no w w3 := (hk1.step hk2).step hk3
  have hraw3 := hraw.kept hkw (fun _ h => h.elim)
  have hR3 : DeskR w3 b bx bd D (deskFp b fx fd ft ff) := ⟨_, _, _, _, _, _, hM3, rfl⟩
  have hmv : ∀ w' D', DeskTo w3 w' b bx bd (deskFp b fx fd ft ff) D' → Going D' (N + 600) L → D'.doc.every = D.doc.every → MovedTo w w' b (deskFp b fx fd ft ff) D (N + 600) L := fun w' D' ⟨⟨fp', hr, hx⟩, hk⟩ g' he =>
    ⟨bx, bd, fp', D', hr, g', he, fun x hx' => by
      rcases hx x hx' with h | h
      · exact .inl h
      · have := hkw.size; exact .inr (by omega), (hkw.mono (fun _ h _ => h.elim)).step hk⟩
  obtain ⟨hcA, _⟩ := cells_of ha3
  obtain ⟨hcV, _⟩ := cells_of hn3
  obtain ⟨hcB, _⟩ := cells_of hM3.cells
  have hv : ∀ W, Kept no w3 W → W.cell? ⟨A, 2, none⟩ = some v := fun W hW => hW.read (by rw [hcA]; rfl) (fun h => h)
  have hf := hraw.fits
  have hgo : ∀ i, RawOk (raw.getD i 0) := fun i => by
    rw [List.getD_eq_getElem?_getD]
    cases hx : raw[i]? with
    | none => exact ⟨by decide, by decide⟩
    | some x => exact hf x (List.mem_of_getElem? hx)
  go_wp2_with fail
  refine wp_region3 (fun W => Kept no w3 W) [(0, true), (1, true), (2, false), (4, true), (5, false), (7, true), (8, false)] [3, 6, 9, 10, 11] (by kernel_rfl) (by kernel_rfl) (fun _ _ d _ _ h => by cases d <;> exact h) ((Kept.refl _ _).drew) ?_
  repeat ((first | refine wpPre3_pure rfl rfl (fun W => (by go_simp; rfl)) ?_ | refine wpPre3_read rfl rfl (fun W hW => (by have h1 := hv W hW; go_simp; rfl)) ?_); simp only [Act.put, List.setIfInBounds_toArray, List.set])
  refine wpPre3_nil ?_
  have hk4 : Kept no w3 w3.drew := (Kept.refl _ _).drew
  have hraw4 := hraw3.kept hk4 (fun _ h => h.elim)
  have hR4 := hR3.kept hk4 (fun _ _ h => h)
  generalize w3.drew = w4 at hk4 hraw4 hR4 ⊢
  refine wpTail3_cons rfl rfl (fun K hK => ?_)
  go_wp2_with fail
  refine (number_any hraw4 0 0 rfl (by decide)).mono ?_
  rintro e w5 ⟨rfl, hw⟩
  rw [hw]
  clear hw
  refine hK _ _ ⟨fun h => h, ?_⟩
  clear hK
  refine wpTail3_cons rfl rfl (fun K hK => ?_)
  go_wp2_with fail
  refine (number_any hraw4 1 1 rfl (by decide)).mono ?_
  rintro e w5 ⟨rfl, hw⟩
  rw [hw]
  clear hw
  refine hK _ _ ⟨fun h => h, ?_⟩
  clear hK
  refine wpTail3_cons rfl rfl (fun K hK => ?_)
  go_wp2_with fail
  refine (number_any hraw4 2 2 rfl (by decide)).mono ?_
  rintro e w5 ⟨rfl, hw⟩
  rw [hw]
  clear hw
  refine hK _ _ ⟨fun h => h, ?_⟩
  clear hK
  refine wpTail3_last (by kernel_rfl) rfl rfl (fun K hK => ?_)
  go_wp2_with fail
  refine (edit_any hR4 g.ok (by omega) (raw.getD 0 0) (raw.getD 1 0) (raw.getD 2 0) (hgo 0) (hgo 1) (hgo 2)).mono ?_
  rintro e w5 ⟨rfl, hT⟩
  refine hK _ _ ?_
  clear hK
  refine wpTail3_last (by kernel_rfl) rfl rfl (fun K hK => ?_)
  go_wp2_with fail
  refine wpTail3_nil ?_
  go_wp2
  go_ret
  have hT' : DeskTo w3 w5 b bx bd (deskFp b fx fd ft ff) (D.edit (raw.getD 0 0) (raw.getD 1 0) (raw.getD 2 0)) := ⟨by
    obtain ⟨fp', hr, hx⟩ := hT.ex
    exact ⟨fp', hr, fun x hx' => (hx x hx').imp id (fun h => by have := hk4.size; omega)⟩, (hk4.mono (fun _ h _ => h.elim)).step hT.kept⟩
  obtain ⟨g2, he2⟩ := g.edit (raw.getD 0 0) (raw.getD 1 0) (raw.getD 2 0)
  exact ⟨by simp, hmv _ _ hT' (g2.mono (by omega)) he2⟩

set_option maxRecDepth 100000 in
set_option maxHeartbeats 8000000 in
theorem move_edit2 {w b bx bd D fp N L B} (h : DeskR w b bx bd D fp) (g : Going D N L) (hN : N + 600 ≤ 1000000000000) (hL : L ≤ 1000000000000) (kind n : Int) (v : Value) (raw : List Int) (hraw : IntsAt w B v raw) (hBw : ∀ x ∈ fp, B ≤ x) (hkind : RawOk kind) (hn : RawOk n) (hK : pickN kind 8 = 2) :
    Calls Tryz.prog 31 #[.pointer (some ⟨b, 0, none⟩), .agg #[.int .i64 kind, .int .i64 n, v]] w fun e w' => e = .returned (.bool true) ∧ MovedTo w w' b fp D (N + 600) L := by
  obtain ⟨vt, vf, fx, fd, ft, ff, hM, rfl⟩ := h
  have hb0 : b < w.heap.size := lt_of_heap hM.cells
  obtain ⟨hc0, _⟩ := cells_of hM.cells
  go_enter Tryz.func31, Tryz.ntmps31
  go_wp2_with fail
  obtain ⟨hn1, hsz1, hk1⟩ := new1 w (Obj.cells #[.int .i64 kind, .int .i64 n, v] 40)
  have hM1 := hM.kept hk1 (fun _ _ h => h)
  generalize hA : w.heap.size = A at hn1 hsz1 ⊢
  generalize w.alloc (Obj.cells #[.int .i64 kind, .int .i64 n, v] 40) = w1 at hn1 hsz1 hk1 hM1 ⊢
  refine (look_doc hM1.doc).mono ?_
  rintro e w2 ⟨rfl, hk2⟩
  have hM2 := hM1.kept hk2 (fun _ _ h => h)
  have hn2 := hk2.get hn1 (fun h => h)
  obtain ⟨hca2, _⟩ := cells_of hn2
  have hA2 : A < w2.heap.size := lt_of_heap hn2
  go_wp2_with fail
  obtain ⟨hn3, hsz3, hk3⟩ := new1 w2 (Obj.cells #[.int .i64 (D.doc.lines.length : Int), .int .i64 (D.doc.edits : Int), .int .i64 (D.doc.kind : Int)] viewT)
  have hM3 := hM2.kept hk3 (fun _ _ h => h)
  have ha3 := hk3.get hn2 (fun h => h)
  generalize hV : w2.heap.size = V at hn3 hsz3 hA2 ⊢
  generalize w2.alloc (Obj.cells #[.int .i64 (D.doc.lines.length : Int), .int .i64 (D.doc.edits : Int), .int .i64 (D.doc.kind : Int)] viewT) = w3 at hn3 hsz3 hk3 hM3 ha3 ⊢
  refine (pick_keep kind 8 8 rfl hkind (by decide) (by decide) w3).mono ?_
  rintro e w4 ⟨rfl, hw⟩
  rw [hw, hK]
  clear hw hc0 hca2
  have hkw : Kept no w w3 := (hk1.step hk2).step hk3
  have hraw3 := hraw.kept hkw (fun _ h => h.elim)
  have hR3 : DeskR w3 b bx bd D (deskFp b fx fd ft ff) := ⟨_, _, _, _, _, _, hM3, rfl⟩
  have hmv : ∀ w' D', DeskTo w3 w' b bx bd (deskFp b fx fd ft ff) D' → Going D' (N + 600) L → D'.doc.every = D.doc.every → MovedTo w w' b (deskFp b fx fd ft ff) D (N + 600) L := fun w' D' ⟨⟨fp', hr, hx⟩, hk⟩ g' he =>
    ⟨bx, bd, fp', D', hr, g', he, fun x hx' => by
      rcases hx x hx' with h | h
      · exact .inl h
      · have := hkw.size; exact .inr (by omega), (hkw.mono (fun _ h _ => h.elim)).step hk⟩
  obtain ⟨hcA, _⟩ := cells_of ha3
  obtain ⟨hcV, _⟩ := cells_of hn3
  obtain ⟨hcB, _⟩ := cells_of hM3.cells
  have hv : ∀ W, Kept no w3 W → W.cell? ⟨A, 2, none⟩ = some v := fun W hW => hW.read (by rw [hcA]; rfl) (fun h => h)
  have hf := hraw.fits
  have hgo : ∀ i, RawOk (raw.getD i 0) := fun i => by
    rw [List.getD_eq_getElem?_getD]
    cases hx : raw[i]? with
    | none => exact ⟨by decide, by decide⟩
    | some x => exact hf x (List.mem_of_getElem? hx)
  go_wp2_with fail
  refine wp_region3 (fun W => Kept no w3 W) [(0, true), (1, true), (2, false), (4, true), (5, false), (7, true), (8, false)] [3, 6, 9, 10, 11] (by kernel_rfl) (by kernel_rfl) (fun _ _ d _ _ h => by cases d <;> exact h) ((Kept.refl _ _).drew) ?_
  repeat ((first | refine wpPre3_pure rfl rfl (fun W => (by go_simp; rfl)) ?_ | refine wpPre3_read rfl rfl (fun W hW => (by have h1 := hv W hW; go_simp; rfl)) ?_); simp only [Act.put, List.setIfInBounds_toArray, List.set])
  refine wpPre3_nil ?_
  have hk4 : Kept no w3 w3.drew := (Kept.refl _ _).drew
  have hraw4 := hraw3.kept hk4 (fun _ h => h.elim)
  have hR4 := hR3.kept hk4 (fun _ _ h => h)
  generalize w3.drew = w4 at hk4 hraw4 hR4 ⊢
  refine wpTail3_cons rfl rfl (fun K hK => ?_)
  go_wp2_with fail
  refine (number_any hraw4 0 0 rfl (by decide)).mono ?_
  rintro e w5 ⟨rfl, hw⟩
  rw [hw]
  clear hw
  refine hK _ _ ⟨fun h => h, ?_⟩
  clear hK
  refine wpTail3_cons rfl rfl (fun K hK => ?_)
  go_wp2_with fail
  refine (number_any hraw4 1 1 rfl (by decide)).mono ?_
  rintro e w5 ⟨rfl, hw⟩
  rw [hw]
  clear hw
  refine hK _ _ ⟨fun h => h, ?_⟩
  clear hK
  refine wpTail3_cons rfl rfl (fun K hK => ?_)
  go_wp2_with fail
  refine (number_any hraw4 2 2 rfl (by decide)).mono ?_
  rintro e w5 ⟨rfl, hw⟩
  rw [hw]
  clear hw
  refine hK _ _ ⟨fun h => h, ?_⟩
  clear hK
  refine wpTail3_last (by kernel_rfl) rfl rfl (fun K hK => ?_)
  go_wp2_with fail
  refine (edit_any hR4 g.ok (by omega) (raw.getD 0 0) (raw.getD 1 0) (raw.getD 2 0) (hgo 0) (hgo 1) (hgo 2)).mono ?_
  rintro e w5 ⟨rfl, hT⟩
  refine hK _ _ ?_
  clear hK
  refine wpTail3_last (by kernel_rfl) rfl rfl (fun K hK => ?_)
  go_wp2_with fail
  refine wpTail3_nil ?_
  go_wp2
  go_ret
  have hT' : DeskTo w3 w5 b bx bd (deskFp b fx fd ft ff) (D.edit (raw.getD 0 0) (raw.getD 1 0) (raw.getD 2 0)) := ⟨by
    obtain ⟨fp', hr, hx⟩ := hT.ex
    exact ⟨fp', hr, fun x hx' => (hx x hx').imp id (fun h => by have := hk4.size; omega)⟩, (hk4.mono (fun _ h _ => h.elim)).step hT.kept⟩
  obtain ⟨g2, he2⟩ := g.edit (raw.getD 0 0) (raw.getD 1 0) (raw.getD 2 0)
  exact ⟨by simp, hmv _ _ hT' (g2.mono (by omega)) he2⟩
end Go.Proofs.YtdpfohgkikjeaaaGreat
/- move: a failure of the computer. -/
namespace Go.Proofs.YtdpfohgkikjeaaaGreat
open Go.RowKit
set_option linter.unusedVariables false
set_option linter.unusedSimpArgs false

theorem leavesFile_len {d : DiskS} {N L : Nat} (h : d.Lens N L) {f : Str} (hf : d.LeavesFile f) : f.length ≤ L := by
  have h1 := h.file
  have h2 := h.before
  rcases hf with rfl | ⟨_, rfl | ⟨n, _, _, rfl⟩⟩
  · exact h1
  · exact h2
  · rw [List.length_take]; omega

set_option maxRecDepth 100000 in
set_option maxHeartbeats 8000000 in
theorem move_crash {w b bx bd D fp N L B} (h : DeskR w b bx bd D fp) (g : Going D N L) (hN : N + 600 ≤ 1000000000000) (hL : L ≤ 1000000000000) (kind n : Int) (v : Value) (raw : List Int) (hraw : IntsAt w B v raw) (hBw : ∀ x ∈ fp, B ≤ x) (hkind : RawOk kind) (hn : RawOk n) (hK : pickN kind 8 = 7) :
    Calls Tryz.prog 31 #[.pointer (some ⟨b, 0, none⟩), .agg #[.int .i64 kind, .int .i64 n, v]] w fun e w' => e = .returned (.bool true) ∧ MovedTo w w' b fp D (N + 600) L := by
  obtain ⟨vt, vf, fx, fd, ft, ff, hM, rfl⟩ := h
  have hb0 : b < w.heap.size := lt_of_heap hM.cells
  obtain ⟨hc0, _⟩ := cells_of hM.cells
  go_enter Tryz.func31, Tryz.ntmps31
  go_wp2_with fail
  obtain ⟨hn1, hsz1, hk1⟩ := new1 w (Obj.cells #[.int .i64 kind, .int .i64 n, v] 40)
  have hM1 := hM.kept hk1 (fun _ _ h => h)
  generalize hA : w.heap.size = A at hn1 hsz1 ⊢
  generalize w.alloc (Obj.cells #[.int .i64 kind, .int .i64 n, v] 40) = w1 at hn1 hsz1 hk1 hM1 ⊢
  refine (look_doc hM1.doc).mono ?_
  rintro e w2 ⟨rfl, hk2⟩
  have hM2 := hM1.kept hk2 (fun _ _ h => h)
  have hn2 := hk2.get hn1 (fun h => h)
  obtain ⟨hca2, _⟩ := cells_of hn2
  have hA2 : A < w2.heap.size := lt_of_heap hn2
  go_wp2_with fail
  obtain ⟨hn3, hsz3, hk3⟩ := new1 w2 (Obj.cells #[.int .i64 (D.doc.lines.length : Int), .int .i64 (D.doc.edits : Int), .int .i64 (D.doc.kind : Int)] viewT)
  have hM3 := hM2.kept hk3 (fun _ _ h => h)
  have ha3 := hk3.get hn2 (fun h => h)
  generalize hV : w2.heap.size = V at hn3 hsz3 hA2 ⊢
  generalize w2.alloc (Obj.cells #[.int .i64 (D.doc.lines.length : Int), .int .i64 (D.doc.edits : Int), .int .i64 (D.doc.kind : Int)] viewT) = w3 at hn3 hsz3 hk3 hM3 ha3 ⊢
  refine (pick_keep kind 8 8 rfl hkind (by decide) (by decide) w3).mono ?_
  rintro e w4 ⟨rfl, hw⟩
  rw [hw, hK]
  clear hw hc0 hca2
  have hkw : Kept no w w3 := (hk1.step hk2).step hk3
  have hraw3 := hraw.kept hkw (fun _ h => h.elim)
  have hR3 : DeskR w3 b bx bd D (deskFp b fx fd ft ff) := ⟨_, _, _, _, _, _, hM3, rfl⟩
  have hmv : ∀ w' D', DeskTo w3 w' b bx bd (deskFp b fx fd ft ff) D' → Going D' (N + 600) L → D'.doc.every = D.doc.every → MovedTo w w' b (deskFp b fx fd ft ff) D (N + 600) L := fun w' D' ⟨⟨fp', hr, hx⟩, hk⟩ g' he =>
    ⟨bx, bd, fp', D', hr, g', he, fun x hx' => by
      rcases hx x hx' with h | h
      · exact .inl h
      · have := hkw.size; exact .inr (by omega), (hkw.mono (fun _ h _ => h.elim)).step hk⟩
  obtain ⟨hcA, _⟩ := cells_of ha3
  obtain ⟨hcV, _⟩ := cells_of hn3
  obtain ⟨hcB, _⟩ := cells_of hM3.cells
  have hbd : ∀ W, Kept no w3 W → W.cell? ⟨b, 1, none⟩ = some (.pointer (some ⟨bd, 0, none⟩)) := fun W hW => hW.read (by rw [hcB]; rfl) (fun h => h)
  have hv : ∀ W, Kept no w3 W → W.cell? ⟨A, 2, none⟩ = some v := fun W hW => hW.read (by rw [hcA]; rfl) (fun h => h)
  go_wp2_with fail
  refine wp_region3 (fun W => Kept no w3 W) [(0, true), (1, true), (2, true), (3, true), (4, false), (5, true), (6, false)] [7, 8, 9] (by kernel_rfl) (by kernel_rfl) (fun _ _ d _ _ h => by cases d <;> exact h) ((Kept.refl _ _).drew) ?_
  repeat ((first | refine wpPre3_pure rfl rfl (fun W => (by go_simp; rfl)) ?_ | refine wpPre3_read rfl rfl (fun W hW => (by have h1 := hv W hW; have h2 := hbd W hW; go_simp; rfl)) ?_); simp only [Act.put, List.setIfInBounds_toArray, List.set])
  refine wpPre3_nil ?_
  have hk4 : Kept no w3 w3.drew := (Kept.refl _ _).drew
  have hraw4 := hraw3.kept hk4 (fun _ h => h.elim)
  have hM4 := hM3.kept hk4 (fun _ _ h => h)
  generalize w3.drew = w4 at hk4 hraw4 hM4 ⊢
  refine wpTail3_cons rfl rfl (fun K hK => ?_)
  go_wp2_with fail
  refine (crash_any hM4.disk g.ok.lens (by omega) hL hraw4).mono ?_
  rintro e w5 ⟨⟨BK, fk, secs, f, rfl, hKD, hsl, hlv, hlf, hkn, hk5⟩⟩
  refine hK _ _ ⟨fun h => h.step hk5, ?_⟩
  clear hK
  have hM5 := hM4.kept hk5 (fun _ _ h => h)
  have hR5 : DeskR w5 b bx bd D (deskFp b fx fd ft ff) := ⟨_, _, _, _, _, _, hM5, rfl⟩
  refine wpTail3_last (by kernel_rfl) rfl rfl (fun K hK => ?_)
  go_wp2_with fail
  refine (back_any hR5 g.ok g.known (by omega) hL hKD hsl hlv (g.ok.file.leaves hlf) g.mf g.mt (leavesFile_len g.ok.lens hlf) (fun x hx hx2 => by have := hkn x hx; have := hM4.lt x hx2; omega)).mono ?_
  rintro e w6 ⟨rfl, ls, hh, hd, bx', fp', hls, hch, hF, hR6, hok6, hx6, hk6⟩
  refine hK _ _ ?_
  clear hK
  refine wpTail3_last (by kernel_rfl) rfl rfl (fun K hK => ?_)
  go_wp2_with fail
  refine wpTail3_nil ?_
  go_wp2
  go_ret
  have hs34 := hk4.size
  have hs45 := hk5.size
  have hsw := hkw.size
  refine ⟨by simp, bx', BK, fp', _, hR6, ⟨hok6.mono (by omega), rfl, rfl, rfl⟩, rfl, fun x hx => ?_, ((hkw.step (hk4.step hk5)).mono (T := fun x => x ∈ deskFp b fx fd ft ff) (fun _ h _ => h.elim)).step hk6⟩
  rcases hx6 x hx with h | h | h
  · exact .inl h
  · have := hkn x h; exact .inr (by omega)
  · exact .inr (by omega)
end Go.Proofs.YtdpfohgkikjeaaaGreat

/- Part 25 of the proof: see its parts. -/
import Derived.Test.YtdpfohgkikjeaaaGreatU24
/- back. -/
namespace Go.Proofs.YtdpfohgkikjeaaaGreat
open Go.RowKit
set_option linter.unusedVariables false
set_option linter.unusedSimpArgs false

set_option maxRecDepth 100000 in
set_option maxHeartbeats 8000000 in
theorem back_any {w b bx bd D fp N L} (h : DeskR w b bx bd D fp) (ok : D.Ok N L) (hkn : D.doc.wr.known = true) (hN : N ≤ 8000000000000) (hL : L ≤ 1000000000000) {bk : Nat} {secs : List Str} {f : Str} {fk : List Nat} (hd : DiskR w bk (DiskS.of secs f) fk) (hl : secs.length = 400) (hlv : D.disk.Leaves secs) (hlf : f ∈ D.files) (hmf : D.mf = D.files) (hmt : D.mt = D.ch.map (·.1)) (hfl : f.length ≤ L) (hap : ∀ x ∈ fk, x ∉ fp) :
    Calls Tryz.prog 14 #[.pointer (some ⟨b, 0, none⟩), .pointer (some ⟨bk, 0, none⟩)] w fun e w' => e = .returned (.bool true) ∧ ∃ ls hh hd bx' fp', TextOk ls ∧ (textOf ls, hd.file) ∈ D.ch ∧ Finds (imgOf secs) hh hd (textOf ls) ∧ DeskR w' b bx' bk (DeskS.back ls f D.doc.every hh hd secs D.most) fp' ∧ (DeskS.back ls f D.doc.every hh hd secs D.most).Ok 1 L ∧ (∀ x ∈ fp', x ∈ fp ∨ x ∈ fk ∨ w.heap.size ≤ x) ∧ Kept (fun x => x ∈ fp) w w' := by
  obtain ⟨vt, vf, fx, fd, ft, ff, hM, rfl⟩ := h
  obtain ⟨hh, hdh, ls, hls, hF, hch⟩ := back_finds ok hkn hlv
  have h64 := leaves_size ok.lens hlv
  have hmem : textOf ls ∈ D.mt := by rw [hmt]; exact List.mem_map.2 ⟨_, hch, rfl⟩
  have hTl : D.mt.length ≤ N := ok.mtN
  have hFl := ok.mfN
  have hlf' : f ∈ D.mf := by rw [hmf]; exact hlf
  generalize hTT : D.mt = T at hM hmem hTl
  generalize hMM : D.mf = M at hM hlf' hFl
  clear hTT hMM hmf hmt
  have hlen0 : (DiskS.of secs f).Lens 1 L := by
    refine ⟨by show (List.map _ secs).length = 400; rw [List.length_map]; exact hl, fun r hr => ?_, fun r hr => ?_, fun r hr s hs => ?_, hfl, Nat.zero_le _, Nat.zero_le _, fun e => (by cases e), Nat.zero_le _⟩
    all_goals
      obtain ⟨x, hx, rfl⟩ := List.mem_map.1 hr
    · simp
    · simp
    · simp only [List.mem_cons, List.not_mem_nil, or_false] at hs
      rw [hs]; exact h64 x hx
  have hnow : (DiskS.of secs f).now = secs := by
    show List.map lastOf (List.map _ secs) = secs
    rw [List.map_map]
    conv => rhs; rw [← List.map_id secs]
    rfl
  have hbk1 : ∀ W, Kept no w W → W.cell? ⟨bk, 1, none⟩ = some (sv f) := fun W hW => hW.read hd.fileCell (fun h => h)
  have hb5 : ∀ W, Kept no w W → W.cell? ⟨b, 5, none⟩ = some (.int .i64 (D.doc.every : Int)) := fun W hW => hW.read (by rw [(cells_of hM.cells).1]; rfl) (fun h => h)
  have he1 := ok.doc.every1
  have he2 := ok.doc.every2
  obtain ⟨same, hsame⟩ : ∃ same : Bool, same = true ↔ markOf f = hdh.file := by
    by_cases e : markOf f = hdh.file
    · exact ⟨true, by simp [e]⟩
    · exact ⟨false, by simp [e]⟩
  go_enter Tryz.func14, Tryz.ntmps14
  go_wp2_with fail
  refine wp_region5 (fun W => Kept no w W) [(0, true), (2, true), (3, true), (4, true), (5, false), (6, true), (7, true), (8, true), (9, false)] [(1, false), (10, false), (11, true), (12, true), (13, true), (14, true), (15, true), (16, true), (17, true)] (by kernel_rfl) (by kernel_rfl) (fun _ _ d _ _ h => by cases d <;> exact h) ((Kept.refl _ _).drew) ?_
  repeat ((first | refine wpPre3_pure rfl rfl (fun W => (by go_simp; rfl)) ?_ | refine wpPre3_read rfl rfl (fun W hW => (by have h1 := hbk1 W hW; have h2 := hb5 W hW; go_simp; rfl)) ?_); simp only [Act.put, List.setIfInBounds_toArray, List.set])
  refine wpPre3_nil ?_
  have hk1 : Kept no w w.drew := (Kept.refl _ _).drew
  generalize w.drew = w1 at hk1 ⊢
  have hd1 := hd.kept hk1 (fun _ _ h => h)
  refine wpMix_cons rfl rfl (fun K hK => ?_)
  go_wp2_with fail
  refine (now_any hd1 hlen0 (by decide)).mono ?_
  rintro e w2 ⟨v, rfl, hrow, hvn, hk2⟩
  refine hK _ _ ⟨fun h => h.step hk2, ?_⟩
  clear hK
  rw [hnow] at hrow
  refine wpMix_cons rfl rfl (fun K hK => ?_)
  go_wp2_with fail
  refine (recover_yes hrow hl h64 hls hF f (by omega) D.doc.every _ rfl he1 he2 same hsame).mono ?_
  rintro e w3 ⟨B, fB, rfl, hDoc, hBn, hk3⟩
  refine hK _ _ ⟨fun h => h.step hk3, ?_⟩
  clear hK
  repeat (refine wpMix_pure rfl rfl (fun W => (by go_simp; rfl)) ?_; simp only [Act.put, List.setIfInBounds_toArray, List.set])
  refine wpMix_nil ?_
  go_wp2_with fail
  have hk03 : Kept no w w3 := (hk1.step hk2).step hk3
  have hM3 := hM.kept hk03 (fun _ _ h => h)
  have hd3 := hd.kept hk03 (fun _ _ h => h)
  have hdok := hDoc.ok
  have htx : (DocS.readBack ls f D.doc.every hh hdh.number).text = textOf ls := rfl
  have hrk : ((DocS.readBack ls f D.doc.every hh hdh.number).kind : Int) = 0 := rfl
  have hre : ((DocS.readBack ls f D.doc.every hh hdh.number).edits : Int) = 0 := rfl
  have hll := hls.length
  generalize hq : DocS.readBack ls f D.doc.every hh hdh.number = q at *
  have HQ : Hid (DocS.readBack ls f D.doc.every hh hdh.number = q) := hq
  clear hq
  refine (text_doc hDoc).mono ?_
  rintro e w4 ⟨rfl, hk4⟩
  rw [htx]
  generalize ht : textOf ls = t at *
  have HT : Hid (textOf ls = t) := ht
  clear ht
  have hDoc4 := hDoc.kept hk4 (fun _ _ h => h)
  have hM4 := hM3.kept hk4 (fun _ _ h => h)
  have hd4 := hd3.kept hk4 (fun _ _ h => h)
  go_wp2_with fail
  refine (look_doc hDoc4).mono ?_
  rintro e w5 ⟨rfl, hk5⟩
  have hDoc5 := hDoc4.kept hk5 (fun _ _ h => h)
  have hM5 := hM4.kept hk5 (fun _ _ h => h)
  have hd5 := hd4.kept hk5 (fun _ _ h => h)
  obtain ⟨hc5, _⟩ := cells_of hM5.cells
  have hb5l : b < w5.heap.size := lt_of_heap hM5.cells
  obtain ⟨pt, ct, rfl, hct1, hct2, hctc⟩ := hM5.texts.slice
  go_wp2_with fail
  obtain ⟨hn6, hsz6, hk6⟩ := new1 w5 (Obj.cells #[.int .i64 (q.lines.length : Int), .int .i64 0, .int .i64 0] viewT)
  have hDoc6 := hDoc5.kept hk6 (fun _ _ h => h)
  have hM6 := hM5.kept hk6 (fun _ _ h => h)
  have hd6 := hd5.kept hk6 (fun _ _ h => h)
  have hctc6 : ∀ k (hk : k < T.length), ∃ b o, pt = some ⟨b, o, none⟩ ∧ (w5.alloc (Obj.cells #[.int .i64 (q.lines.length : Int), .int .i64 0, .int .i64 0] viewT)).cell? ⟨b, o + k, none⟩ = some (sv T[k]) := fun k hk => by
    obtain ⟨b', o', e1, e2⟩ := hctc k hk
    exact ⟨b', o', e1, hk6.read e2 (fun h => h)⟩
  generalize hV : w5.heap.size = V at hn6 hsz6 ⊢
  generalize w5.alloc (Obj.cells #[.int .i64 (q.lines.length : Int), .int .i64 0, .int .i64 0] viewT) = w6 at hn6 hsz6 hk6 hDoc6 hM6 hd6 hctc6 ⊢
  refine (one_any (w := w6) (pv := pt) (n := T.length) (cv := ct) t T rfl (by omega) true (by simpa using hmem) hctc6).mono ?_
  rintro e w7 ⟨rfl, hw⟩
  rw [hw]
  clear hw hctc hctc6
  go_wp2_with fail
  obtain ⟨pf, cf, rfl, hcf1, hcf2, hcfc⟩ := hM6.files.slice
  have hbk1' : ∀ W, Kept no w6 W → W.cell? ⟨bk, 1, none⟩ = some (sv f) := fun W hW => hW.read hd6.fileCell (fun h => h)
  have hb3 : ∀ W, Kept no w6 W → W.cell? ⟨b, 3, none⟩ = some (.slice pf M.length cf) := fun W hW => hW.read (by rw [(cells_of hM6.cells).1]; rfl) (fun h => h)
  have hcf' : ∀ W, Kept no w6 W → ∀ k (hk : k < M.length), ∃ b o, pf = some ⟨b, o, none⟩ ∧ W.cell? ⟨b, o + k, none⟩ = some (sv M[k]) := fun W hW k hk => by
    obtain ⟨b', o', e1, e2⟩ := hcfc k hk
    exact ⟨b', o', e1, hW.read e2 (fun h => h)⟩
  refine wp_region3 (fun W => Kept no w6 W) [(0, true), (1, true), (2, true), (3, false), (4, true), (5, true), (6, true), (7, false)] [8, 9] (by kernel_rfl) (by kernel_rfl) (fun _ _ d _ _ h => by cases d <;> exact h) ((Kept.refl _ _).drew) ?_
  repeat ((first | refine wpPre3_pure rfl rfl (fun W => (by go_simp; rfl)) ?_ | refine wpPre3_read rfl rfl (fun W hW => (by have h1 := hbk1' W hW; have h2 := hb3 W hW; go_simp; rfl)) ?_); simp only [Act.put, List.setIfInBounds_toArray, List.set])
  refine wpPre3_nil ?_
  have hk67 : Kept no w6 w6.drew := (Kept.refl _ _).drew
  have hcf7 := hcf' w6.drew hk67
  have hn7 := hk67.get hn6 (fun h => h)
  have hDoc7 := hDoc6.kept hk67 (fun _ _ h => h)
  have hM7 := hM6.kept hk67 (fun _ _ h => h)
  have hd7 := hd6.kept hk67 (fun _ _ h => h)
  generalize w6.drew = w7 at hk67 hcf7 hn7 hDoc7 hM7 hd7 ⊢
  refine wpTail3_cons rfl rfl (fun K hK => ?_)
  go_wp2_with fail
  refine (one_any (w := w7) (pv := pf) (n := M.length) (cv := cf) f M rfl (by omega) true (by simpa using hlf') hcf7).mono ?_
  rintro e w8 ⟨rfl, hw⟩
  rw [hw]
  clear hw hcf7 hcf' hcfc
  refine hK _ _ ⟨fun h => h, ?_⟩
  clear hK
  refine wpTail3_cons rfl rfl (fun K hK => ?_)
  go_wp2_with fail
  refine ⟨fun h => h, ?_⟩
  refine wpTail3_nil ?_
  have hkw7 : Kept no w w7 := (((hk03.step hk4).step hk5).step hk6).step hk67
  obtain ⟨hcv7, _⟩ := cells_of hn7
  obtain ⟨hcb7, hfb7⟩ := cells_of hM7.cells
  have hcd7 : w7.cell? ⟨bk, 1, none⟩ = some (sv f) := hd7.fileCell
  have hbl7 : b < w7.heap.size := lt_of_heap hM7.cells
  have hbkl7 : bk < w7.heap.size := hd7.lt bk hd7.mem
  have hbbk : ¬ bk = b := fun e => hap bk hd.mem (by rw [e]; simp)
  have hbbk2 : ¬ b = bk := fun e => hbbk e.symm
  clear hb3 hbk1' hbk1 hb5 hc5
  go_wp2_with fail
  have hfBn : ∀ x ∈ fB, w.heap.size ≤ x := fun x hx => by
    have := hBn x hx; have := (hk1.step hk2).size; omega
  have hT' := HT.out
  clear HT
  subst hT'
  have hQ' := HQ.out
  clear HQ
  subst hQ'
  obtain ⟨W8, hW8⟩ : ∃ W8, W8 = (((((w7.setCell ⟨b, 0, none⟩ (.pointer (some ⟨B, 0, none⟩))).setCell ⟨b, 1, none⟩ (.pointer (some ⟨bk, 0, none⟩))).setCell ⟨b, 2, none⟩ (.slice (some ⟨w7.heap.size, 0, none⟩) 1 1)).setCell ⟨b, 3, none⟩ (.slice (some ⟨w7.heap.size + 1, 0, none⟩) 1 1)).setCell ⟨b, 4, none⟩ (.string ⟨(textOf ls).toArray⟩)).setCell ⟨b, 6, none⟩ (.int .i64 0) := ⟨_, rfl⟩
  have hk8 : Kept (fun x => x = b) w7 W8 := by
    rw [hW8]; exact ((((Kept.cell1.step Kept.cell1).step Kept.cell1).step Kept.cell1).step Kept.cell1).step Kept.cell1
  have hs8 : W8.heap.size = w7.heap.size := by rw [hW8]; simp
  have hb8 : W8.heap[b]? = some (.cells (deskCells B bk (.slice (some ⟨w7.heap.size, 0, none⟩) 1 1) (.slice (some ⟨w7.heap.size + 1, 0, none⟩) 1 1) ⟨textOf ls, D.doc.every, 0, D.most⟩) deskT (0, 0)) := by
    rw [hW8, heap_set_same (heap_set_same (heap_set_same (heap_set_same (heap_set_same (heap_set_same hM7.cells)))))]
    simp
  rw [← hW8]
  obtain ⟨hn9, hsz9, hk9⟩ := new1 W8 (Obj.cells #[sv (textOf ls)] strT)
  obtain ⟨hn10, hsz10, hk10⟩ := new1 (W8.alloc (Obj.cells #[sv (textOf ls)] strT)) (Obj.cells #[sv f] strT)
  have hn9' := hk10.get hn9 (fun h => h)
  rw [hs8] at hn9' hsz9
  rw [hsz9] at hn10
  have hk910 := hk9.step hk10
  generalize (W8.alloc (Obj.cells #[sv (textOf ls)] strT)).alloc (Obj.cells #[sv f] strT) = W9 at hn10 hn9' hk910 ⊢
  go_ret
  have hlts := hM7.lt
  have hkwlt := hkw7.size
  have hfkl := hd.lt
  have hfBl := hDoc7.lt
  have hbw : b < w.heap.size := hM.lt b (by simp)
  have hap' : ∀ x ∈ fk, x ≠ b := fun x hx e => hap x hx (by rw [e]; simp)
  have hone : ∀ g s, W9.heap[g]? = some (.cells #[sv s] strT (0, 0)) → TextsAt W9 (.slice (some ⟨g, 0, none⟩) 1 1) [s] [g] := fun g s hg => .inr ⟨g, 0, 1, #[sv s], rfl, rfl, hg, Nat.le_refl _, by unfold maxLen; decide, Nat.le_refl _, fun j x hx => by
    match j, hx with
    | 0, hx => simp at hx; subst hx; rfl⟩
  have hkb : Kept (fun x => x = b) w7 W9 := hk8.step (hk910.mono (fun _ h _ => h.elim))
  refine ⟨rfl, ls, hh, hdh, B, deskFp b fB fk [w7.heap.size] [w7.heap.size + 1], hls, hch, hF, ⟨_, _, _, _, _, _, ⟨hk910.get hb8 (fun h => h), hDoc7.kept hkb (fun x hx e => by have := hfBn x hx; have e : x = b := e; omega), hd7.kept hkb (fun x hx e => hap' x hx e), hone _ _ hn9', hone _ _ hn10, ?_⟩, rfl⟩, back_ok hdok hl h64 hF ok.most ok.big hfl, fun x hx => ?_, ?_⟩
  · refine apart_mk ⟨fun hx => ?_, fun hx => hap' b hx rfl, fun hx => ?_, fun hx => ?_⟩ ⟨fun x hx hx2 => ?_, fun x hx hx2 => ?_, fun x hx hx2 => ?_⟩ ⟨fun x hx hx2 => ?_, fun x hx hx2 => ?_⟩ (fun x hx hx2 => ?_)
    · have := hfBn b hx; omega
    · have := List.mem_singleton.1 hx; omega
    · have := List.mem_singleton.1 hx; omega
    · have := hfBn x hx; have := hfkl x hx2; omega
    · have := hfBl x hx; have := List.mem_singleton.1 hx2; omega
    · have := hfBl x hx; have := List.mem_singleton.1 hx2; omega
    · have := hfkl x hx; have := List.mem_singleton.1 hx2; omega
    · have := hfkl x hx; have := List.mem_singleton.1 hx2; omega
    · have := List.mem_singleton.1 hx; have := List.mem_singleton.1 hx2; omega
  · simp only [deskFp, List.mem_cons, List.mem_append, List.not_mem_nil, or_false] at hx
    rcases hx with rfl | hx | hx | rfl | rfl
    · exact .inl (by simp)
    · exact .inr (.inr (hfBn x hx))
    · exact .inr (.inl hx)
    · exact .inr (.inr (by omega))
    · exact .inr (.inr (by omega))
  · exact (hkw7.mono (T := fun x => x ∈ deskFp b fx fd ft ff) (fun _ h _ => h.elim)).step' hkb (fun x e _ => by have e : x = b := e; show x ∈ deskFp b fx fd ft ff; simp [e])
end Go.Proofs.YtdpfohgkikjeaaaGreat
/- An edit of a desk, in plain mathematics. -/
namespace Go.Proofs.YtdpfohgkikjeaaaGreat
set_option linter.unusedVariables false
set_option linter.unusedSimpArgs false

/-- The lines behind an edit; none: it is refused. -/
def DeskS.editLines (D : DeskS) (kind at_ c : Int) : Option (List Str) :=
  if D.doc.kind ≠ 0 then none
  else if pickN kind 4 ≤ 1 then (if D.doc.lines.length = 60 then none else some (D.doc.lines.take (pickN at_ (D.doc.lines.length + 1)) ++ lineN c :: D.doc.lines.drop (pickN at_ (D.doc.lines.length + 1))))
  else if pickN at_ (D.doc.lines.length + 1) = D.doc.lines.length then none
  else if pickN kind 4 = 2 then some (D.doc.lines.take (pickN at_ (D.doc.lines.length + 1)) ++ D.doc.lines.drop (pickN at_ (D.doc.lines.length + 1) + 1))
  else some (D.doc.lines.take (pickN at_ (D.doc.lines.length + 1)) ++ lineN c :: D.doc.lines.drop (pickN at_ (D.doc.lines.length + 1) + 1))

def DeskS.edit (D : DeskS) (kind at_ c : Int) : DeskS :=
  match D.editLines kind at_ c with
  | none => D
  | some ls => D.edited ls (max D.most (D.doc.counted + 1))

theorem editLines_ok {D : DeskS} (h : TextOk D.doc.lines) {kind at_ c : Int} {ls : List Str} (e : D.editLines kind at_ c = some ls) : D.doc.kind = 0 ∧ TextOk ls := by
  have hlt := pickN_lt at_ (n := D.doc.lines.length + 1) (by omega)
  have hf := h.few
  unfold DeskS.editLines at e
  split at e
  · cases e
  · rename_i hk
    refine ⟨by omega, ?_⟩
    split at e
    · split at e
      · cases e
      · cases e
        exact h.insert _ (lineN_ok c) (by omega)
    · split at e
      · cases e
      · split at e
        · cases e; exact h.delete _
        · cases e; exact h.replace _ (lineN_ok c) (by omega)

theorem DeskS.Ok.edit {D : DeskS} {N L : Nat} (h : D.Ok N L) (kind at_ c : Int) : (D.edit kind at_ c).Ok (N + 1) L := by
  unfold DeskS.edit
  split
  · exact h.mono (Nat.le_succ N)
  · rename_i ls e
    obtain ⟨hk, hls⟩ := editLines_ok h.doc.text e
    have := h.most
    have := h.doc.counted
    exact h.edited hk hls (by omega)
end Go.Proofs.YtdpfohgkikjeaaaGreat
/- edit: insert0. -/
namespace Go.Proofs.YtdpfohgkikjeaaaGreat
open Go.RowKit
set_option linter.unusedVariables false
set_option linter.unusedSimpArgs false

set_option maxRecDepth 100000 in
set_option maxHeartbeats 20000000 in
theorem edit_insert0 {w b bx bd D fp N L} (h : DeskR w b bx bd D fp) (ok : D.Ok N L) (hN : N ≤ 8000000000000) (kind at_ c : Int) (hkind : RawOk kind) (hat : RawOk at_) (hc : RawOk c) (hK : pickN kind 4 = 0) :
    Calls Tryz.prog 16 #[.pointer (some ⟨b, 0, none⟩), .int .i64 kind, .int .i64 at_, .int .i64 c] w fun e w' => e = .returned (.bool true) ∧ DeskTo w w' b bx bd fp (D.edit kind at_ c) := by
  obtain ⟨vt, vf, fx, fd, ft, ff, hM, rfl⟩ := h
  obtain ⟨hc0, _⟩ := cells_of hM.cells
  have hn60 := ok.doc.text.few
  have hed := ok.edits
  have hpk := pickN_lt at_ (n := D.doc.lines.length + 1) (by omega)
  have hlk := lineN_ok c
  have hlines : D.edit kind at_ c = match D.editLines kind at_ c with
    | none => D
    | some ls => D.edited ls (max D.most (D.doc.counted + 1)) := rfl
  unfold DeskS.editLines at hlines
  go_enter Tryz.func16, Tryz.ntmps16
  go_wp2_with fail
  refine (look_doc hM.doc).mono ?_
  rintro e w1 ⟨rfl, hk1⟩
  have hM1 := hM.kept hk1 (fun _ _ h => h)
  obtain ⟨hn2, hsz2, hk2⟩ := new1 w1 (Obj.cells #[.int .i64 (D.doc.lines.length : Int), .int .i64 (D.doc.edits : Int), .int .i64 (D.doc.kind : Int)] viewT)
  go_wp2_with fail
  have hM2 := hM1.kept hk2 (fun _ _ h => h)
  generalize hV : w1.heap.size = V at hn2 hsz2 ⊢
  generalize w1.alloc (Obj.cells #[.int .i64 (D.doc.lines.length : Int), .int .i64 (D.doc.edits : Int), .int .i64 (D.doc.kind : Int)] viewT) = w2 at hn2 hsz2 hk2 hM2 ⊢
  refine (pick_keep at_ (D.doc.lines.length + 1) _ (by omega) hat (by omega) (by omega) w2).mono ?_
  rintro e w3 ⟨rfl, hw⟩
  rw [hw]
  clear hw
  generalize hI : pickN at_ (D.doc.lines.length + 1) = i at hpk hlines ⊢
  clear hI
  obtain ⟨hcv2, _⟩ := cells_of hn2
  go_wp2_with fail
  refine (line_any c hc w2).mono ?_
  rintro e w3 ⟨rfl, hk3⟩
  generalize hLL : lineN c = l at hlk hlines ⊢
  clear hLL
  have hn3 := hk3.get hn2 (fun h => h)
  have hM3 := hM2.kept hk3 (fun _ _ h => h)
  obtain ⟨hcv3, _⟩ := cells_of hn3
  obtain ⟨hc3, _⟩ := cells_of hM3.cells
  have hk03 : Kept no w w3 := (hk1.step hk2).step hk3
  clear hcv2 hc0
  go_wp2_with fail
  refine (pick_keep kind 4 4 rfl hkind (by decide) (by decide) w3).mono ?_
  rintro e w4 ⟨rfl, hw⟩
  rw [hw]
  clear hw
  rw [hK]
  rw [hK] at hlines
  rw [if_pos (show (0 : Nat) ≤ 1 by decide)] at hlines
  by_cases hk0 : D.doc.kind = 0
  · rw [if_neg (by omega)] at hlines
    by_cases h60 : D.doc.lines.length = 60
    · rw [if_pos h60] at hlines
      have hr : D.doc.insert (i : Int) l = (4, D.doc) := by
        unfold DocS.insert
        rw [if_neg (by omega), if_neg (by omega), if_neg (by simpa using hlk), if_pos h60]
      have hcall := insert_d hM3.doc (i : Int) l (by have := hlk.1; omega) (by omega)
      rw [hr] at hcall
      go_wp2_with fail
      refine hcall.mono ?_
      rintro e w4 ⟨rfl, hT⟩
      obtain ⟨fx4, hM4, hx4⟩ := hM3.doc_to hT
      have hkT := hT.kept
      have hs3 := hk03.size
      have hD' : D.edit kind at_ c = D := hlines
      have hto : DeskTo w w4 b bx bd (deskFp b fx fd ft ff) D := ⟨⟨_, ⟨_, _, _, _, _, _, hM4, rfl⟩, fun x hx => by
        simp only [deskFp, List.mem_cons, List.mem_append] at hx ⊢
        rcases hx with rfl | hx | hx | hx | hx
        · exact .inl (.inl rfl)
        · rcases hx4 x hx with hx | hx
          · exact .inl (.inr (.inl hx))
          · exact .inr (by omega)
        · exact .inl (.inr (.inr (.inl hx)))
        · exact .inl (.inr (.inr (.inr (.inl hx))))
        · exact .inl (.inr (.inr (.inr (.inr hx))))⟩, (hk03.mono (T := fun x => x ∈ deskFp b fx fd ft ff) (fun _ h _ => h.elim)).step' hkT (fun x hx _ => by have hx : x ∈ fx := hx; show x ∈ deskFp b fx fd ft ff; simp [hx])⟩
      have hcv4 : ∀ k, w4.cell? ⟨V, k, none⟩ = #[Value.int .i64 (D.doc.lines.length : Int), .int .i64 (D.doc.edits : Int), .int .i64 (D.doc.kind : Int)][k]? := (cells_of (hkT.get hn3 (fun hx => by have := hM.doc.lt V hx; have := hk1.size; omega))).1
      have HD : Hid (D.edit kind at_ c = D) := hD'
      clear hM4 hcall hlines hD'
      have h60' : (D.doc.lines.length : Int) = 60 := by omega
      go_wp2
      go_ret
      exact ⟨by simp, by rw [HD.out]; exact hto⟩
    · rw [if_neg h60] at hlines
      have hr : D.doc.insert (i : Int) l = (0, (D.doc.setLines (D.doc.lines.take i ++ l :: D.doc.lines.drop i)).edited) := by
        unfold DocS.insert
        rw [if_neg (by omega), if_neg (by omega), if_neg (by simpa using hlk), if_neg h60]
        simp
      generalize (D.doc.lines.take i ++ l :: D.doc.lines.drop i) = ls2 at hr hlines
      have hcall := insert_d hM3.doc (i : Int) l (by have := hlk.1; omega) (by omega)
      rw [hr] at hcall
      go_wp2_with fail
      refine hcall.mono ?_
      rintro e w4 ⟨rfl, hT⟩
      obtain ⟨fx4, hM4, hx4⟩ := hM3.doc_to hT
      have hkT := hT.kept
      have hs3 := hk03.size
      have hD' : D.edit kind at_ c = D.edited ls2 (max D.most (D.doc.counted + 1)) := hlines
      have hkw4 : Kept (fun x => x ∈ deskFp b fx fd ft ff) w w4 := (hk03.mono (T := fun x => x ∈ deskFp b fx fd ft ff) (fun _ h _ => h.elim)).step' hkT (fun x hx _ => by have hx : x ∈ fx := hx; show x ∈ deskFp b fx fd ft ff; simp [hx])
      have hfp4 : ∀ x ∈ deskFp b fx4 fd ft ff, x ∈ deskFp b fx fd ft ff ∨ w.heap.size ≤ x := fun x hx => by
        simp only [deskFp, List.mem_cons, List.mem_append] at hx ⊢
        rcases hx with rfl | hx | hx | hx | hx
        · exact .inl (.inl rfl)
        · rcases hx4 x hx with hx | hx
          · exact .inl (.inr (.inl hx))
          · exact .inr (by omega)
        · exact .inl (.inr (.inr (.inl hx)))
        · exact .inl (.inr (.inr (.inr (.inl hx))))
        · exact .inl (.inr (.inr (.inr (.inr hx))))
      have HD : Hid (D.edit kind at_ c = D.edited ls2 (max D.most (D.doc.counted + 1))) := hD'
      clear hcall hlines hD'
      have hqt : (D.doc.setLines ls2).edited.text = textOf ls2 := by unfold DocS.edited; split <;> rfl
      have hqe : (D.doc.setLines ls2).edited.every = D.doc.every := by unfold DocS.edited; split <;> rfl
      have hqc : (D.doc.setLines ls2).edited.counted = if (D.doc.setLines ls2).edited.kind = 1 then 0 else D.doc.counted + 1 := by
        unfold DocS.edited
        split
        · rfl
        · rw [if_neg (by show ¬ D.doc.kind = 1; omega)]; rfl
      generalize hq : (D.doc.setLines ls2).edited = q at *
      have HQ : Hid ((D.doc.setLines ls2).edited = q) := hq
      clear hq hr
      obtain ⟨hc4, _⟩ := cells_of hM4.cells
      have hcl := ok.doc.counted
      have hev := ok.doc.every2
      have hmo := ok.most
      go_wp2_with fail
      refine (text_doc hM4.doc).mono ?_
      rintro e w5 ⟨rfl, hk5⟩
      have hM5 := hM4.kept hk5 (fun _ _ h => h)
      have hkw5 := hkw4.step (hk5.mono (fun _ h _ => h.elim))
      obtain ⟨hc5, hf5⟩ := cells_of hM5.cells
      go_wp2_with fail
      have hM6 := hM5.store0 (n' := ⟨textOf ls2, D.doc.every, D.doc.counted + 1, D.most⟩) (Kept.cell1 (b := b) (o := 4) (u := sv (textOf ls2)) |>.step (Kept.cell1 (b := b) (o := 6) (u := .int .i64 ((D.doc.counted : Int) + 1)))) (by rw [heap_set_same (heap_set_same hM5.cells)]; simp)
      have hk6 : Kept (fun x => x = b) w5 ((w5.setCell ⟨b, 4, none⟩ (sv (textOf ls2))).setCell ⟨b, 6, none⟩ (.int .i64 ((D.doc.counted : Int) + 1))) := Kept.cell1.step Kept.cell1
      have hs45 := hk5.size
      generalize (w5.setCell ⟨b, 4, none⟩ (sv (textOf ls2))).setCell ⟨b, 6, none⟩ (.int .i64 ((D.doc.counted : Int) + 1)) = w6 at hM6 hk6 ⊢
      have hkw6 : Kept (fun x => x ∈ deskFp b fx fd ft ff) w w6 := hkw5.step' hk6 (fun x e _ => by have e : x = b := e; show x ∈ deskFp b fx fd ft ff; simp [e])
      clear hc4 hc5 hf5
      obtain ⟨hc6, hf6⟩ := cells_of hM6.cells
      have hs6 := hk6.size
      go_quiet (fail)
      have hk67 : Kept no w6 (w6.drewN nq) := (Kept.refl _ _).drewN _
      have hM7 := hM6.kept hk67 (fun _ _ h => h)
      have hkw7 := hkw6.step (hk67.mono (T := fun x => x ∈ deskFp b fx fd ft ff) (fun _ h _ => h.elim))
      generalize w6.drewN nq = w7 at hk67 hM7 hkw7 ⊢
      clear hc6 hf6
      obtain ⟨hc7, hf7⟩ := cells_of hM7.cells
      go_upto_if 109 with fail
      go_cut [] (fun wx => DeskM wx b q D.disk D.mt D.mf ⟨textOf ls2, D.doc.every, D.doc.counted + 1, max D.most (D.doc.counted + 1)⟩ bx bd vt vf fx4 fd ft ff ∧ Kept (fun x => x = b) w7 wx)
      case first =>
        by_cases hgt : D.most < D.doc.counted + 1
        · have hgt' : (D.most : Int) < (D.doc.counted : Int) + 1 := by omega
          go_wp2
          go_meet
          case rel =>
            refine ⟨hM7.store0 Kept.cell1 ?_, Kept.cell1⟩
            rw [heap_set_same hM7.cells, Nat.max_eq_right (by omega)]
            simp
        · have hgt' : ¬ (D.most : Int) < (D.doc.counted : Int) + 1 := by omega
          go_wp2
          go_meet
          case rel =>
            rw [Nat.max_eq_left (by omega)]
            exact ⟨hM7, Kept.refl _ _⟩
      case rest =>
        obtain ⟨hM8, hk8⟩ := hcut
        have hkw8 : Kept (fun x => x ∈ deskFp b fx fd ft ff) w wc := hkw7.step' hk8 (fun x e _ => by have e : x = b := e; show x ∈ deskFp b fx fd ft ff; simp [e])
        have htl : D.mt.length ≤ 8000000000000 := by have := ok.mtN; omega
        by_cases hq1 : q.kind = 1
        · go_wp2_with fail
          refine (begun_yes hM8 hq1 htl).mono ?_
          rintro e w9 ⟨rfl, vt', ft', hM9, hx9, hk9⟩
          go_wp2
          go_ret
          have hs8 := hkw8.size
          refine ⟨by simp, ?_⟩
          rw [HD.out]
          unfold DeskS.edited DeskS.begun
          rw [HQ.out, if_pos (show q.kind = 1 from hq1)]
          rw [if_pos hq1] at hqc
          refine ⟨⟨deskFp b fx4 fd ft' ff, ⟨vt', vf, fx4, fd, ft', ff, ?_, rfl⟩, fun x hx => ?_⟩, hkw8.step' hk9 (fun x hx hlt => (hfp4 x hx).resolve_right (by omega))⟩
          · show DeskM w9 b q D.disk (D.mt ++ [q.text]) D.mf ⟨q.text, q.every, q.counted, _⟩ _ _ _ _ _ _ _ _
            rw [hqt, hqe, hqc]
            exact hM9
          · simp only [deskFp, List.mem_cons, List.mem_append] at hx
            rcases hx with rfl | hx | hx | hx | hx
            · exact hfp4 _ (by simp)
            · exact hfp4 x (by simp [hx])
            · exact hfp4 x (by simp [hx])
            · rcases hx9 x hx with hx | hx
              · exact hfp4 x (by simp [hx])
              · exact .inr (by omega)
            · exact hfp4 x (by simp [hx])
        · go_wp2_with fail
          refine (begun_no hM8 hq1).mono ?_
          rintro e w9 ⟨rfl, hk9⟩
          go_wp2
          go_ret
          refine ⟨by simp, ?_⟩
          rw [HD.out]
          unfold DeskS.edited DeskS.begun
          rw [HQ.out, if_neg (show ¬ q.kind = 1 from hq1)]
          rw [if_neg hq1] at hqc
          refine ⟨⟨deskFp b fx4 fd ft ff, ⟨vt, vf, fx4, fd, ft, ff, ?_, rfl⟩, hfp4⟩, hkw8.step (hk9.mono (fun _ h _ => h.elim))⟩
          show DeskM w9 b q D.disk D.mt D.mf ⟨q.text, q.every, q.counted, _⟩ _ _ _ _ _ _ _ _
          rw [hqt, hqe, hqc]
          exact hM8.kept hk9 (fun _ _ h => h)
  · rw [if_pos hk0] at hlines
    have hr : D.doc.insert (i : Int) l = (5, D.doc) := by
      unfold DocS.insert
      rw [if_pos hk0]
    have hcall := insert_d hM3.doc (i : Int) l (by have := hlk.1; omega) (by omega)
    rw [hr] at hcall
    go_wp2_with fail
    refine hcall.mono ?_
    rintro e w4 ⟨rfl, hT⟩
    obtain ⟨fx4, hM4, hx4⟩ := hM3.doc_to hT
    have hkT := hT.kept
    have hs3 := hk03.size
    have hD' : D.edit kind at_ c = D := hlines
    have hto : DeskTo w w4 b bx bd (deskFp b fx fd ft ff) D := ⟨⟨_, ⟨_, _, _, _, _, _, hM4, rfl⟩, fun x hx => by
      simp only [deskFp, List.mem_cons, List.mem_append] at hx ⊢
      rcases hx with rfl | hx | hx | hx | hx
      · exact .inl (.inl rfl)
      · rcases hx4 x hx with hx | hx
        · exact .inl (.inr (.inl hx))
        · exact .inr (by omega)
      · exact .inl (.inr (.inr (.inl hx)))
      · exact .inl (.inr (.inr (.inr (.inl hx))))
      · exact .inl (.inr (.inr (.inr (.inr hx))))⟩, (hk03.mono (T := fun x => x ∈ deskFp b fx fd ft ff) (fun _ h _ => h.elim)).step' hkT (fun x hx _ => by have hx : x ∈ fx := hx; show x ∈ deskFp b fx fd ft ff; simp [hx])⟩
    have hcv4 : ∀ k, w4.cell? ⟨V, k, none⟩ = #[Value.int .i64 (D.doc.lines.length : Int), .int .i64 (D.doc.edits : Int), .int .i64 (D.doc.kind : Int)][k]? := (cells_of (hkT.get hn3 (fun hx => by have := hM.doc.lt V hx; have := hk1.size; omega))).1
    have HD : Hid (D.edit kind at_ c = D) := hD'
    clear hM4 hcall hlines hD'
    have hk0' : ¬ (D.doc.kind : Int) = 0 := by omega
    go_wp2
    go_ret
    exact ⟨by simp [hk0], by rw [HD.out]; exact hto⟩
end Go.Proofs.YtdpfohgkikjeaaaGreat

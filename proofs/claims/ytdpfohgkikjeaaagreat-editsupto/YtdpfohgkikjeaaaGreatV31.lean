/- Part 31 of the proof: see its parts. -/
import Derived.Test.YtdpfohgkikjeaaaGreatV29
/- The statements' own: edits. -/
namespace Go.Proofs.YtdpfohgkikjeaaaGreat
open Go.RowKit
set_option linter.unusedVariables false
set_option linter.unusedSimpArgs false

abbrev opT : TypeId := 72
abbrev opCells (kd on a : Int) (s : Str) (r : Value) : Array Value := #[.int .i64 kd, .int .i64 on, .int .i64 a, sv s, r]

theorem line_doc_no {w b d fp} (h : DocR w b d fp) (p : Int) (hp : p < 0 ∨ (d.lines.length : Int) ≤ p) : Calls Tryz.prog 92 #[.pointer (some ⟨b, 0, none⟩), .int .i64 p] w fun e w' => e = .returned (.tuple #[.string ⟨#[]⟩, .int .i64 1]) ∧ w' = w := by
  obtain ⟨va, tfp, afp, h, rfl⟩ := h
  exact line_no h p hp
theorem line_doc_yes {w b d fp} (h : DocR w b d fp) (p : Nat) (hp : p < d.lines.length) : Calls Tryz.prog 92 #[.pointer (some ⟨b, 0, none⟩), .int .i64 (p : Int)] w fun e w' => e = .returned (.tuple #[sv d.lines[p], .int .i64 0]) ∧ w' = w := by
  obtain ⟨va, tfp, afp, h, rfl⟩ := h
  exact line_yes h p hp

set_option maxRecDepth 100000 in
set_option maxHeartbeats 8000000 in
theorem edits_insert {w : World} {b : Nat} {T : TwinS} {fp : List Nat} {N L : Nat} (h : TwinR w b T fp) (ok : T.Ok N L) (hN : N ≤ 1000000000000) (hL : L ≤ 1000000000000) (on a : Int) (ha : RawOk a) (s : Str) (hs : s.length ≤ L) (r : Value) :
    Calls Tryz.prog 64 #[ptrV b, .agg (opCells 2 on a s r)] w fun e w' => e = .returned (.bool true) ∧ TwinTo w w' b fp ⟨T.D.after (T.D.doc.insert a s), (T.R.insert a s).2, T.acts⟩ := by
  obtain ⟨bx, br, bd, fx, fr, fd, hM, rfl⟩ := h
  have hed : T.D.doc.edits ≤ 1000000000000 := by have := ok.ok.edits; omega
  have W0 := went_insert ok.beside ok.ok a s
  have hres : ∀ (w9 : World) (av : List (Nat × Obj)) (fx9 fr9 fd9 : List Nat), TwinOn w w9 (twinFp b fx fr fd) av b (T.D.doc.insert a s).2 (T.R.insert a s).2 T.D.disk T.acts bx br bd fx9 fr9 fd9 → TwinTo w w9 b (twinFp b fx fr fd) ⟨T.D.after (T.D.doc.insert a s), (T.R.insert a s).2, T.acts⟩ := fun w9 av fx9 fr9 fd9 h9 => by
    rw [← W0.doc, ← W0.disk] at h9
    exact TwinOn.to (T' := ⟨_, _, _⟩) h9
  have href : ∀ w9 fr9, RefR w9 br T.R fr9 → Calls Tryz.prog 89 #[ptrV br, .int .i64 a, sv s] w9 fun e w' => e = .returned (.int .i64 ((T.D.doc.insert a s).1 : Int)) ∧ RefTo w9 w' br fr9 (T.R.insert a s).2 := fun w9 fr9 hr9 => by
    rw [W0.same]
    exact insert_ref hr9 ok.ref hN hL a ha s hs
  have hon := TwinOn.start hM
  have hbl0 := hM.reads.2.2.1
  go_enter Tryz.func64, Tryz.ntmps64
  go_upto_region 8 with fail
  obtain ⟨hn1, hsz1, hk1⟩ := new1 w (Obj.cells (opCells 2 on a s r) opT)
  have on1 := hon.hold hk1 hn1 (Nat.le_refl _)
  generalize hB3 : w.heap.size = B3 at on1 ⊢
  generalize w.alloc (Obj.cells (opCells 2 on a s r) opT) = w1 at on1 ⊢
  clear hn1 hsz1 hk1
  have hrd : ∀ W, Kept no w1 W → W.cell? ⟨b, 0, none⟩ = some (ptrV bx) ∧ (∀ j, W.cell? ⟨B3, j, none⟩ = (opCells 2 on a s r)[j]?) := fun W hW => ⟨hW.read (by rw [(cells_of on1.at_.cells).1]; rfl) (fun h => h), (cells_of (hW.get (on1.av (B3, Obj.cells (opCells 2 on a s r) opT) (by simp)).1 (fun h => h))).1⟩
  refine wp_region3 (fun W => Kept no w1 W) [(0, true), (1, true), (2, true), (3, false), (4, true), (5, false), (6, true), (7, false)] [8, 9] (by kernel_rfl) (by kernel_rfl) (fun _ _ d _ _ h => by cases d <;> exact h) ((Kept.refl _ _).drew) ?_
  repeat ((first | refine wpPre3_pure rfl rfl (fun W => (by go_simp; rfl)) ?_ | refine wpPre3_read rfl rfl (fun W hW => (by obtain ⟨h1, h2⟩ := hrd W hW; go_simp; rfl)) ?_); simp only [Act.put, List.setIfInBounds_toArray, List.set])
  refine wpPre3_nil ?_
  have on1d := on1.drew
  generalize w1.drew = w2 at on1d ⊢
  refine wpTail3_last (by kernel_rfl) rfl rfl (fun K hK => ?_)
  go_wp2_with fail
  refine (insert_d on1d.at_.doc a s (by omega) hed).mono ?_
  rintro e w3 ⟨rfl, hT3⟩
  obtain ⟨fx3, on3⟩ := on1d.doc_to hT3
  refine hK _ _ ?_
  clear hK
  refine wpTail3_last (by kernel_rfl) rfl rfl (fun K hK => ?_)
  go_wp2_with fail
  refine wpTail3_nil ?_
  clear hrd
  go_upto_region 9 with fail
  have hrd : ∀ W, Kept no w3 W → W.cell? ⟨b, 1, none⟩ = some (ptrV br) ∧ (∀ j, W.cell? ⟨B3, j, none⟩ = (opCells 2 on a s r)[j]?) := fun W hW => ⟨hW.read (by rw [(cells_of on3.at_.cells).1]; rfl) (fun h => h), (cells_of (hW.get (on3.av (B3, Obj.cells (opCells 2 on a s r) opT) (by simp)).1 (fun h => h))).1⟩
  refine wp_region3 (fun W => Kept no w3 W) [(0, true), (1, true), (2, true), (3, false), (4, true), (5, false), (6, true), (7, false)] [8, 9] (by kernel_rfl) (by kernel_rfl) (fun _ _ d _ _ h => by cases d <;> exact h) ((Kept.refl _ _).drew) ?_
  repeat ((first | refine wpPre3_pure rfl rfl (fun W => (by go_simp; rfl)) ?_ | refine wpPre3_read rfl rfl (fun W hW => (by obtain ⟨h1, h2⟩ := hrd W hW; go_simp; rfl)) ?_); simp only [Act.put, List.setIfInBounds_toArray, List.set])
  refine wpPre3_nil ?_
  have on3d := on3.drew
  generalize w3.drew = w4 at on3d ⊢
  refine wpTail3_last (by kernel_rfl) rfl rfl (fun K hK => ?_)
  go_wp2_with fail
  refine (href _ _ on3d.at_.ref).mono ?_
  rintro e w5 ⟨rfl, hT5⟩
  obtain ⟨fr5, on5⟩ := on3d.ref_to hT5
  refine hK _ _ ?_
  clear hK
  refine wpTail3_last (by kernel_rfl) rfl rfl (fun K hK => ?_)
  go_wp2_with fail
  refine wpTail3_nil ?_
  clear hrd
  go_wp2_with fail
  refine (num_any _ w5).mono ?_
  rintro e w6 ⟨rfl, hw⟩
  rw [hw]
  clear hw
  go_wp2
  go_ret
  exact ⟨by simp, hres _ _ _ _ _ on5⟩

set_option maxRecDepth 100000 in
set_option maxHeartbeats 8000000 in
theorem edits_delete {w : World} {b : Nat} {T : TwinS} {fp : List Nat} {N L : Nat} (h : TwinR w b T fp) (ok : T.Ok N L) (hN : N ≤ 1000000000000) (hL : L ≤ 1000000000000) (on a : Int) (ha : RawOk a) (s : Str) (hs : s.length ≤ L) (r : Value) :
    Calls Tryz.prog 64 #[ptrV b, .agg (opCells 3 on a s r)] w fun e w' => e = .returned (.bool true) ∧ TwinTo w w' b fp ⟨T.D.after (T.D.doc.delete a), (T.R.delete a).2, T.acts⟩ := by
  obtain ⟨bx, br, bd, fx, fr, fd, hM, rfl⟩ := h
  have hed : T.D.doc.edits ≤ 1000000000000 := by have := ok.ok.edits; omega
  have W0 := went_delete ok.beside ok.ok a
  have hres : ∀ (w9 : World) (av : List (Nat × Obj)) (fx9 fr9 fd9 : List Nat), TwinOn w w9 (twinFp b fx fr fd) av b (T.D.doc.delete a).2 (T.R.delete a).2 T.D.disk T.acts bx br bd fx9 fr9 fd9 → TwinTo w w9 b (twinFp b fx fr fd) ⟨T.D.after (T.D.doc.delete a), (T.R.delete a).2, T.acts⟩ := fun w9 av fx9 fr9 fd9 h9 => by
    rw [← W0.doc, ← W0.disk] at h9
    exact TwinOn.to (T' := ⟨_, _, _⟩) h9
  have href : ∀ w9 fr9, RefR w9 br T.R fr9 → Calls Tryz.prog 90 #[ptrV br, .int .i64 a] w9 fun e w' => e = .returned (.int .i64 ((T.D.doc.delete a).1 : Int)) ∧ RefTo w9 w' br fr9 (T.R.delete a).2 := fun w9 fr9 hr9 => by
    rw [W0.same]
    exact delete_ref hr9 ok.ref hN hL a ha
  have hon := TwinOn.start hM
  have hbl0 := hM.reads.2.2.1
  go_enter Tryz.func64, Tryz.ntmps64
  go_upto_region 11 with fail
  obtain ⟨hn1, hsz1, hk1⟩ := new1 w (Obj.cells (opCells 3 on a s r) opT)
  have on1 := hon.hold hk1 hn1 (Nat.le_refl _)
  generalize hB3 : w.heap.size = B3 at on1 ⊢
  generalize w.alloc (Obj.cells (opCells 3 on a s r) opT) = w1 at on1 ⊢
  clear hn1 hsz1 hk1
  have hrd : ∀ W, Kept no w1 W → W.cell? ⟨b, 0, none⟩ = some (ptrV bx) ∧ (∀ j, W.cell? ⟨B3, j, none⟩ = (opCells 3 on a s r)[j]?) := fun W hW => ⟨hW.read (by rw [(cells_of on1.at_.cells).1]; rfl) (fun h => h), (cells_of (hW.get (on1.av (B3, Obj.cells (opCells 3 on a s r) opT) (by simp)).1 (fun h => h))).1⟩
  refine wp_region3 (fun W => Kept no w1 W) [(0, true), (1, true), (2, true), (3, false), (4, true), (5, false)] [6, 7] (by kernel_rfl) (by kernel_rfl) (fun _ _ d _ _ h => by cases d <;> exact h) ((Kept.refl _ _).drew) ?_
  repeat ((first | refine wpPre3_pure rfl rfl (fun W => (by go_simp; rfl)) ?_ | refine wpPre3_read rfl rfl (fun W hW => (by obtain ⟨h1, h2⟩ := hrd W hW; go_simp; rfl)) ?_); simp only [Act.put, List.setIfInBounds_toArray, List.set])
  refine wpPre3_nil ?_
  have on1d := on1.drew
  generalize w1.drew = w2 at on1d ⊢
  refine wpTail3_last (by kernel_rfl) rfl rfl (fun K hK => ?_)
  go_wp2_with fail
  refine (delete_dd on1d.at_.doc a hed).mono ?_
  rintro e w3 ⟨rfl, hT3⟩
  obtain ⟨fx3, on3⟩ := on1d.doc_to hT3
  refine hK _ _ ?_
  clear hK
  refine wpTail3_last (by kernel_rfl) rfl rfl (fun K hK => ?_)
  go_wp2_with fail
  refine wpTail3_nil ?_
  clear hrd
  go_upto_region 12 with fail
  have hrd : ∀ W, Kept no w3 W → W.cell? ⟨b, 1, none⟩ = some (ptrV br) ∧ (∀ j, W.cell? ⟨B3, j, none⟩ = (opCells 3 on a s r)[j]?) := fun W hW => ⟨hW.read (by rw [(cells_of on3.at_.cells).1]; rfl) (fun h => h), (cells_of (hW.get (on3.av (B3, Obj.cells (opCells 3 on a s r) opT) (by simp)).1 (fun h => h))).1⟩
  refine wp_region3 (fun W => Kept no w3 W) [(0, true), (1, true), (2, true), (3, false), (4, true), (5, false)] [6, 7] (by kernel_rfl) (by kernel_rfl) (fun _ _ d _ _ h => by cases d <;> exact h) ((Kept.refl _ _).drew) ?_
  repeat ((first | refine wpPre3_pure rfl rfl (fun W => (by go_simp; rfl)) ?_ | refine wpPre3_read rfl rfl (fun W hW => (by obtain ⟨h1, h2⟩ := hrd W hW; go_simp; rfl)) ?_); simp only [Act.put, List.setIfInBounds_toArray, List.set])
  refine wpPre3_nil ?_
  have on3d := on3.drew
  generalize w3.drew = w4 at on3d ⊢
  refine wpTail3_last (by kernel_rfl) rfl rfl (fun K hK => ?_)
  go_wp2_with fail
  refine (href _ _ on3d.at_.ref).mono ?_
  rintro e w5 ⟨rfl, hT5⟩
  obtain ⟨fr5, on5⟩ := on3d.ref_to hT5
  refine hK _ _ ?_
  clear hK
  refine wpTail3_last (by kernel_rfl) rfl rfl (fun K hK => ?_)
  go_wp2_with fail
  refine wpTail3_nil ?_
  clear hrd
  go_wp2_with fail
  refine (num_any _ w5).mono ?_
  rintro e w6 ⟨rfl, hw⟩
  rw [hw]
  clear hw
  go_wp2
  go_ret
  exact ⟨by simp, hres _ _ _ _ _ on5⟩

set_option maxRecDepth 100000 in
set_option maxHeartbeats 8000000 in
theorem edits_replace {w : World} {b : Nat} {T : TwinS} {fp : List Nat} {N L : Nat} (h : TwinR w b T fp) (ok : T.Ok N L) (hN : N ≤ 1000000000000) (hL : L ≤ 1000000000000) (on a : Int) (ha : RawOk a) (s : Str) (hs : s.length ≤ L) (r : Value) :
    Calls Tryz.prog 64 #[ptrV b, .agg (opCells 4 on a s r)] w fun e w' => e = .returned (.bool true) ∧ TwinTo w w' b fp ⟨T.D.after (T.D.doc.replace a s), (T.R.replace a s).2, T.acts⟩ := by
  obtain ⟨bx, br, bd, fx, fr, fd, hM, rfl⟩ := h
  have hed : T.D.doc.edits ≤ 1000000000000 := by have := ok.ok.edits; omega
  have W0 := went_replace ok.beside ok.ok a s
  have hres : ∀ (w9 : World) (av : List (Nat × Obj)) (fx9 fr9 fd9 : List Nat), TwinOn w w9 (twinFp b fx fr fd) av b (T.D.doc.replace a s).2 (T.R.replace a s).2 T.D.disk T.acts bx br bd fx9 fr9 fd9 → TwinTo w w9 b (twinFp b fx fr fd) ⟨T.D.after (T.D.doc.replace a s), (T.R.replace a s).2, T.acts⟩ := fun w9 av fx9 fr9 fd9 h9 => by
    rw [← W0.doc, ← W0.disk] at h9
    exact TwinOn.to (T' := ⟨_, _, _⟩) h9
  have href : ∀ w9 fr9, RefR w9 br T.R fr9 → Calls Tryz.prog 91 #[ptrV br, .int .i64 a, sv s] w9 fun e w' => e = .returned (.int .i64 ((T.D.doc.replace a s).1 : Int)) ∧ RefTo w9 w' br fr9 (T.R.replace a s).2 := fun w9 fr9 hr9 => by
    rw [W0.same]
    exact replace_ref hr9 ok.ref hN hL a ha s hs
  have hon := TwinOn.start hM
  have hbl0 := hM.reads.2.2.1
  go_enter Tryz.func64, Tryz.ntmps64
  go_upto_region 14 with fail
  obtain ⟨hn1, hsz1, hk1⟩ := new1 w (Obj.cells (opCells 4 on a s r) opT)
  have on1 := hon.hold hk1 hn1 (Nat.le_refl _)
  generalize hB3 : w.heap.size = B3 at on1 ⊢
  generalize w.alloc (Obj.cells (opCells 4 on a s r) opT) = w1 at on1 ⊢
  clear hn1 hsz1 hk1
  have hrd : ∀ W, Kept no w1 W → W.cell? ⟨b, 0, none⟩ = some (ptrV bx) ∧ (∀ j, W.cell? ⟨B3, j, none⟩ = (opCells 4 on a s r)[j]?) := fun W hW => ⟨hW.read (by rw [(cells_of on1.at_.cells).1]; rfl) (fun h => h), (cells_of (hW.get (on1.av (B3, Obj.cells (opCells 4 on a s r) opT) (by simp)).1 (fun h => h))).1⟩
  refine wp_region3 (fun W => Kept no w1 W) [(0, true), (1, true), (2, true), (3, false), (4, true), (5, false), (6, true), (7, false)] [8, 9] (by kernel_rfl) (by kernel_rfl) (fun _ _ d _ _ h => by cases d <;> exact h) ((Kept.refl _ _).drew) ?_
  repeat ((first | refine wpPre3_pure rfl rfl (fun W => (by go_simp; rfl)) ?_ | refine wpPre3_read rfl rfl (fun W hW => (by obtain ⟨h1, h2⟩ := hrd W hW; go_simp; rfl)) ?_); simp only [Act.put, List.setIfInBounds_toArray, List.set])
  refine wpPre3_nil ?_
  have on1d := on1.drew
  generalize w1.drew = w2 at on1d ⊢
  refine wpTail3_last (by kernel_rfl) rfl rfl (fun K hK => ?_)
  go_wp2_with fail
  refine (replace_d on1d.at_.doc a s (by omega) hed).mono ?_
  rintro e w3 ⟨rfl, hT3⟩
  obtain ⟨fx3, on3⟩ := on1d.doc_to hT3
  refine hK _ _ ?_
  clear hK
  refine wpTail3_last (by kernel_rfl) rfl rfl (fun K hK => ?_)
  go_wp2_with fail
  refine wpTail3_nil ?_
  clear hrd
  go_upto_region 15 with fail
  have hrd : ∀ W, Kept no w3 W → W.cell? ⟨b, 1, none⟩ = some (ptrV br) ∧ (∀ j, W.cell? ⟨B3, j, none⟩ = (opCells 4 on a s r)[j]?) := fun W hW => ⟨hW.read (by rw [(cells_of on3.at_.cells).1]; rfl) (fun h => h), (cells_of (hW.get (on3.av (B3, Obj.cells (opCells 4 on a s r) opT) (by simp)).1 (fun h => h))).1⟩
  refine wp_region3 (fun W => Kept no w3 W) [(0, true), (1, true), (2, true), (3, false), (4, true), (5, false), (6, true), (7, false)] [8, 9] (by kernel_rfl) (by kernel_rfl) (fun _ _ d _ _ h => by cases d <;> exact h) ((Kept.refl _ _).drew) ?_
  repeat ((first | refine wpPre3_pure rfl rfl (fun W => (by go_simp; rfl)) ?_ | refine wpPre3_read rfl rfl (fun W hW => (by obtain ⟨h1, h2⟩ := hrd W hW; go_simp; rfl)) ?_); simp only [Act.put, List.setIfInBounds_toArray, List.set])
  refine wpPre3_nil ?_
  have on3d := on3.drew
  generalize w3.drew = w4 at on3d ⊢
  refine wpTail3_last (by kernel_rfl) rfl rfl (fun K hK => ?_)
  go_wp2_with fail
  refine (href _ _ on3d.at_.ref).mono ?_
  rintro e w5 ⟨rfl, hT5⟩
  obtain ⟨fr5, on5⟩ := on3d.ref_to hT5
  refine hK _ _ ?_
  clear hK
  refine wpTail3_last (by kernel_rfl) rfl rfl (fun K hK => ?_)
  go_wp2_with fail
  refine wpTail3_nil ?_
  clear hrd
  go_wp2_with fail
  refine (num_any _ w5).mono ?_
  rintro e w6 ⟨rfl, hw⟩
  rw [hw]
  clear hw
  go_wp2
  go_ret
  exact ⟨by simp, hres _ _ _ _ _ on5⟩

set_option maxRecDepth 100000 in
set_option maxHeartbeats 8000000 in
theorem edits_line_no {w : World} {b : Nat} {T : TwinS} {fp : List Nat} {N L : Nat} (h : TwinR w b T fp) (ok : T.Ok N L) (on : Int) (p : Int) (hp : p < 0 ∨ (T.D.doc.lines.length : Int) ≤ p) (s : Str) (r : Value) :
    Calls Tryz.prog 64 #[ptrV b, .agg (opCells 5 on p s r)] w fun e w' => e = .returned (.bool true) ∧ TwinTo w w' b fp T := by
  have h0 := h
  obtain ⟨bx, br, bd, fx, fr, fd, hM, rfl⟩ := h
  have hsame := fun w' (k : Kept no w w') => TwinTo.same h0 k
  have hdl := fun w' fx' (hd : DocR w' bx T.D.doc fx') => line_doc_no hd p hp
  have hrl := fun w' fr' (hr : RefR w' br T.R fr') => line_ref_no hr p (by rw [ok.beside.lines]; exact hp)
  clear hp
  have hon := TwinOn.start hM
  have hbl0 := hM.reads.2.2.1
  clear h0
  go_enter Tryz.func64, Tryz.ntmps64
  go_upto_region 4 with fail
  obtain ⟨hn1, hsz1, hk1⟩ := new1 w (Obj.cells (opCells 5 on p s r) opT)
  have on1 := hon.hold hk1 hn1 (Nat.le_refl _)
  generalize hB3 : w.heap.size = B3 at on1 ⊢
  generalize w.alloc (Obj.cells (opCells 5 on p s r) opT) = w1 at on1 hk1 ⊢
  clear hn1 hsz1
  have hrd : ∀ W, Kept no w1 W → W.cell? ⟨b, 0, none⟩ = some (ptrV bx) ∧ (∀ j, W.cell? ⟨B3, j, none⟩ = (opCells 5 on p s r)[j]?) := fun W hW => ⟨hW.read (by rw [(cells_of on1.at_.cells).1]; rfl) (fun h => h), (cells_of (hW.get (on1.av (B3, Obj.cells (opCells 5 on p s r) opT) (by simp)).1 (fun h => h))).1⟩
  refine wp_region5 (fun W => Kept no w1 W) [(0, true), (1, true), (2, true), (3, false), (4, true), (5, false)] [(6, false), (7, true), (8, true), (9, true), (10, true), (11, true)] (by kernel_rfl) (by kernel_rfl) (fun _ _ d _ _ h => by cases d <;> exact h) ((Kept.refl _ _).drew) ?_
  repeat ((first | refine wpPre3_pure rfl rfl (fun W => (by go_simp; rfl)) ?_ | refine wpPre3_read rfl rfl (fun W hW => (by obtain ⟨h1, h2⟩ := hrd W hW; go_simp; rfl)) ?_); simp only [Act.put, List.setIfInBounds_toArray, List.set])
  refine wpPre3_nil ?_
  have on1d := on1.drew
  have hk2 : Kept no w w1.drew := hk1.drew
  clear hrd hk1
  generalize w1.drew = w2 at on1d hk2 ⊢
  refine wpMix_cons rfl rfl (fun K hK => ?_)
  go_wp2_with fail
  refine (hdl _ _ on1d.at_.doc).mono ?_
  rintro e w3 ⟨rfl, hw⟩
  rw [hw]
  clear hw
  refine hK _ _ ⟨fun h => h, ?_⟩
  clear hK
  repeat (refine wpMix_pure rfl rfl (fun W => (by go_simp; rfl)) ?_; simp only [Act.put, List.setIfInBounds_toArray, List.set])
  refine wpMix_nil ?_
  go_upto_region 5 with fail
  have hrd : ∀ W, Kept no w2 W → W.cell? ⟨b, 1, none⟩ = some (ptrV br) ∧ (∀ j, W.cell? ⟨B3, j, none⟩ = (opCells 5 on p s r)[j]?) := fun W hW => ⟨hW.read (by rw [(cells_of on1d.at_.cells).1]; rfl) (fun h => h), (cells_of (hW.get (on1d.av (B3, Obj.cells (opCells 5 on p s r) opT) (by simp)).1 (fun h => h))).1⟩
  refine wp_region5 (fun W => Kept no w2 W) [(0, true), (1, true), (2, true), (3, false), (4, true), (5, false)] [(6, false), (7, true), (8, true), (9, true), (10, true), (11, true)] (by kernel_rfl) (by kernel_rfl) (fun _ _ d _ _ h => by cases d <;> exact h) ((Kept.refl _ _).drew) ?_
  repeat ((first | refine wpPre3_pure rfl rfl (fun W => (by go_simp; rfl)) ?_ | refine wpPre3_read rfl rfl (fun W hW => (by obtain ⟨h1, h2⟩ := hrd W hW; go_simp; rfl)) ?_); simp only [Act.put, List.setIfInBounds_toArray, List.set])
  refine wpPre3_nil ?_
  have on3d := on1d.drew
  have hk4 : Kept no w w2.drew := hk2.drew
  clear hrd hk2
  generalize w2.drew = w4 at on3d hk4 ⊢
  refine wpMix_cons rfl rfl (fun K hK => ?_)
  go_wp2_with fail
  refine (hrl _ _ on3d.at_.ref).mono ?_
  rintro e w5 ⟨rfl, hw⟩
  rw [hw]
  clear hw
  refine hK _ _ ⟨fun h => h, ?_⟩
  clear hK
  repeat (refine wpMix_pure rfl rfl (fun W => (by go_simp; rfl)) ?_; simp only [Act.put, List.setIfInBounds_toArray, List.set])
  refine wpMix_nil ?_
  go_wp2_with fail
  refine (num_any _ w4).mono ?_
  rintro e w6 ⟨rfl, hw⟩
  rw [hw]
  clear hw
  go_wp2
  go_ret
  exact ⟨by simp, hsame _ hk4⟩

set_option maxRecDepth 100000 in
set_option maxHeartbeats 8000000 in
theorem edits_line_yes {w : World} {b : Nat} {T : TwinS} {fp : List Nat} {N L : Nat} (h : TwinR w b T fp) (ok : T.Ok N L) (on : Int) (p : Nat) (hp : p < T.D.doc.lines.length) (s : Str) (r : Value) :
    Calls Tryz.prog 64 #[ptrV b, .agg (opCells 5 on (p : Int) s r)] w fun e w' => e = .returned (.bool true) ∧ TwinTo w w' b fp T := by
  have h0 := h
  obtain ⟨bx, br, bd, fx, fr, fd, hM, rfl⟩ := h
  have hsame := fun w' (k : Kept no w w') => TwinTo.same h0 k
  have hdl := fun w' fx' (hd : DocR w' bx T.D.doc fx') => line_doc_yes hd p hp
  have hl := ok.beside.lines
  have hrl : ∀ w' fr', RefR w' br T.R fr' → Calls Tryz.prog 93 #[ptrV br, .int .i64 (p : Int)] w' fun e w'' => e = .returned (.tuple #[sv T.D.doc.lines[p], .int .i64 0]) ∧ w'' = w' := fun w' fr' hr => by
    have := line_ref_yes hr (by rw [hl]; exact ok.ok.doc.text.few) p (by rw [hl]; exact hp)
    simp only [hl] at this
    exact this
  clear hl
  generalize T.D.doc.lines[p] = x at hdl hrl
  clear hp
  have hon := TwinOn.start hM
  have hbl0 := hM.reads.2.2.1
  clear h0
  go_enter Tryz.func64, Tryz.ntmps64
  go_upto_region 4 with fail
  obtain ⟨hn1, hsz1, hk1⟩ := new1 w (Obj.cells (opCells 5 on (p : Int) s r) opT)
  have on1 := hon.hold hk1 hn1 (Nat.le_refl _)
  generalize hB3 : w.heap.size = B3 at on1 ⊢
  generalize w.alloc (Obj.cells (opCells 5 on (p : Int) s r) opT) = w1 at on1 hk1 ⊢
  clear hn1 hsz1
  have hrd : ∀ W, Kept no w1 W → W.cell? ⟨b, 0, none⟩ = some (ptrV bx) ∧ (∀ j, W.cell? ⟨B3, j, none⟩ = (opCells 5 on (p : Int) s r)[j]?) := fun W hW => ⟨hW.read (by rw [(cells_of on1.at_.cells).1]; rfl) (fun h => h), (cells_of (hW.get (on1.av (B3, Obj.cells (opCells 5 on (p : Int) s r) opT) (by simp)).1 (fun h => h))).1⟩
  refine wp_region5 (fun W => Kept no w1 W) [(0, true), (1, true), (2, true), (3, false), (4, true), (5, false)] [(6, false), (7, true), (8, true), (9, true), (10, true), (11, true)] (by kernel_rfl) (by kernel_rfl) (fun _ _ d _ _ h => by cases d <;> exact h) ((Kept.refl _ _).drew) ?_
  repeat ((first | refine wpPre3_pure rfl rfl (fun W => (by go_simp; rfl)) ?_ | refine wpPre3_read rfl rfl (fun W hW => (by obtain ⟨h1, h2⟩ := hrd W hW; go_simp; rfl)) ?_); simp only [Act.put, List.setIfInBounds_toArray, List.set])
  refine wpPre3_nil ?_
  have on1d := on1.drew
  have hk2 : Kept no w w1.drew := hk1.drew
  clear hrd hk1
  generalize w1.drew = w2 at on1d hk2 ⊢
  refine wpMix_cons rfl rfl (fun K hK => ?_)
  go_wp2_with fail
  refine (hdl _ _ on1d.at_.doc).mono ?_
  rintro e w3 ⟨rfl, hw⟩
  rw [hw]
  clear hw
  refine hK _ _ ⟨fun h => h, ?_⟩
  clear hK
  repeat (refine wpMix_pure rfl rfl (fun W => (by go_simp; rfl)) ?_; simp only [Act.put, List.setIfInBounds_toArray, List.set])
  refine wpMix_nil ?_
  go_upto_region 5 with fail
  have hrd : ∀ W, Kept no w2 W → W.cell? ⟨b, 1, none⟩ = some (ptrV br) ∧ (∀ j, W.cell? ⟨B3, j, none⟩ = (opCells 5 on (p : Int) s r)[j]?) := fun W hW => ⟨hW.read (by rw [(cells_of on1d.at_.cells).1]; rfl) (fun h => h), (cells_of (hW.get (on1d.av (B3, Obj.cells (opCells 5 on (p : Int) s r) opT) (by simp)).1 (fun h => h))).1⟩
  refine wp_region5 (fun W => Kept no w2 W) [(0, true), (1, true), (2, true), (3, false), (4, true), (5, false)] [(6, false), (7, true), (8, true), (9, true), (10, true), (11, true)] (by kernel_rfl) (by kernel_rfl) (fun _ _ d _ _ h => by cases d <;> exact h) ((Kept.refl _ _).drew) ?_
  repeat ((first | refine wpPre3_pure rfl rfl (fun W => (by go_simp; rfl)) ?_ | refine wpPre3_read rfl rfl (fun W hW => (by obtain ⟨h1, h2⟩ := hrd W hW; go_simp; rfl)) ?_); simp only [Act.put, List.setIfInBounds_toArray, List.set])
  refine wpPre3_nil ?_
  have on3d := on1d.drew
  have hk4 : Kept no w w2.drew := hk2.drew
  clear hrd hk2
  generalize w2.drew = w4 at on3d hk4 ⊢
  refine wpMix_cons rfl rfl (fun K hK => ?_)
  go_wp2_with fail
  refine (hrl _ _ on3d.at_.ref).mono ?_
  rintro e w5 ⟨rfl, hw⟩
  rw [hw]
  clear hw
  refine hK _ _ ⟨fun h => h, ?_⟩
  clear hK
  repeat (refine wpMix_pure rfl rfl (fun W => (by go_simp; rfl)) ?_; simp only [Act.put, List.setIfInBounds_toArray, List.set])
  refine wpMix_nil ?_
  go_wp2_with fail
  refine (num_any _ w4).mono ?_
  rintro e w6 ⟨rfl, hw⟩
  rw [hw]
  clear hw
  go_wp2
  go_ret
  exact ⟨by simp, hsame _ hk4⟩
end Go.Proofs.YtdpfohgkikjeaaaGreat

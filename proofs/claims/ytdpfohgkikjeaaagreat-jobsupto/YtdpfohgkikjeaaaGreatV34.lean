/- Part 34 of the proof: see its parts. -/
import Derived.Test.YtdpfohgkikjeaaaGreatV32
/- The statements' own: done, of a job 1, last. -/
namespace Go.Proofs.YtdpfohgkikjeaaaGreat
open Go.RowKit
set_option linter.unusedVariables false
set_option linter.unusedSimpArgs false

set_option maxRecDepth 100000 in
set_option maxHeartbeats 16000000 in
theorem done_t_1last {w : World} {b : Nat} {T : TwinS} {fp : List Nat} {N L : Nat} (h : TwinR w b T fp) (ok : T.Ok N L) (hN : N ≤ 1000000000000) (hL : L ≤ 1000000000000) (hk : T.D.doc.kind = 1) {a : PAct} {A : List PAct} (ha : T.D.doc.acts = a :: A) (hA : A = []) (all : Bool) :
    Calls Tryz.prog 67 #[ptrV b, .bool true, .bool all] w fun e w' => e = .returned (.bool true) ∧ TwinTo w w' b fp (T.step true all) := by
  subst hA
  obtain ⟨bx, br, bd, fx, fr, fd, hM, rfl⟩ := h
  have hk0 : T.D.doc.kind ≠ 0 := by omega
  obtain ⟨okS, hright⟩ := ok.step ha true all
  obtain ⟨S, hS, e1, e2, e3, e4⟩ := step_parts (good := true) (all := all) hk0 ha
  have hfew := ok.few
  rw [ha, List.length_cons] at hfew
  have hroom := ok.ok.room ha
  have hnl := ok.ok.lens.new
  have hlens := ok.ok.lens
  have hjob := ok.beside.job
  have hact := act_t ok ha
  have hdone := fun w' fx' (hd : DocR w' bx T.D.doc fx') => done_doc hd hk0 (by rw [ha, List.length_cons]; omega) true
  have hactD := act_doc_yes hM.doc a _ hk0 ha
  have hres : ∀ (w9 : World) (av : List (Nat × Obj)) (fx9 fr9 fd9 : List Nat), TwinOn w w9 (twinFp b fx fr fd) av b (T.D.doc.done true) S.R (if true || all then T.D.disk.act a else T.D.disk) S.acts bx br bd fx9 fr9 fd9 → TwinTo w w9 b (twinFp b fx fr fd) (T.step true all) := fun w9 av fx9 fr9 fd9 h9 => by
    rw [hS]
    rw [← e1, ← e2] at h9
    exact h9.to
  have hlook : ∀ (w9 : World) (fr9 : List Nat), RefR w9 br S.R fr9 → Calls Tryz.prog 66 #[ptrV br] w9 fun e w' => e = .returned (.agg #[.int .i64 ((T.D.doc.done true).lines.length : Int), .int .i64 ((T.D.doc.done true).edits : Int), .int .i64 ((T.D.doc.done true).kind : Int)]) ∧ Kept no w9 w' := fun w9 fr9 h9 => by
    have hb := okS.beside
    rw [hS] at hb
    have h1 := hb.lines
    have h2 := hb.edits
    have h3 := hb.job
    rw [e1] at h1 h2 h3
    have := look_ref h9
    rw [h1, h2, h3] at this
    exact this
  have hkd : (T.D.doc.done true).kind = 0 := by rw [done_last_eq ha]; exact succeeded_kind _
  obtain ⟨q3, q4⟩ := e4 hkd
  have H2K : Hid ((a.kind : Int) = 2) := by have := (ok.ok.syncAct hk ha).2 rfl; show _ = _; omega
  have eR : S.R = RefS.over T.R true := by rw [q3, tick_1 (by omega)]
  have hkd' : Hid (((T.D.doc.done true).kind : Int) = 0) := by show _ = _; omega
  generalize T.D.doc.done true = d1 at *
  clear hS e1 e2 hkd e3 e4
  have hacts := hjob
  rw [hk] at hjob
  have hon := TwinOn.start hM
  have hact2 : T.D.doc.kind = 2 → T.R.acts = a :: [] := fun e => by rw [ok.beside.acts e, ha]
  have hsince : T.R.job = 1 → T.R.since ≠ [] := fun e => ok.beside.since (by rw [← ok.beside.job]; exact e)
  have hsl : T.R.since.length ≤ 1000000000000 := by have := ok.ref.since; omega
  go_enter Tryz.func67, Tryz.ntmps67
  obtain ⟨hc0, hf0, hbl0, hrl0, hj0⟩ := hM.reads
  go_wp2_with fail
  refine hactD.mono ?_
  rintro e w1 ⟨rfl, hk1⟩
  have on1 := hon.same hk1
  obtain ⟨hc1, hf1, hbl1, hrl1, hj1⟩ := on1.at_.reads
  clear hc0 hf0 hj0 hactD
  go_wp2_with fail
  obtain ⟨hn2, hsz2, hk2⟩ := new1 w1 (Obj.cells #[.int .i64 (a.kind : Int), .int .i64 (a.at_ : Int), .string ⟨a.data.toArray⟩] actT)
  have on2 := on1.hold hk2 hn2 (Nat.le_refl _)
  generalize hB7 : w1.heap.size = B7 at on2 ⊢
  generalize w1.alloc (Obj.cells #[.int .i64 (a.kind : Int), .int .i64 (a.at_ : Int), .string ⟨a.data.toArray⟩] actT) = w2 at on2 ⊢
  clear hn2 hsz2 hk2 hc1 hf1 hj1
  refine (hact _ _ _ _ _ _ _ _ on2.at_).mono ?_
  rintro e w3 ⟨rfl, hk3⟩
  have on3 := on2.same hk3
  obtain ⟨hc3, hf3, hbl3, hrl3, hj3⟩ := on3.at_.reads
  go_wp2_with fail
  refine (hdone _ _ on3.at_.doc).mono ?_
  rintro e w4 ⟨rfl, hT4⟩
  obtain ⟨fx4, on4⟩ := on3.doc_to hT4
  clear hc3 hf3 hj3 hT4 hdone
  go_wp2_with fail
  have hrd : ∀ W, Kept no w4 W → W.cell? ⟨b, 2, none⟩ = some (ptrV bd) ∧ (∀ j, W.cell? ⟨B7, j, none⟩ = (#[.int .i64 (a.kind : Int), .int .i64 (a.at_ : Int), .string ⟨a.data.toArray⟩] : Array Value)[j]?) := fun W hW => ⟨hW.read (by rw [(cells_of on4.at_.cells).1]; rfl) (fun h => h), (cells_of (hW.get (on4.av (B7, Obj.cells #[.int .i64 (a.kind : Int), .int .i64 (a.at_ : Int), .string ⟨a.data.toArray⟩] actT) (by simp)).1 (fun h => h))).1⟩
  refine wp_region3 (fun W => Kept no w4 W) [(0, true), (1, true), (2, true), (3, false), (4, false)] [5] (by kernel_rfl) (by kernel_rfl) (fun _ _ d _ _ h => by cases d <;> exact h) ((Kept.refl _ _).drew) ?_
  repeat ((first | refine wpPre3_pure rfl rfl (fun W => (by go_simp; rfl)) ?_ | refine wpPre3_read rfl rfl (fun W hW => (by obtain ⟨h1, h2⟩ := hrd W hW; go_simp; rfl)) ?_); simp only [Act.put, List.setIfInBounds_toArray, List.set])
  refine wpPre3_nil ?_
  have on5 := on4.drew
  generalize w4.drew = w5 at on5 ⊢
  refine wpTail3_last (by kernel_rfl) rfl rfl (fun K hK => ?_)
  go_wp2_with fail
  refine (do_any on5.at_.disk hlens hN a hright (fun e => by have := hroom e; omega)).mono ?_
  rintro e w6 ⟨rfl, hT6⟩
  obtain ⟨fd6, on6⟩ := on5.disk_to hT6
  refine hK _ _ ?_
  clear hK
  refine wpTail3_nil ?_
  obtain ⟨hc6, hf6, hbl6, hrl6, hj6⟩ := on6.at_.reads
  go_wp2_with fail
  refine (look_doc on6.at_.doc).mono ?_
  rintro e w7 ⟨rfl, hk7⟩
  have on7 := on6.same hk7
  obtain ⟨hc7, hf7, hbl7, hrl7, hj7⟩ := on7.at_.reads
  clear hc6 hf6 hj6
  go_upto_region 11 with fail
  obtain ⟨hn8, hsz8, hk8⟩ := new1 w7 (Obj.cells #[.int .i64 (d1.lines.length : Int), .int .i64 (d1.edits : Int), .int .i64 (d1.kind : Int)] viewT)
  have on8 := on7.hold hk8 hn8 (Nat.le_refl _)
  generalize hB11 : w7.heap.size = B11 at on8 ⊢
  generalize w7.alloc (Obj.cells #[.int .i64 (d1.lines.length : Int), .int .i64 (d1.edits : Int), .int .i64 (d1.kind : Int)] viewT) = w8 at on8 ⊢
  clear hn8 hsz8 hk8 hc7 hf7 hj7
  obtain ⟨hc8, hf8, hbl8, hrl8, hj8⟩ := on8.at_.reads
  go_upto_region 12 with fail
  have hk9 : Kept (fun x => x = b) w8 (w8.setCell ⟨b, 3, none⟩ (.int .i64 ((T.acts : Int) + 1))) := Kept.cell1
  have on9 := on8.store (n' := T.acts + 1) hk9 (by rw [heap_set_same on8.at_.cells]; simp)
  generalize w8.setCell ⟨b, 3, none⟩ (.int .i64 ((T.acts : Int) + 1)) = w9 at on9 ⊢
  clear hc8 hf8 hj8 hk9
  obtain ⟨hc9, hf9, hbl9, hrl9, hj9⟩ := on9.at_.reads
  have hkx := hkd'.out
  have hjx : (T.R.job : Int) = 1 := by omega
  have hfx : (T.acts : Int) + 1 ≤ 100 := by omega
  have hle4 : (T.acts : Int) + 1 ≤ 400 := by omega
  go_upto_region 14 with fail
  obtain ⟨hcv9, hfv9⟩ := cells_of (on9.av (B11, Obj.cells #[.int .i64 (d1.lines.length : Int), .int .i64 (d1.edits : Int), .int .i64 (d1.kind : Int)] viewT) (by simp)).1
  obtain ⟨hcw9, hfw9⟩ := cells_of (on9.av (B7, Obj.cells #[.int .i64 (a.kind : Int), .int .i64 (a.at_ : Int), .string ⟨a.data.toArray⟩] actT) (by simp)).1
  have h2i := H2K.out
  go_wp2_with fail
  refine (over_ref on9.at_.ref true (.inl hjob) hsince hsl).mono ?_
  rintro e w12 ⟨rfl, hT12⟩
  obtain ⟨fr12, on12⟩ := on9.ref_to hT12
  obtain ⟨hc12, hf12, hbl12, hrl12, hj12⟩ := on12.at_.reads
  clear hc9 hf9 hj9 hcv9 hfv9 hcw9 hfw9
  go_upto_region 22 with fail
  have hk13 : Kept (fun x => x = b) w12 (w12.setCell ⟨b, 3, none⟩ (.int .i64 0)) := Kept.cell1
  have on13 := on12.store (n' := 0) hk13 (by rw [heap_set_same on12.at_.cells]; simp)
  generalize w12.setCell ⟨b, 3, none⟩ (.int .i64 0) = w13 at on13 ⊢
  clear hc12 hf12 hj12 hk13
  have hrE : ∀ W, Kept no w13 W → W.cell? ⟨b, 3, none⟩ = some (.int .i64 0) ∧ W.cell? ⟨b, 1, none⟩ = some (ptrV br) ∧ (∀ j, W.cell? ⟨B11, j, none⟩ = (#[.int .i64 (d1.lines.length : Int), .int .i64 (d1.edits : Int), .int .i64 (d1.kind : Int)] : Array Value)[j]?) := fun W hW => ⟨hW.read (by rw [(cells_of on13.at_.cells).1]; rfl) (fun h => h), hW.read (by rw [(cells_of on13.at_.cells).1]; rfl) (fun h => h), (cells_of (hW.get (on13.av (B11, Obj.cells #[.int .i64 (d1.lines.length : Int), .int .i64 (d1.edits : Int), .int .i64 (d1.kind : Int)] viewT) (by simp)).1 (fun h => h))).1⟩
  refine wp_region3 (fun W => Kept no w13 W) [(0, true), (1, true), (2, true), (3, true), (4, true), (5, true), (6, true), (7, true), (8, true), (9, true), (10, true), (11, true), (12, false), (13, true), (14, true), (15, true), (16, false), (17, true), (18, true), (19, true), (20, false)] [21, 22, 23, 24] (by kernel_rfl) (by kernel_rfl) (fun _ _ d _ _ h => by cases d <;> exact h) ((Kept.refl _ _).drew) ?_
  repeat ((first | refine wpPre3_skip rfl (wanted_no rfl rfl rfl rfl rfl) ?_ | refine wpPre3_pure rfl rfl (fun W => (by go_simp; rfl)) ?_ | refine wpPre3_read rfl rfl (fun W hW => (by obtain ⟨h1, h2, h3⟩ := hrE W hW; go_simp; rfl)) ?_ | refine wpPre3_pureG rfl (wanted_yes rfl rfl rfl rfl) (fun W => (by go_simp; rfl)) ?_ | refine wpPre3_readG rfl (wanted_yes rfl rfl rfl rfl) (fun W hW => (by obtain ⟨h1, h2, h3⟩ := hrE W hW; go_simp; rfl)) ?_); simp only [Act.put, List.setIfInBounds_toArray, List.set])
  refine wpPre3_nil ?_
  have on14 := on13.drew
  generalize w13.drew = w14 at on14 ⊢
  refine wpTail3_consG rfl (wanted_yes rfl rfl rfl rfl) (fun K hK => ?_)
  go_wp2_with fail
  refine (hlook _ _ (by rw [eR]; exact on14.at_.ref)).mono ?_
  rintro e w15 ⟨rfl, hk15⟩
  refine hK _ _ ⟨fun h => h.step hk15, ?_⟩
  clear hK
  have on15 := on14.same hk15
  refine wpTail3_consG rfl (wanted_yes rfl rfl rfl rfl) (fun K hK => ?_)
  go_wp2_with fail
  refine ⟨fun h => h, ?_⟩
  refine wpTail3_cons rfl rfl (fun K hK => ?_)
  go_wp2_with fail
  refine ⟨fun h => h, ?_⟩
  refine wpTail3_cons rfl rfl (fun K hK => ?_)
  go_wp2_with fail
  refine ⟨fun h => h, ?_⟩
  refine wpTail3_nil ?_
  go_wp2
  go_ret
  exact ⟨by simp, hres _ _ _ _ _ (by rw [eR, q4, if_pos (by simp)]; exact on15)⟩
end Go.Proofs.YtdpfohgkikjeaaaGreat

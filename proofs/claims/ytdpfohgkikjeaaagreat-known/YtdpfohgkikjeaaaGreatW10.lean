/- Part W 10 of the proof: see its parts. -/
import Derived.Test.YtdpfohgkikjeaaaGreatW9
/- work. -/
namespace Go.Proofs.YtdpfohgkikjeaaaGreat
open Go.RowKit
set_option linter.unusedVariables false
set_option linter.unusedSimpArgs false

theorem act_doc_no {w b d fp} (h : DocR w b d fp) (hk : d.kind = 0) : Calls Tryz.prog 42 #[.pointer (some ⟨b, 0, none⟩)] w fun e w' => e = .returned (.tuple #[.agg #[.int .i64 0, .int .i64 0, .string ⟨#[]⟩], .bool false]) ∧ Kept no w w' := by
  obtain ⟨va, tfp, afp, h, rfl⟩ := h
  exact act_no h hk
theorem act_doc_yes {w b d fp} (h : DocR w b d fp) (a : PAct) (r : List PAct) (hk : d.kind ≠ 0) (ha : d.acts = a :: r) : Calls Tryz.prog 42 #[.pointer (some ⟨b, 0, none⟩)] w fun e w' => e = .returned (.tuple #[a.val, .bool true]) ∧ Kept no w w' := by
  obtain ⟨va, tfp, afp, h, rfl⟩ := h
  exact act_yes h a r hk ha

theorem done_doc {w b d fp} (h : DocR w b d fp) (hk : d.kind ≠ 0) (hl : d.acts.length ≤ 1000) (good : Bool) : Calls Tryz.prog 45 #[.pointer (some ⟨b, 0, none⟩), .bool good] w fun e w' => e = .returned (.int .i64 0) ∧ DocTo w w' b fp (d.done good) := by
  obtain ⟨va, tfp, afp, h, rfl⟩ := h
  have hne := h.ok.acts.1 hk
  cases good with
  | false => rw [done_fail_eq]; exact done_fail h hk hl
  | true =>
    cases ha : d.acts with
    | nil => exact absurd ha hne
    | cons a R =>
      cases R with
      | nil => rw [done_last_eq ha]; exact done_last h a hk ha
      | cons a2 r =>
        rw [done_on_eq ha (by simp)]
        exact done_on h a a2 r hk ha (by rw [ha] at hl; simp at hl; omega)


theorem work_more {D : DeskS} {n i : Nat} {fail : Int} {all : Bool} (hk : D.doc.kind ≠ 0) (hi : i < n) : D.work (n - i) i fail all = (D.step (decide ((i : Int) ≠ fail)) all).work (n - (i + 1)) (i + 1) fail all := by
  rw [show n - i = (n - (i + 1)) + 1 by omega]
  conv => lhs; unfold DeskS.work
  rw [if_neg hk]

theorem deskTo_mk {w w' : World} {b : Nat} {D : DeskS} {nm : Nums} {fp : List Nat} {bx bd vt vf fx fd ft ff} (h : DeskM w' b D.doc D.disk D.mt D.mf nm bx bd vt vf fx fd ft ff) (hx : ∀ x ∈ deskFp b fx fd ft ff, x ∈ fp ∨ w.heap.size ≤ x) (hk : Kept (fun x => x ∈ fp) w w') : DeskTon w w' b bx bd nm fp D :=
  ⟨⟨_, ⟨_, _, _, _, _, _, h, rfl⟩, hx⟩, hk⟩

theorem step_on {D : DeskS} {a : PAct} {R : List PAct} (ha : D.doc.acts = a :: R) (hR : R ≠ []) (hk : D.doc.kind ≠ 0) (all : Bool) : D.step true all = { D with disk := D.disk.act a, doc := { D.doc with acts := R } } := by
  unfold DeskS.step
  rw [ha]
  simp [done_on_eq ha hR, hk]
theorem step_last {D : DeskS} {a : PAct} (ha : D.doc.acts = [a]) (all : Bool) : D.step true all = { D with disk := D.disk.act a, doc := D.doc.succeeded, ch := if D.doc.kind = 1 then lastOne D.ch else D.ch, files := if D.doc.kind ≠ 1 then lastOne D.files else D.files, mf := if D.doc.kind ≠ 1 then lastOne D.mf else D.mf, mt := if D.doc.kind = 1 then lastOne D.mt else D.mt } := by
  unfold DeskS.step
  rw [ha]
  simp [done_last_eq ha, succeeded_kind]
theorem step_fail {D : DeskS} {a : PAct} {R : List PAct} (ha : D.doc.acts = a :: R) (all : Bool) : D.step false all = { D with disk := if all then D.disk.act a else D.disk, doc := { D.doc with kind := 0, acts := [] } } := by
  unfold DeskS.step
  rw [ha]
  simp [done_fail_eq]

theorem succ_text (d : DocS) : d.succeeded.text = d.text ∧ d.succeeded.every = d.every ∧ d.succeeded.counted = d.counted := by unfold DocS.succeeded; split <;> exact ⟨rfl, rfl, rfl⟩

/-- What an Append asks for. -/
theorem DeskS.Ok.room {D : DeskS} {N L : Nat} (h : D.Ok N L) {a : PAct} {R : List PAct} (ha : D.doc.acts = a :: R) (h4 : a.kind = 4) : D.disk.new.length + a.data.length ≤ 2460 := by
  have hkne : D.doc.kind ≠ 0 := h.doc.acts.2 (by rw [ha]; simp)
  have hk2 := h.doc.kind
  rcases (by omega : D.doc.kind = 1 ∨ D.doc.kind = 2) with hk | hk
  · obtain ⟨hp, hlast⟩ := h.sync hk
    obtain ⟨t0, f0, hsw⟩ := h.swok
    rw [ha] at hp
    obtain ⟨hao, _⟩ := prog_step hsw ⟨_, h.doc.text, rfl⟩ ⟨h.doc.sum, h.doc.len0, h.doc.len1⟩ (List.mem_of_getLast? hlast) hp
    rcases hao with rfl | ⟨e1, _⟩
    · cases h4
    · omega
  · obtain ⟨hp, hlast⟩ := h.save hk
    rw [ha] at hp
    obtain ⟨_, _, hn, _⟩ := save_step h.file (List.mem_of_getLast? hlast) hp
    have := hn h4
    have htl : D.doc.text.length ≤ 2460 := h.doc.text.length
    omega

/-- What a round of acts leaves. -/
theorem fp_new {w w' : World} {fp fp' l : List Nat} (h : ∀ x ∈ fp', x ∈ l ∨ w'.heap.size ≤ x) (hs : w.heap.size ≤ w'.heap.size) (hl : ∀ x ∈ l, x ∈ fp ∨ w.heap.size ≤ x) : ∀ x ∈ fp', x ∈ fp ∨ w.heap.size ≤ x := fun x hx => by
  rcases h x hx with h | h
  · exact hl x h
  · exact .inr (by omega)

set_option maxRecDepth 100000 in
set_option maxHeartbeats 20000000 in
theorem work_n {w b bx bd D nm fp N L} (h : DeskRn w b bx bd D nm fp) (ok : D.Ok N L) (acts : Nat) (actsI fail howI : Int) (how : Nat) (hai : actsI = (acts : Int)) (hhi : howI = (how : Int)) (hacts : acts ≤ 1000) (hf1 : -1 ≤ fail) (hf2 : fail ≤ 1000000) (hhow : how ≤ 1000000) (hN : N + acts ≤ 1000000000000) (hL : L ≤ 1000000000000) :
    Calls Tryz.prog 18 #[.pointer (some ⟨b, 0, none⟩), .int .i64 actsI, .int .i64 fail, .int .i64 howI] w fun e w' => e = .returned (.bool true) ∧ DeskTon w w' b bx bd nm fp (D.work acts 0 fail (decide (how % 2 ≠ 0))) := by
  subst hai; subst hhi
  generalize hAll : decide (how % 2 ≠ 0) = all
  go_enter Tryz.func18, Tryz.ntmps18
  go_wp2_with fail
  go_loopw [9] (fun s9 wr => ∃ (i : Nat) (D' : DeskS) (fp' : List Nat), i ≤ acts ∧ s9 = .int .i64 ((i : Nat) : Int) ∧ DeskRn wr b bx bd D' nm fp' ∧ D'.Ok (N + i) L ∧ D'.work (acts - i) i fail all = D.work acts 0 fail all ∧ (∀ x ∈ fp', x ∈ fp ∨ w.heap.size ≤ x) ∧ Kept (fun x => x ∈ fp) w wr) (fun s9 _ => acts - (intOf s9).toNat)
  case atStart => exact ⟨0, D, fp, Nat.zero_le _, rfl, h, ok, rfl, fun x hx => .inl hx, Kept.refl _ _⟩
  case round =>
    obtain ⟨i, D', fp', hi, rfl, hD, ok', hwork, hfp, hkw⟩ := hrel
    have HW : Hid (D'.work (acts - i) i fail all = D.work acts 0 fail all) := hwork
    clear hwork
    by_cases hlt : i < acts
    · obtain ⟨vt, vf, fx, fd, ft, ff, hM, rfl⟩ := hD
      have HFP : Hid (∀ x ∈ deskFp b fx fd ft ff, x ∈ fp ∨ w.heap.size ≤ x) := hfp
      clear hfp
      obtain ⟨hc, hf⟩ := cells_of hM.cells
      go_wp2_with fail
      refine (look_doc hM.doc).mono ?_
      rintro e w1 ⟨rfl, hk1⟩
      have hM1 := hM.kept hk1 (fun _ _ h => h)
      obtain ⟨hc1, hf1⟩ := cells_of hM1.cells
      clear hc hf
      have hb1 : b < w1.heap.size := lt_of_heap hM1.cells
      have hkw1 : Kept (fun x => x ∈ fp) w w1 := hkw.step (hk1.mono (fun _ h _ => h.elim))
      by_cases hk0 : D'.doc.kind = 0
      · have hk0' : (D'.doc.kind : Int) = 0 := by omega
        go_wp2_with fail
        obtain ⟨hn2, hsz2, hk2⟩ := new1 w1 (Obj.cells #[.int .i64 (D'.doc.lines.length : Int), .int .i64 (D'.doc.edits : Int), .int .i64 0] viewT)
        have hM2 := hM1.kept hk2 (fun _ _ h => h)
        generalize hV : w1.heap.size = V at hn2 hsz2 ⊢
        generalize w1.alloc (Obj.cells #[.int .i64 (D'.doc.lines.length : Int), .int .i64 (D'.doc.edits : Int), .int .i64 0] viewT) = w2 at hn2 hsz2 hk2 hM2 ⊢
        refine (act_doc_no hM2.doc hk0).mono ?_
        rintro e w3 ⟨rfl, hk3⟩
        have hn3 := hk3.get hn2 (fun h => h)
        have hs3 := hk3.size
        have hM3 := hM2.kept hk3 (fun _ _ h => h)
        obtain ⟨hcv, _⟩ := cells_of hn3
        have hV3 : V < w3.heap.size := lt_of_heap hn3
        have hidle := work_idle hk0 (acts - i) i fail all
        have hD' : Hid (D' = D.work acts 0 fail all) := hidle.symm.trans HW.out
        clear hidle
        have hend : ∀ w', Kept no w3 w' → DeskTon w w' b bx bd nm fp D' := fun w' hk => deskTo_mk (hM3.kept hk (fun _ _ h => h)) HFP.out (((hkw1.step (hk2.mono (fun _ h _ => h.elim))).step (hk3.mono (fun _ h _ => h.elim))).step (hk.mono (fun _ h _ => h.elim)))
        go_wp2
        go_ret
        refine ⟨by simp, ?_⟩
        rw [← hD'.out]
        exact hend _ ((Kept.refl _ _).alloc _)
      · obtain ⟨a, R, ha⟩ := ok'.next hk0
        have hk0' : ¬ (D'.doc.kind : Int) = 0 := by omega
        go_wp2_with fail
        obtain ⟨hn2, hsz2, hk2⟩ := new1 w1 (Obj.cells #[.int .i64 (D'.doc.lines.length : Int), .int .i64 (D'.doc.edits : Int), .int .i64 (D'.doc.kind : Int)] viewT)
        have hM2 := hM1.kept hk2 (fun _ _ h => h)
        generalize hV : w1.heap.size = V at hn2 hsz2 ⊢
        generalize w1.alloc (Obj.cells #[.int .i64 (D'.doc.lines.length : Int), .int .i64 (D'.doc.edits : Int), .int .i64 (D'.doc.kind : Int)] viewT) = w2 at hn2 hsz2 hk2 hM2 ⊢
        refine (act_doc_yes hM2.doc a R hk0 ha).mono ?_
        rintro e w3 ⟨rfl, hk3⟩
        have hn3 := hk3.get hn2 (fun h => h)
        have hs3 := hk3.size
        have hM3 := hM2.kept hk3 (fun _ _ h => h)
        go_wp2_with fail
        obtain ⟨hn4, hsz4, hk4⟩ := new1 w3 (Obj.cells #[.int .i64 (a.kind : Int), .int .i64 (a.at_ : Int), sv a.data] actT)
        have hM4 := hM3.kept hk4 (fun _ _ h => h)
        have hv4 := hk4.get hn3 (fun h => h)
        generalize hA : w3.heap.size = A at hn4 hsz4 ⊢
        generalize w3.alloc (Obj.cells #[.int .i64 (a.kind : Int), .int .i64 (a.at_ : Int), sv a.data] actT) = w4 at hn4 hsz4 hk4 hM4 hv4 ⊢
        obtain ⟨hright, okS⟩ := ok'.step ha (decide ((i : Int) ≠ fail)) all
        refine (right_any a hright w4).mono ?_
        rintro e w5 ⟨rfl, hk5⟩
        have hM5 := hM4.kept hk5 (fun _ _ h => h)
        have hv5 := hk5.get hv4 (fun h => h)
        have ha5 := hk5.get hn4 (fun h => h)
        have hs5 := hk5.size
        have hkw5 : Kept (fun x => x ∈ fp) w w5 := (((hkw1.step (hk2.mono (fun _ h _ => h.elim))).step (hk3.mono (fun _ h _ => h.elim))).step (hk4.mono (fun _ h _ => h.elim))).step (hk5.mono (fun _ h _ => h.elim))
        have hws := hkw1.size
        have hs11 := hk1.size
        have hb5 : b < w5.heap.size := lt_of_heap hM5.cells
        have hB1 : ∀ W, Kept no w5 W → W.cell? ⟨b, 1, none⟩ = some (.pointer (some ⟨bd, 0, none⟩)) := fun W hW => hW.read (by rw [(cells_of hM5.cells).1]; rfl) (fun h => h)
        have hA0 : ∀ W, Kept no w5 W → W.cell? ⟨A, 0, none⟩ = some (.int .i64 (a.kind : Int)) := fun W hW => hW.read (by rw [(cells_of ha5).1]; rfl) (fun h => h)
        have hA1 : ∀ W, Kept no w5 W → W.cell? ⟨A, 1, none⟩ = some (.int .i64 (a.at_ : Int)) := fun W hW => hW.read (by rw [(cells_of ha5).1]; rfl) (fun h => h)
        have hA2 : ∀ W, Kept no w5 W → W.cell? ⟨A, 2, none⟩ = some (sv a.data) := fun W hW => hW.read (by rw [(cells_of ha5).1]; rfl) (fun h => h)
        have hwm := work_more (D := D') (n := acts) (i := i) (fail := fail) (all := all) hk0 hlt
        have HWM : Hid (D'.work (acts - i) i fail all = (D'.step (decide ((i : Int) ≠ fail)) all).work (acts - (i + 1)) (i + 1) fail all) := hwm
        clear hwm
        by_cases hgf : (i : Int) = fail
        · subst hgf
          have hdec : decide ((i : Int) ≠ (i : Int)) = false := by simp
          rw [hdec] at okS
          cases all with
          | true =>
            have hodd : (how : Int) % 2 = 1 := by simp only [decide_eq_true_eq] at hAll; omega
            go_wp2_with fail
            refine wp_region3 (fun W => Kept no w5 W) [(0, true), (1, true), (2, true), (3, false), (4, false)] [5] (by kernel_rfl) (by kernel_rfl) (fun _ _ d _ _ h => by cases d <;> exact h) ((Kept.refl _ _).drew) ?_
            repeat ((first | refine wpPre3_pure rfl rfl (fun W => (by go_simp; rfl)) ?_ | refine wpPre3_read rfl rfl (fun W hW => (by have h1 := hB1 W hW; have h2 := hA0 W hW; have h3 := hA1 W hW; have h4 := hA2 W hW; go_simp; rfl)) ?_); simp only [Act.put, List.setIfInBounds_toArray, List.set])
            refine wpPre3_nil ?_
            have hk5d : Kept no w5 w5.drew := (Kept.refl _ _).drew
            have hM5d := hM5.kept hk5d (fun _ _ h => h)
            have hv5d := hk5d.get hv5 (fun h => h)
            generalize w5.drew = w5d at hk5d hM5d hv5d ⊢
            refine wpTail3_last (by kernel_rfl) rfl rfl (fun K hK => ?_)
            go_wp2_with fail
            refine (do_any hM5d.disk ok'.lens (by omega) a hright (fun h4 => by have := ok'.room ha h4; omega)).mono ?_
            rintro e w6 ⟨rfl, hT6⟩
            refine hK _ _ ?_
            clear hK
            refine wpTail3_nil ?_
            obtain ⟨fd6, hM6, hx6⟩ := hM5d.disk_to hT6
            have hv6 := hT6.kept.get hv5d (fun hx => by have := hM.disk.lt V hx; omega)
            have hs56 := hk5d.size
            have hs6 := hT6.kept.size
            have hkw6 : Kept (fun x => x ∈ fp) w w6 := (hkw5.step (hk5d.mono (fun _ h _ => h.elim))).step' hT6.kept (fun x hx hlt => (HFP.out x (by have hx : x ∈ fd := hx; simp [hx])).resolve_right (by omega))
            obtain ⟨hc6, _⟩ := cells_of hM6.cells
            go_wp2_with fail
            refine (done_doc hM6.doc hk0 (by have := ok'.few; omega) false).mono ?_
            rintro e w7 ⟨rfl, hT7⟩
            obtain ⟨q, hq⟩ : ∃ q, q = D'.doc.done false := ⟨_, rfl⟩
            rw [← hq] at hT7
            have HQ : Hid (q = D'.doc.done false) := hq
            clear hq
            obtain ⟨fx7, hM7, hx7⟩ := hM6.doc_to hT7
            have hv7 := hT7.kept.get hv6 (fun hx => by have := hM.doc.lt V hx; omega)
            have hs7 := hT7.kept.size
            have hkw7 : Kept (fun x => x ∈ fp) w w7 := hkw6.step' hT7.kept (fun x hx hlt => (HFP.out x (by have hx : x ∈ fx := hx; simp [hx])).resolve_right (by omega))
            obtain ⟨hc7, _⟩ := cells_of hM7.cells
            go_wp2_with fail
            refine (look_doc hM7.doc).mono ?_
            rintro e w8 ⟨rfl, hk8⟩
            have hM8 := hM7.kept hk8 (fun _ _ h => h)
            have hv8 := hk8.get hv7 (fun h => h)
            have hs8 := hk8.size
            have hkw8 : Kept (fun x => x ∈ fp) w w8 := hkw7.step (hk8.mono (fun _ h _ => h.elim))
            obtain ⟨hc8, hf8⟩ := cells_of hM8.cells
            obtain ⟨hcv8, _⟩ := cells_of hv8
            have hb8 : b < w8.heap.size := lt_of_heap hM8.cells
            have hV8 : V < w8.heap.size := lt_of_heap hv8
            have hfp8 : ∀ x ∈ deskFp b fx7 fd6 ft ff, x ∈ fp ∨ w.heap.size ≤ x := fun x hx => by
              simp only [deskFp, List.mem_cons, List.mem_append] at hx
              rcases hx with rfl | hx | hx | hx | hx
              · exact HFP.out _ (by simp)
              · rcases hx7 x hx with hx | hx
                · exact HFP.out x (by simp [hx])
                · exact .inr (by omega)
              · rcases hx6 x hx with hx | hx
                · exact HFP.out x (by simp [hx])
                · exact .inr (by omega)
              · exact HFP.out x (by simp [hx])
              · exact HFP.out x (by simp [hx])
            have hq0 : q.kind = 0 := by rw [HQ.out, done_fail_eq]
            have hq1 : (q.kind : Int) = 0 := by omega
            clear hq0
            go_wp2
            refine ⟨⟨i + 1, D'.step (decide ((i : Int) ≠ (i : Int))) true, deskFp b fx7 fd6 ft ff, by omega, by go_num, ?_, ?_, HWM.out.symm.trans HW.out, hfp8, ?_⟩, by simp [intOf]; omega⟩
            · rw [hdec, step_fail ha]
              rw [show q = { D'.doc with kind := 0, acts := [] } from HQ.out.trans (done_fail_eq _)] at hM8 ⊢
              exact ⟨_, _, _, _, _, _, hM8.kept ((Kept.refl _ _).alloc _) (fun _ _ h => h), rfl⟩
            · rw [hdec]; exact okS
            · exact (hkw8.alloc _)
          | false =>
            have hodd : (how : Int) % 2 = 0 := by simp only [decide_eq_false_iff_not] at hAll; omega
            obtain ⟨hc5, _⟩ := cells_of hM5.cells
            go_wp2_with fail
            refine (done_doc hM5.doc hk0 (by have := ok'.few; omega) false).mono ?_
            rintro e w7 ⟨rfl, hT7⟩
            obtain ⟨q, hq⟩ : ∃ q, q = D'.doc.done false := ⟨_, rfl⟩
            rw [← hq] at hT7
            have HQ : Hid (q = D'.doc.done false) := hq
            clear hq
            obtain ⟨fx7, hM7, hx7⟩ := hM5.doc_to hT7
            have hv7 := hT7.kept.get hv5 (fun hx => by have := hM.doc.lt V hx; omega)
            have hs7 := hT7.kept.size
            have hkw7 : Kept (fun x => x ∈ fp) w w7 := hkw5.step' hT7.kept (fun x hx hlt => (HFP.out x (by have hx : x ∈ fx := hx; simp [hx])).resolve_right (by omega))
            obtain ⟨hc7, _⟩ := cells_of hM7.cells
            go_wp2_with fail
            refine (look_doc hM7.doc).mono ?_
            rintro e w8 ⟨rfl, hk8⟩
            have hM8 := hM7.kept hk8 (fun _ _ h => h)
            have hv8 := hk8.get hv7 (fun h => h)
            have hs8 := hk8.size
            have hkw8 : Kept (fun x => x ∈ fp) w w8 := hkw7.step (hk8.mono (fun _ h _ => h.elim))
            obtain ⟨hc8, hf8⟩ := cells_of hM8.cells
            obtain ⟨hcv8, _⟩ := cells_of hv8
            have hb8 : b < w8.heap.size := lt_of_heap hM8.cells
            have hV8 : V < w8.heap.size := lt_of_heap hv8
            have hfp8 : ∀ x ∈ deskFp b fx7 fd ft ff, x ∈ fp ∨ w.heap.size ≤ x := fun x hx => by
              simp only [deskFp, List.mem_cons, List.mem_append] at hx
              rcases hx with rfl | hx | hx | hx | hx
              · exact HFP.out _ (by simp)
              · rcases hx7 x hx with hx | hx
                · exact HFP.out x (by simp [hx])
                · exact .inr (by omega)
              · exact HFP.out x (by simp [hx])
              · exact HFP.out x (by simp [hx])
              · exact HFP.out x (by simp [hx])
            have hq0 : q.kind = 0 := by rw [HQ.out, done_fail_eq]
            have hq1 : (q.kind : Int) = 0 := by omega
            clear hq0
            go_wp2
            refine ⟨⟨i + 1, D'.step (decide ((i : Int) ≠ (i : Int))) false, deskFp b fx7 fd ft ff, by omega, by go_num, ?_, ?_, HWM.out.symm.trans HW.out, hfp8, ?_⟩, by simp [intOf]; omega⟩
            · rw [hdec, step_fail ha]
              rw [show q = { D'.doc with kind := 0, acts := [] } from HQ.out.trans (done_fail_eq _)] at hM8 ⊢
              exact ⟨_, _, _, _, _, _, hM8.kept ((Kept.refl _ _).alloc _) (fun _ _ h => h), rfl⟩
            · rw [hdec]; exact okS
            · exact (hkw8.alloc _)
        · have hdec : decide ((i : Int) ≠ fail) = true := by simpa using hgf
          rw [hdec] at okS
          go_wp2_with fail
          refine wp_region3 (fun W => Kept no w5 W) [(0, true), (1, true), (2, true), (3, false), (4, false)] [5] (by kernel_rfl) (by kernel_rfl) (fun _ _ d _ _ h => by cases d <;> exact h) ((Kept.refl _ _).drew) ?_
          repeat ((first | refine wpPre3_pure rfl rfl (fun W => (by go_simp; rfl)) ?_ | refine wpPre3_read rfl rfl (fun W hW => (by have h1 := hB1 W hW; have h2 := hA0 W hW; have h3 := hA1 W hW; have h4 := hA2 W hW; go_simp; rfl)) ?_); simp only [Act.put, List.setIfInBounds_toArray, List.set])
          refine wpPre3_nil ?_
          have hk5d : Kept no w5 w5.drew := (Kept.refl _ _).drew
          have hM5d := hM5.kept hk5d (fun _ _ h => h)
          have hv5d := hk5d.get hv5 (fun h => h)
          generalize w5.drew = w5d at hk5d hM5d hv5d ⊢
          refine wpTail3_last (by kernel_rfl) rfl rfl (fun K hK => ?_)
          go_wp2_with fail
          refine (do_any hM5d.disk ok'.lens (by omega) a hright (fun h4 => by have := ok'.room ha h4; omega)).mono ?_
          rintro e w6 ⟨rfl, hT6⟩
          refine hK _ _ ?_
          clear hK
          refine wpTail3_nil ?_
          obtain ⟨fd6, hM6, hx6⟩ := hM5d.disk_to hT6
          have hv6 := hT6.kept.get hv5d (fun hx => by have := hM.disk.lt V hx; omega)
          have hs56 := hk5d.size
          have hs6 := hT6.kept.size
          have hkw6 : Kept (fun x => x ∈ fp) w w6 := (hkw5.step (hk5d.mono (fun _ h _ => h.elim))).step' hT6.kept (fun x hx hlt => (HFP.out x (by have hx : x ∈ fd := hx; simp [hx])).resolve_right (by omega))
          obtain ⟨hc6, _⟩ := cells_of hM6.cells
          go_wp2_with fail
          refine (done_doc hM6.doc hk0 (by have := ok'.few; omega) ((i : Int) != fail)).mono ?_
          rintro e w7 ⟨rfl, hT7⟩
          rw [show ((i : Int) != fail) = true by simpa using hgf] at hT7
          obtain ⟨q, hq⟩ : ∃ q, q = D'.doc.done true := ⟨_, rfl⟩
          rw [← hq] at hT7
          have HQ : Hid (q = D'.doc.done true) := hq
          clear hq
          obtain ⟨fx7, hM7, hx7⟩ := hM6.doc_to hT7
          have hv7 := hT7.kept.get hv6 (fun hx => by have := hM.doc.lt V hx; omega)
          have hs7 := hT7.kept.size
          have hkw7 : Kept (fun x => x ∈ fp) w w7 := hkw6.step' hT7.kept (fun x hx hlt => (HFP.out x (by have hx : x ∈ fx := hx; simp [hx])).resolve_right (by omega))
          obtain ⟨hc7, _⟩ := cells_of hM7.cells
          go_wp2_with fail
          refine (look_doc hM7.doc).mono ?_
          rintro e w8 ⟨rfl, hk8⟩
          have hM8 := hM7.kept hk8 (fun _ _ h => h)
          have hv8 := hk8.get hv7 (fun h => h)
          have hs8 := hk8.size
          have hkw8 : Kept (fun x => x ∈ fp) w w8 := hkw7.step (hk8.mono (fun _ h _ => h.elim))
          obtain ⟨hc8, hf8⟩ := cells_of hM8.cells
          obtain ⟨hcv8, _⟩ := cells_of hv8
          have hb8 : b < w8.heap.size := lt_of_heap hM8.cells
          have hV8 : V < w8.heap.size := lt_of_heap hv8
          have hfp8 : ∀ x ∈ deskFp b fx7 fd6 ft ff, x ∈ fp ∨ w.heap.size ≤ x := fun x hx => by
            simp only [deskFp, List.mem_cons, List.mem_append] at hx
            rcases hx with rfl | hx | hx | hx | hx
            · exact HFP.out _ (by simp)
            · rcases hx7 x hx with hx | hx
              · exact HFP.out x (by simp [hx])
              · exact .inr (by omega)
            · rcases hx6 x hx with hx | hx
              · exact HFP.out x (by simp [hx])
              · exact .inr (by omega)
            · exact HFP.out x (by simp [hx])
            · exact HFP.out x (by simp [hx])
          by_cases hR : R = []
          · subst hR
            have hq0 : q.kind = 0 := by rw [HQ.out, done_last_eq ha, succeeded_kind]
            have hq1 : (q.kind : Int) = 0 := by omega
            clear hq0
            rcases (by have := ok'.doc.kind; omega : D'.doc.kind = 1 ∨ D'.doc.kind = 2) with hkk | hkk
            · have hNE : True := trivial
              have hk18 : (D'.doc.kind : Int) = 1 := by omega
              go_wp2_with fail
              obtain ⟨hn9, hsz9, hk9⟩ := new1 w8 (Obj.cells #[.int .i64 (q.lines.length : Int), .int .i64 (q.edits : Int), .int .i64 0] viewT)
              have hM9 := hM8.kept hk9 (fun _ _ h => h)
              have hkw9 : Kept (fun x => x ∈ fp) w (w8.alloc (Obj.cells #[.int .i64 (q.lines.length : Int), .int .i64 (q.edits : Int), .int .i64 0] viewT)) := hkw8.step (hk9.mono (fun _ h _ => h.elim))
              generalize w8.alloc (Obj.cells #[.int .i64 (q.lines.length : Int), .int .i64 (q.edits : Int), .int .i64 0] viewT) = w9 at hk9 hM9 hkw9 ⊢
              obtain ⟨pv, ct, rfl, hct1, hct2, _⟩ := hM9.texts.slice
              have hne : D'.mt ≠ [] := ok'.mt0
              obtain ⟨g, o, rfl, _, htl⟩ := hM9.texts.last hne
              have hTL : Hid (TextsAt w9 (.slice (some ⟨g, o + ((D'.mt).length - 1), none⟩) 1 (ct - ((D'.mt).length - 1))) (lastOne (D'.mt)) ft) := htl
              clear htl
              have hnpos : 0 < (D'.mt).length := List.length_pos_iff.2 hne
              have hnle : (D'.mt).length ≤ 1000000000000 := by have := ok'.mtN; omega
              generalize hn : (D'.mt).length = n at hTL hct1 hnpos hnle hM9 ⊢
              have hT : ∀ W, Kept no w9 W → W.cell? ⟨b, 2, none⟩ = some (.slice (some ⟨g, o, none⟩) n ct) := fun W hW => hW.read (by rw [(cells_of hM9.cells).1]; rfl) (fun h => h)
              refine wp_region3 (fun W => Kept no w9 W) [(0, true), (1, true), (2, true), (3, true), (4, false), (5, true), (6, true), (7, true), (8, false), (9, true), (10, true), (11, true)] [12, 13, 14] (by kernel_rfl) (by kernel_rfl) (fun _ _ d _ _ h => by cases d <;> exact h) ((Kept.refl _ _).drew) ?_
              repeat ((first | refine wpPre3_pure rfl rfl (fun W => (by go_simp; rfl)) ?_ | refine wpPre3_read rfl rfl (fun W hW => (by have h1 := hT W hW; go_simp; rfl)) ?_); simp only [Act.put, List.setIfInBounds_toArray, List.set])
              refine wpPre3_pure rfl rfl (v := .slice (some ⟨g, o + (n - 1), none⟩) 1 (ct - (n - 1))) (fun W => ?_) ?_
              · go_simp
                have hw : IntKind.i64.wrap ((n : Int) - 1) = (n : Int) - 1 := by rw [IntKind.wrap_i64]; omega
                have ht : ((n : Int) - 1).toNat = n - 1 := by omega
                rw [hw, ht, if_pos ⟨by omega, by omega⟩, if_neg (by omega), show n - (n - 1) = 1 by omega]
              simp only [Act.put, List.setIfInBounds_toArray, List.set]
              refine wpPre3_nil ?_
              have hk10 : Kept no w9 w9.drew := (Kept.refl _ _).drew
              have hM10 := hM9.kept hk10 (fun _ _ h => h)
              have hkw10 := hkw9.step (hk10.mono (fun _ h _ => h.elim))
              generalize w9.drew = w10 at hk10 hM10 hkw10 ⊢
              obtain ⟨hc10, hf10⟩ := cells_of hM10.cells
              have htl10 := hTL.out.kept hk10 (fun _ _ h => h)
              refine wpTail3_last (by kernel_rfl) rfl rfl (fun K hK => ?_)
              go_wp2_with fail
              refine wpTail3_last (by kernel_rfl) rfl rfl (fun K hK => ?_)
              go_wp2_with fail
              refine wpTail3_last (by kernel_rfl) rfl rfl (fun K hK => ?_)
              go_wp2_with fail
              refine wpTail3_nil ?_
              go_wp2
              refine ⟨⟨i + 1, D'.step (decide ((i : Int) ≠ fail)) all, deskFp b fx7 fd6 ft ff, by omega, by go_num, ?_, ?_, HWM.out.symm.trans HW.out, hfp8, ?_⟩, by simp [intOf]; omega⟩
              · rw [hdec, step_last ha, if_pos (by omega), if_neg (by omega), if_neg (by omega), if_pos (by omega)]
                have hst := hM10.store (n' := nm) (Kept.cell1 (b := b) (o := 2) (u := .slice (some ⟨g, o + (n - 1), none⟩) 1 (ct - (n - 1)))) (by rw [heap_set_same hM10.cells]; simp) htl10 ⟨hM10.ap.1.2.2.1, hM10.ap.2.1.2.1, hM10.ap.2.2.1.1, hM10.ap.2.2.2⟩
                refine ⟨.slice (some ⟨g, o + (n - 1), none⟩) 1 (ct - (n - 1)), vf, fx7, fd6, ft, ff, ?_, rfl⟩
                rw [show D'.doc.succeeded = q from (done_last_eq ha).symm.trans HQ.out.symm]
                exact hst
              · rw [hdec]; exact okS
              · exact hkw10.setCell (p := ⟨b, 2, none⟩) (fun hlt => (HFP.out b (by simp)).resolve_right (by show ¬ w.heap.size ≤ b; have hlt : b < w.heap.size := hlt; omega)) _
            · have hNE : True := trivial
              have hk18 : (D'.doc.kind : Int) = 2 := by omega
              go_wp2_with fail
              obtain ⟨hn9, hsz9, hk9⟩ := new1 w8 (Obj.cells #[.int .i64 (q.lines.length : Int), .int .i64 (q.edits : Int), .int .i64 0] viewT)
              have hM9 := hM8.kept hk9 (fun _ _ h => h)
              have hkw9 : Kept (fun x => x ∈ fp) w (w8.alloc (Obj.cells #[.int .i64 (q.lines.length : Int), .int .i64 (q.edits : Int), .int .i64 0] viewT)) := hkw8.step (hk9.mono (fun _ h _ => h.elim))
              generalize w8.alloc (Obj.cells #[.int .i64 (q.lines.length : Int), .int .i64 (q.edits : Int), .int .i64 0] viewT) = w9 at hk9 hM9 hkw9 ⊢
              obtain ⟨pv, ct, rfl, hct1, hct2, _⟩ := hM9.files.slice
              have hne : D'.mf ≠ [] := ok'.mf0
              obtain ⟨g, o, rfl, _, htl⟩ := hM9.files.last hne
              have hTL : Hid (TextsAt w9 (.slice (some ⟨g, o + ((D'.mf).length - 1), none⟩) 1 (ct - ((D'.mf).length - 1))) (lastOne (D'.mf)) ff) := htl
              clear htl
              have hnpos : 0 < (D'.mf).length := List.length_pos_iff.2 hne
              have hnle : (D'.mf).length ≤ 1000000000000 := by have := ok'.mfN; omega
              generalize hn : (D'.mf).length = n at hTL hct1 hnpos hnle hM9 ⊢
              have hT : ∀ W, Kept no w9 W → W.cell? ⟨b, 3, none⟩ = some (.slice (some ⟨g, o, none⟩) n ct) := fun W hW => hW.read (by rw [(cells_of hM9.cells).1]; rfl) (fun h => h)
              refine wp_region3 (fun W => Kept no w9 W) [(0, true), (1, true), (2, true), (3, true), (4, false), (5, true), (6, true), (7, true), (8, false), (9, true), (10, true), (11, true)] [12, 13, 14] (by kernel_rfl) (by kernel_rfl) (fun _ _ d _ _ h => by cases d <;> exact h) ((Kept.refl _ _).drew) ?_
              repeat ((first | refine wpPre3_pure rfl rfl (fun W => (by go_simp; rfl)) ?_ | refine wpPre3_read rfl rfl (fun W hW => (by have h1 := hT W hW; go_simp; rfl)) ?_); simp only [Act.put, List.setIfInBounds_toArray, List.set])
              refine wpPre3_pure rfl rfl (v := .slice (some ⟨g, o + (n - 1), none⟩) 1 (ct - (n - 1))) (fun W => ?_) ?_
              · go_simp
                have hw : IntKind.i64.wrap ((n : Int) - 1) = (n : Int) - 1 := by rw [IntKind.wrap_i64]; omega
                have ht : ((n : Int) - 1).toNat = n - 1 := by omega
                rw [hw, ht, if_pos ⟨by omega, by omega⟩, if_neg (by omega), show n - (n - 1) = 1 by omega]
              simp only [Act.put, List.setIfInBounds_toArray, List.set]
              refine wpPre3_nil ?_
              have hk10 : Kept no w9 w9.drew := (Kept.refl _ _).drew
              have hM10 := hM9.kept hk10 (fun _ _ h => h)
              have hkw10 := hkw9.step (hk10.mono (fun _ h _ => h.elim))
              generalize w9.drew = w10 at hk10 hM10 hkw10 ⊢
              obtain ⟨hc10, hf10⟩ := cells_of hM10.cells
              have htl10 := hTL.out.kept hk10 (fun _ _ h => h)
              refine wpTail3_last (by kernel_rfl) rfl rfl (fun K hK => ?_)
              go_wp2_with fail
              refine wpTail3_last (by kernel_rfl) rfl rfl (fun K hK => ?_)
              go_wp2_with fail
              refine wpTail3_last (by kernel_rfl) rfl rfl (fun K hK => ?_)
              go_wp2_with fail
              refine wpTail3_nil ?_
              go_wp2
              refine ⟨⟨i + 1, D'.step (decide ((i : Int) ≠ fail)) all, deskFp b fx7 fd6 ft ff, by omega, by go_num, ?_, ?_, HWM.out.symm.trans HW.out, hfp8, ?_⟩, by simp [intOf]; omega⟩
              · rw [hdec, step_last ha, if_neg (by omega), if_pos (by omega), if_pos (by omega), if_neg (by omega)]
                have hst := hM10.storeF (n' := nm) (Kept.cell1 (b := b) (o := 3) (u := .slice (some ⟨g, o + (n - 1), none⟩) 1 (ct - (n - 1)))) (by rw [heap_set_same hM10.cells]; simp) htl10 ⟨hM10.ap.1.2.2.2, hM10.ap.2.1.2.2, hM10.ap.2.2.1.2, hM10.ap.2.2.2⟩
                refine ⟨vt, .slice (some ⟨g, o + (n - 1), none⟩) 1 (ct - (n - 1)), fx7, fd6, ft, ff, ?_, rfl⟩
                rw [show D'.doc.succeeded = q from (done_last_eq ha).symm.trans HQ.out.symm]
                exact hst
              · rw [hdec]; exact okS
              · exact hkw10.setCell (p := ⟨b, 3, none⟩) (fun hlt => (HFP.out b (by simp)).resolve_right (by show ¬ w.heap.size ≤ b; have hlt : b < w.heap.size := hlt; omega)) _
          · have hNE : True := trivial
            have hq0 : q.kind = D'.doc.kind := by rw [HQ.out, done_on_eq ha hR]
            have hq1 : ¬ (q.kind : Int) = 0 := by omega
            clear hq0
            have hgb : ((i : Int) == fail) = false := by simpa using hgf
            have hgn : ((i : Int) != fail) = true := by simpa using hgf
            go_wp2
            refine ⟨⟨i + 1, D'.step (decide ((i : Int) ≠ fail)) all, deskFp b fx7 fd6 ft ff, by omega, by go_num, ?_, ?_, HWM.out.symm.trans HW.out, hfp8, ?_⟩, by simp [intOf]; omega⟩
            · rw [hdec, step_on ha hR hk0]
              rw [show q = { D'.doc with acts := R } from HQ.out.trans (done_on_eq ha hR)] at hM8 ⊢
              exact ⟨_, _, _, _, _, _, hM8.kept ((Kept.refl _ _).alloc _) (fun _ _ h => h), rfl⟩
            · rw [hdec]; exact okS
            · exact (hkw8.alloc _)
    · obtain rfl : i = acts := by omega
      go_wp2
      go_ret
      refine ⟨by simp, ?_⟩
      rw [← HW.out, Nat.sub_self]
      exact ⟨⟨_, hD, hfp⟩, hkw⟩

theorem work_any {w b bx bd D fp N L} (h : DeskR w b bx bd D fp) (ok : D.Ok N L) (acts : Nat) (actsI fail howI : Int) (how : Nat) (hai : actsI = (acts : Int)) (hhi : howI = (how : Int)) (hacts : acts ≤ 1000) (hf1 : -1 ≤ fail) (hf2 : fail ≤ 1000000) (hhow : how ≤ 1000000) (hN : N + acts ≤ 1000000000000) (hL : L ≤ 1000000000000) :
    Calls Tryz.prog 18 #[.pointer (some ⟨b, 0, none⟩), .int .i64 actsI, .int .i64 fail, .int .i64 howI] w fun e w' => e = .returned (.bool true) ∧ DeskTo w w' b bx bd fp (D.work acts 0 fail (decide (how % 2 ≠ 0))) := by
  refine (work_n (nm := ⟨D.doc.text, D.doc.every, D.doc.counted, D.most⟩) h ok acts actsI fail howI how hai hhi hacts hf1 hf2 hhow hN hL).mono ?_
  rintro e w' ⟨rfl, ⟨fp', hr, hx⟩, hk⟩
  obtain ⟨e1, e2, e3, e4, _⟩ := work_same fail (decide (how % 2 ≠ 0)) acts 0 D
  have e5 : (D.work acts 0 fail (decide (how % 2 ≠ 0))).doc.text = D.doc.text := by unfold DocS.text; rw [e1]
  refine ⟨rfl, ⟨fp', ?_, hx⟩, hk⟩
  unfold DeskR
  rw [e5, e2, e3, e4]
  exact hr
end Go.Proofs.YtdpfohgkikjeaaaGreat
/- begin. -/
namespace Go.Proofs.YtdpfohgkikjeaaaGreat
open Go.RowKit
set_option linter.unusedVariables false
set_option linter.unusedSimpArgs false

theorem text_doc {w b d fp} (h : DocR w b d fp) : Calls Tryz.prog 22 #[.pointer (some ⟨b, 0, none⟩)] w fun e w' => e = .returned (sv d.text) ∧ Kept no w w' := by
  obtain ⟨va, tfp, afp, h, rfl⟩ := h
  exact text_any h.tree (by have := h.ok.text.few; omega) (fun l hl => by have := (h.ok.text.lines l hl).1; omega)

/-- A desk as it begins. -/
def DeskS.first (ls : List Str) (n : Nat) : DeskS := ⟨(DocS.fresh ls (textOf ls) n).beginSync, DiskS.of (List.replicate 400 blank) (textOf ls), [(textOf ls, markOf (textOf ls))], [textOf ls], 0, [textOf ls], [textOf ls]⟩

theorem first_ok {ls : List Str} {n : Nat} (h : TextOk ls) (hd : (DocS.fresh ls (textOf ls) n).beginSync.Ok) : (DeskS.first ls n).Ok 1 2460 := by
  have hl := h.length
  have hlens : (DiskS.of (List.replicate 400 blank) (textOf ls)).Lens 1 2460 := by
    refine ⟨by show (List.map _ (List.replicate 400 blank)).length = 400; rw [List.length_map, List.length_replicate], fun r hr => ?_, fun r hr => ?_, fun r hr s hs => ?_, hl, Nat.zero_le _, Nat.zero_le _, fun e => (by cases e), Nat.zero_le _⟩
    all_goals
      obtain ⟨x, hx, rfl⟩ := List.mem_map.1 hr
      have hx := List.eq_of_mem_replicate hx
      subst hx
    · simp
    · simp
    · simp only [List.mem_cons, List.not_mem_nil, or_false] at hs
      rw [hs]; exact blank_length
  have e : (DocS.fresh ls (textOf ls) n).beginSync.acts = (⟨false, false, 0, 0⟩ : Wr).acts (textOf ls) (markOf (textOf ls)) := rfl
  refine ⟨hd, hlens, ⟨[], markOf [], ⟨Sized.of_lens hlens, Nat.zero_le 1, (by decide : (0 : Nat) < 18446744073709551616), fun hk => (by cases hk)⟩⟩, Nat.le_refl _, Nat.le_refl _, ⟨List.mem_singleton.2 rfl, fun e => (by cases e)⟩, fun _ => ⟨prog_start _ _ _ _, rfl⟩, fun e => (by cases e), Nat.zero_le _, Nat.zero_le _, Nat.le_refl _, Nat.le_refl _, ?_, (by intro e; cases e), Nat.le_refl _, (by intro e; cases e), Nat.le_refl _⟩
  show (DocS.fresh ls (textOf ls) n).beginSync.acts.length ≤ 100
  rw [e]
  have := acts_length ⟨false, false, 0, 0⟩ (markOf (textOf ls)) hl
  omega

/-- What holds of a desk whose first sync was done. -/
structure Begun (D : DeskS) (ls : List Str) (n : Nat) : Prop where
  ok : D.Ok 501 2460
  kind : D.doc.kind = 0
  lines : D.doc.lines = ls
  every : D.doc.every = n
  counted : D.doc.counted = 0
  edits : D.doc.edits = 0
  known : D.doc.wr.known = true
  ch : D.ch = [(textOf ls, markOf (textOf ls))]
  files : D.files = [textOf ls]
  mf : D.mf = [textOf ls]
  mt : D.mt = [textOf ls]
  most : D.most = 0
  mark : D.doc.file = markOf (textOf ls)

theorem first_begun {ls : List Str} {n : Nat} (h : TextOk ls) (hd : (DocS.fresh ls (textOf ls) n).beginSync.Ok) : Begun ((DeskS.first ls n).work 500 0 (-1) false) ls n := by
  have ok := first_ok h hd
  have hok := DeskS.Ok.work (fail := -1) (all := false) 500 0 ok
  have hlen : (DeskS.first ls n).doc.acts.length ≤ 100 := ok.few
  have hw := work_all (fail := -1) (all := false) 500 0 (DeskS.first ls n) (show (1 : Nat) ≠ 0 by decide) (ok.doc.acts.1 (show (1 : Nat) ≠ 0 by decide)) (by omega) (.inl (by decide))
  have hs : (DeskS.first ls n).doc.succeeded = { (DeskS.first ls n).doc with kind := 0, acts := [], wr := (DeskS.first ls n).doc.wr.written, edits := 0 } := by
    unfold DocS.succeeded
    exact if_neg (by show ¬ (1 : Nat) = 2; decide)
  rw [hs] at hw
  rw [hw] at hok ⊢
  exact ⟨hok, rfl, rfl, rfl, rfl, rfl, rfl, rfl, rfl, rfl, rfl, rfl, rfl⟩

set_option maxRecDepth 100000 in
set_option maxHeartbeats 4000000 in
theorem begin_any {w : World} {B : Nat} {v : Value} {raw : List Int} (hr : IntsAt w B v raw) (c : Int) (hc : RawOk c) :
    Calls Tryz.prog 12 #[v, .int .i64 c] w fun e w' => ∃ b bx bd fp D, e = .returned (.tuple #[.pointer (some ⟨b, 0, none⟩), .bool true]) ∧ DeskR w' b bx bd D fp ∧ Begun D (linesN raw) (1 + pickN c 20) ∧ (∀ x ∈ fp, w.heap.size ≤ x) ∧ Kept no w w' := by
  have hlo := linesN_ok raw
  have hp := pickN_lt c (n := 20) (by decide)
  go_enter Tryz.func12, Tryz.ntmps12
  go_wp2_with fail
  refine (file_any hr).mono ?_
  rintro e w1 ⟨rfl, hk1⟩
  go_wp2_with fail
  refine (pick_keep c 20 20 rfl hc (by decide) (by decide) w1).mono ?_
  rintro e w2 ⟨rfl, hw⟩
  rw [hw]
  clear hw
  generalize hpe : pickN c 20 = p at hp ⊢
  have HP : Hid (pickN c 20 = p) := hpe
  clear hpe
  generalize hle : linesN raw = ls at hlo ⊢
  have HLE : Hid (linesN raw = ls) := hle
  clear hle
  go_wp2_with fail
  refine (open_yes ls hlo (1 + p) _ (by omega) w1 (by omega) (by omega)).mono ?_
  rintro e w2 ⟨bx, fx, rfl, hD, hfx, hk2⟩
  go_wp2_with fail
  refine (fresh_disk w2 (textOf ls)).mono ?_
  rintro e w3 ⟨bd, fd, rfl, hK, hfd, hk3⟩
  have hD3 := hD.kept hk3 (fun _ _ h => h)
  have htl := hlo.length
  have hdok := hD.ok
  generalize hs : textOf ls = s at *
  go_wp2_with fail
  obtain ⟨hn4, hsz4, hk4⟩ := new1 w3 (Obj.cells #[sv s] strT)
  generalize hG : w3.heap.size = G at hn4 hsz4 ⊢
  generalize w3.alloc (Obj.cells #[sv s] strT) = w4 at hn4 hsz4 hk4 ⊢
  obtain ⟨hn5, hsz5, hk5⟩ := new1 w4 (Obj.cells #[sv s] strT)
  have hn4' := hk5.get hn4 (fun h => h)
  rw [hsz4] at hn5 hsz5
  generalize w4.alloc (Obj.cells #[sv s] strT) = w5 at hn5 hsz5 hk5 hn4' ⊢
  obtain ⟨hn6, hsz6, hk6⟩ := new1 w5 (Obj.cells #[.pointer (some ⟨bx, 0, none⟩), .pointer (some ⟨bd, 0, none⟩), .slice (some ⟨G, 0, none⟩) 1 1, .slice (some ⟨G + 1, 0, none⟩) 1 1, sv s, .int .i64 (1 + (p : Int)), .int .i64 0, .int .i64 0] deskT)
  have hn46 := hk6.get hn4' (fun h => h)
  have hn56 := hk6.get hn5 (fun h => h)
  rw [hsz5] at hn6
  generalize w5.alloc (Obj.cells #[.pointer (some ⟨bx, 0, none⟩), .pointer (some ⟨bd, 0, none⟩), .slice (some ⟨G, 0, none⟩) 1 1, .slice (some ⟨G + 1, 0, none⟩) 1 1, sv s, .int .i64 (1 + (p : Int)), .int .i64 0, .int .i64 0] deskT) = w6 at hn6 hsz6 hk6 hn46 hn56 ⊢
  have hk36 := (hk4.step hk5).step hk6
  have hD6 := hD3.kept hk36 (fun _ _ h => h)
  have hK6 := hK.kept hk36 (fun _ _ h => h)
  have hkw6 : Kept no w w6 := ((hk1.step hk2).step hk3).step hk36
  have hs1 := hk1.size
  have hs2 := hk2.size
  have hs3 := hk3.size
  have hfxl := hD.lt
  have hfdl := hK.lt
  have hone : ∀ g, w6.heap[g]? = some (.cells #[sv s] strT (0, 0)) → TextsAt w6 (.slice (some ⟨g, 0, none⟩) 1 1) [s] [g] := fun g hg => .inr ⟨g, 0, 1, #[sv s], rfl, rfl, hg, Nat.le_refl _, by unfold maxLen; decide, Nat.le_refl _, fun j x hx => by
    match j, hx with
    | 0, hx => simp at hx; subst hx; rfl⟩
  have hM : DeskM w6 (G + 1 + 1) (DeskS.first ls (1 + p)).doc (DeskS.first ls (1 + p)).disk (DeskS.first ls (1 + p)).mt (DeskS.first ls (1 + p)).mf ⟨(DeskS.first ls (1 + p)).doc.text, (DeskS.first ls (1 + p)).doc.every, (DeskS.first ls (1 + p)).doc.counted, (DeskS.first ls (1 + p)).most⟩ bx bd (.slice (some ⟨G, 0, none⟩) 1 1) (.slice (some ⟨G + 1, 0, none⟩) 1 1) fx fd [G] [G + 1] := by
    refine ⟨?_, ?_, ?_, ?_, ?_, ?_⟩
    · rw [hn6]
      show some _ = some (Obj.cells #[_, _, _, _, sv (textOf ls), Value.int .i64 ((1 + p : Nat) : Int), Value.int .i64 ((0 : Nat) : Int), Value.int .i64 ((0 : Nat) : Int)] deskT (0, 0))
      rw [hs]
      have e : ((1 + p : Nat) : Int) = 1 + (p : Int) := by omega
      rw [e]
      rfl
    · show DocR w6 bx (DocS.fresh ls (textOf ls) (1 + p)).beginSync fx
      rw [hs]; exact hD6
    · show DiskR w6 bd (DiskS.of (List.replicate 400 blank) (textOf ls)) fd
      rw [hs]; exact hK6
    · show TextsAt w6 _ [textOf ls] [G]
      rw [hs]; exact hone G hn46
    · show TextsAt w6 _ [textOf ls] [G + 1]
      rw [hs]; exact hone (G + 1) hn56
    · refine apart_mk ⟨fun hx => ?_, fun hx => ?_, fun h => by have := List.mem_singleton.1 h; omega, fun h => by have := List.mem_singleton.1 h; omega⟩ ⟨fun x hx hx2 => ?_, fun x hx hx2 => ?_, fun x hx hx2 => ?_⟩ ⟨fun x hx hx2 => ?_, fun x hx hx2 => ?_⟩ (by simp)
      · have := hfxl _ hx; omega
      · have := hfdl _ hx; omega
      · have := hfxl x hx; have := hfd x hx2; omega
      · have := hfxl x hx; simp at hx2; omega
      · have := hfxl x hx; simp at hx2; omega
      · have := hfdl x hx; simp at hx2; omega
      · have := hfdl x hx; simp at hx2; omega
  have hR : DeskR w6 (G + 1 + 1) bx bd (DeskS.first ls (1 + p)) (deskFp (G + 1 + 1) fx fd [G] [G + 1]) := ⟨_, _, _, _, _, _, hM, rfl⟩
  have hdok' : (DocS.fresh ls (textOf ls) (1 + p)).beginSync.Ok := by rw [hs]; exact hdok
  have hbeg := first_begun hlo hdok'
  have hfok := first_ok hlo hdok'
  refine (work_any hR hfok 500 500 (-1) 0 0 rfl rfl (by decide) (by decide) (by decide) (by decide) (by decide) (by decide)).mono ?_
  rintro e w7 ⟨rfl, hT⟩
  rw [show decide (0 % 2 ≠ 0) = false from rfl] at hT
  generalize (DeskS.first ls (1 + p)).work 500 0 (-1) false = D at hT hbeg
  obtain ⟨⟨fp7, ⟨vt, vf, fx7, fd7, ft7, ff7, hM7, rfl⟩, hx7⟩, hk7⟩ := hT
  have hfin : ∀ w', Kept no w7 w' → ∃ b' bx' bd' fp' D', Ending.returned (.tuple #[.pointer (some ⟨G + 1 + 1, 0, none⟩), .bool true]) = .returned (.tuple #[.pointer (some ⟨b', 0, none⟩), .bool true]) ∧ DeskR w' b' bx' bd' D' fp' ∧ Begun D' ls (1 + p) ∧ (∀ x ∈ fp', w.heap.size ≤ x) ∧ Kept no w w' := fun w' hk' => by
    have hge : ∀ x ∈ deskFp (G + 1 + 1) fx fd [G] [G + 1], w.heap.size ≤ x := fun x hx => by
      simp only [deskFp, List.mem_cons, List.mem_append, List.not_mem_nil, or_false] at hx
      rcases hx with rfl | hx | hx | rfl | rfl
      · omega
      · have := hfx x hx; omega
      · have := hfd x hx; omega
      · omega
      · omega
    refine ⟨_, bx, bd, _, D, rfl, ⟨vt, vf, fx7, fd7, ft7, ff7, hM7.kept hk' (fun _ _ h => h), rfl⟩, hbeg, fun x hx => ?_, (hkw6.step' hk7 (fun x hx hlt => by have := hge x hx; omega)).step hk'⟩
    rcases hx7 x hx with h | h
    · exact hge x h
    · have := hkw6.size; omega
  have HFIN : Hid (∀ w', Kept no w7 w' → ∃ b' bx' bd' fp' D', Ending.returned (.tuple #[.pointer (some ⟨G + 1 + 1, 0, none⟩), .bool true]) = .returned (.tuple #[.pointer (some ⟨b', 0, none⟩), .bool true]) ∧ DeskR w' b' bx' bd' D' fp' ∧ Begun D' ls (1 + p) ∧ (∀ x ∈ fp', w.heap.size ≤ x) ∧ Kept no w w') := hfin
  clear hfin
  have hkd : (D.doc.kind : Int) = 0 := by rw [hbeg.kind]; rfl
  have htx : D.doc.text = s := by unfold DocS.text; rw [hbeg.lines]; exact hs
  go_wp2_with fail
  refine (look_doc hM7.doc).mono ?_
  rintro e w8 ⟨rfl, hk8⟩
  have hM8 := hM7.kept hk8 (fun _ _ h => h)
  go_wp2_with fail
  obtain ⟨hn9, hsz9, hk9⟩ := new1 w8 (Obj.cells #[.int .i64 (D.doc.lines.length : Int), .int .i64 (D.doc.edits : Int), .int .i64 0] viewT)
  have hM9 := hM8.kept hk9 (fun _ _ h => h)
  generalize hV : w8.heap.size = V at hn9 hsz9 ⊢
  generalize w8.alloc (Obj.cells #[.int .i64 (D.doc.lines.length : Int), .int .i64 (D.doc.edits : Int), .int .i64 0] viewT) = w9 at hn9 hsz9 hk9 hM9 ⊢
  refine (text_doc hM9.doc).mono ?_
  rintro e w10 ⟨rfl, hk10⟩
  have hn10 := hk10.get hn9 (fun h => h)
  obtain ⟨hc10, _⟩ := cells_of hn10
  rw [htx]
  have hfw := HFIN.out w10 ((hk8.step hk9).step hk10)
  have HFW : Hid (∃ b' bx' bd' fp' D', Ending.returned (.tuple #[.pointer (some ⟨G + 1 + 1, 0, none⟩), .bool true]) = .returned (.tuple #[.pointer (some ⟨b', 0, none⟩), .bool true]) ∧ DeskR w10 b' bx' bd' D' fp' ∧ Begun D' ls (1 + p) ∧ (∀ x ∈ fp', w.heap.size ≤ x) ∧ Kept no w w10) := hfw
  clear hfw HFIN hM7 hM8 hM9 hbeg hfok hdok' hdok hR hM hD hK hD3 hD6 hK6 hone hx7 hk7
  go_wp2
  refine bodyPost_ret (v := .tuple #[.pointer (some ⟨G + 1 + 1, 0, none⟩), .bool true]) (by simp [results, Tryz.results12, go_sem]) rfl ?_
  rw [HP.out, HLE.out]
  exact HFW.out
end Go.Proofs.YtdpfohgkikjeaaaGreat
/- A desk, on: edits, syncs, Saves. Plain mathematics. -/
namespace Go.Proofs.YtdpfohgkikjeaaaGreat
set_option linter.unusedVariables false
set_option linter.unusedSimpArgs false

theorem lastOne_sub {α : Type} {l : List α} : ∀ x ∈ lastOne l, x ∈ l := fun x hx => List.mem_of_mem_drop hx

theorem step_files_sub (D : DeskS) (good all : Bool) : ∀ x ∈ (D.step good all).files, x ∈ D.files := by
  unfold DeskS.step
  split
  · exact fun x hx => hx
  · intro x hx
    dsimp only at hx
    split at hx
    · exact lastOne_sub x hx
    · exact hx

theorem work_files_sub (fail : Int) (all : Bool) : ∀ (n i : Nat) (D : DeskS), ∀ x ∈ (D.work n i fail all).files, x ∈ D.files
  | 0, i, D => fun x hx => hx
  | n + 1, i, D => by
    unfold DeskS.work
    split
    · exact fun x hx => hx
    · intro x hx
      exact step_files_sub D _ _ x (work_files_sub fail all n (i + 1) _ x hx)

/-- An edit. -/
def DeskS.edited (D : DeskS) (ls : List Str) (m : Nat) : DeskS := DeskS.begun { D with doc := (D.doc.setLines ls).edited, most := m }

theorem DeskS.Ok.edited {D : DeskS} {N L : Nat} (h : D.Ok N L) (hk : D.doc.kind = 0) {ls : List Str} (hls : TextOk ls) {m : Nat} (hm : m ≤ D.doc.every) : (D.edited ls m).Ok (N + 1) L := by
  have hd : (D.doc.setLines ls).edited.Ok := (h.doc.setLines hls).edited_ok hk
  have hm1 := h.mono (Nat.le_succ N)
  have hch := h.ch
  have hed := h.edits
  have hacts : D.doc.acts = [] := by
    by_cases e : D.doc.acts = []
    · exact e
    · exact absurd hk (h.doc.acts.2 e)
  unfold DeskS.edited DeskS.begun
  by_cases he : D.doc.counted + 1 = D.doc.every
  · have e1 : (D.doc.setLines ls).edited = { D.doc.setLines ls with edits := D.doc.edits + 1, counted := 0, kind := 1, acts := D.doc.wr.acts (textOf ls) D.doc.file } := by
      unfold DocS.edited
      rw [if_pos (show (D.doc.setLines ls).counted + 1 = (D.doc.setLines ls).every from he)]
      rfl
    rw [e1] at hd ⊢
    rw [if_pos rfl]
    obtain ⟨t0, f0, hsw⟩ := h.swok
    refine ⟨hd, hm1.lens, ⟨t0, f0, hsw.more _⟩, by simp; omega, hm1.fl, h.file, fun _ => ⟨prog_start _ _ _ _, by simp⟩, fun e => (by cases e), by show D.doc.edits + 1 ≤ N + 1; omega, hm, hm1.one, h.big, ?_, h.mf0, hm1.mfN, by simp, by have := h.mtN; simp; omega⟩
    show (D.doc.wr.acts (textOf ls) D.doc.file).length ≤ 100
    have := acts_length D.doc.wr D.doc.file hls.length
    omega
  · have e1 : (D.doc.setLines ls).edited = { D.doc.setLines ls with edits := D.doc.edits + 1, counted := D.doc.counted + 1 } := by
      unfold DocS.edited
      rw [if_neg (show ¬ (D.doc.setLines ls).counted + 1 = (D.doc.setLines ls).every from he)]
      rfl
    rw [e1] at hd ⊢
    rw [if_neg (by show ¬ D.doc.kind = 1; omega)]
    exact ⟨hd, hm1.lens, h.swok, hm1.ch, hm1.fl, h.file, fun e => absurd e (by show ¬ D.doc.kind = 1; omega), fun e => absurd e (by show ¬ D.doc.kind = 2; omega), by show D.doc.edits + 1 ≤ N + 1; omega, hm, hm1.one, h.big, h.few, h.mf0, hm1.mfN, h.mt0, hm1.mtN⟩

/-- A sync is begun. -/
theorem DeskS.Ok.synced {D : DeskS} {N L : Nat} (h : D.Ok N L) (hk : D.doc.kind = 0) (hd : D.doc.beginSync.Ok) : (DeskS.begun { D with doc := D.doc.beginSync }).Ok (N + 1) L := by
  have hm1 := h.mono (Nat.le_succ N)
  have hch := h.ch
  have hed := h.edits
  unfold DeskS.begun
  rw [if_pos (show D.doc.beginSync.kind = 1 from rfl)]
  obtain ⟨t0, f0, hsw⟩ := h.swok
  refine ⟨hd, hm1.lens, ⟨t0, f0, hsw.more _⟩, by simp; omega, hm1.fl, h.file, fun _ => ⟨prog_start _ _ _ _, by simp⟩, fun e => (by cases e), by show D.doc.edits ≤ N + 1; omega, h.most, hm1.one, h.big, ?_, h.mf0, hm1.mfN, by simp, by have := h.mtN; simp; omega⟩
  show (D.doc.wr.acts D.doc.text D.doc.file).length ≤ 100
  have := acts_length D.doc.wr D.doc.file (t := D.doc.text) h.doc.text.length
  omega

/-- A Save is begun. -/
theorem DeskS.Ok.saved {D : DeskS} {N L : Nat} (h : D.Ok N L) (hk : D.doc.kind = 0) {mf : List Str} (hm0 : mf ≠ []) (hm1' : mf.length ≤ N + 1) (hd : D.doc.save.2.Ok) : DeskS.Ok { D with doc := D.doc.save.2, files := D.files ++ [D.doc.text], mf := mf } (N + 1) L := by
  have hm1 := h.mono (Nat.le_succ N)
  have hfl := h.fl
  have hed := h.edits
  have e1 : D.doc.save.2 = { D.doc with kind := 2, acts := saveActs D.doc.text } := by
    unfold DocS.save
    rw [if_neg (by omega)]
  rw [e1] at hd ⊢
  refine ⟨hd, hm1.lens, h.swok, hm1.ch, by simp; omega, h.file.more _, fun e => (by cases e), fun _ => ⟨.inl rfl, by simp; rfl⟩, hm1.edits, h.most, hm1.one, h.big, ?_, hm0, hm1', h.mt0, hm1.mtN⟩
  show (saveActs D.doc.text).length ≤ 100
  unfold saveActs
  split <;> simp
end Go.Proofs.YtdpfohgkikjeaaaGreat
/- Saved: the walk. -/
namespace Go.Proofs.YtdpfohgkikjeaaaGreat
open Go.RowKit
set_option linter.unusedVariables false
set_option linter.unusedSimpArgs false

theorem DiskR.fileCell {w b d fp} (h : DiskR w b d fp) : w.cell? ⟨b, 1, none⟩ = some (sv d.file) := by
  obtain ⟨vs, vals, bl, h, rfl⟩ := h
  rw [(cells_of h.cells).1]; rfl

theorem replace_d {w b d fp} (h : DocR w b d fp) (at_ : Int) (l : Str) (hl : l.length ≤ 140737488355328) (he : d.edits ≤ 1000000000000) :
    Calls Tryz.prog 40 #[.pointer (some ⟨b, 0, none⟩), .int .i64 at_, sv l] w fun e w' => e = .returned (.int .i64 ((d.replace at_ l).1 : Int)) ∧ DocTo w w' b fp (d.replace at_ l).2 := by
  obtain ⟨va, tfp, afp, h, rfl⟩ := h
  exact replace_doc h at_ l hl he
theorem insert_d {w b d fp} (h : DocR w b d fp) (at_ : Int) (l : Str) (hl : l.length ≤ 140737488355328) (he : d.edits ≤ 1000000000000) :
    Calls Tryz.prog 25 #[.pointer (some ⟨b, 0, none⟩), .int .i64 at_, sv l] w fun e w' => e = .returned (.int .i64 ((d.insert at_ l).1 : Int)) ∧ DocTo w w' b fp (d.insert at_ l).2 := by
  obtain ⟨va, tfp, afp, h, rfl⟩ := h
  exact insert_doc h at_ l hl he
theorem save_d {w b d fp} (h : DocR w b d fp) (hk : d.kind = 0) : Calls Tryz.prog 27 #[.pointer (some ⟨b, 0, none⟩)] w fun e w' => e = .returned (.int .i64 0) ∧ DocTo w w' b fp d.save.2 := by
  obtain ⟨va, tfp, afp, h, rfl⟩ := h
  exact save_yes h hk
theorem DocTo.same' {w w' : World} {b : Nat} {d : DocS} {fp : List Nat} (h : DocR w b d fp) (hk : Kept no w w') : DocTo w w' b fp d := ⟨⟨fp, h.kept hk (fun _ _ h => h), fun x hx => .inl hx⟩, hk.mono (fun _ h _ => h.elim)⟩

/-- The desk of Saved behind its edit. -/
def savedLines (raw : List Int) (c : Int) : List Str := if raw = [] then [lineN c] else lineN c :: (linesN raw).drop 1

theorem savedLines_ok (raw : List Int) (c : Int) : TextOk (savedLines raw c) := by
  have h := linesN_ok raw
  unfold savedLines
  split
  · exact ⟨by simp, fun l hl => by simp at hl; subst hl; exact lineN_ok c⟩
  · refine ⟨?_, fun l hl => ?_⟩
    · rename_i hne
      have h2 : 0 < (linesN raw).length := by
        unfold linesN
        rw [List.length_map, List.length_take]
        have := List.length_pos_iff.2 hne
        omega
      have := h.few
      simp only [List.length_cons, List.length_drop]
      omega
    · rcases List.mem_cons.1 hl with rfl | hl
      · exact lineN_ok c
      · exact h.lines l (List.mem_of_mem_drop hl)

theorem savedLines_ne (raw : List Int) (c : Int) : textOf (savedLines raw c) ≠ [] := by
  unfold savedLines
  split
  · rw [textOf_cons]; simp
  · rw [textOf_cons]; simp

theorem linesN_len (raw : List Int) : (linesN raw).length = min 60 raw.length := by simp [linesN]

theorem replace_raw {d : DocS} {raw : List Int} (hl : d.lines = linesN raw) (hk : d.kind = 0) (c : Int) : d.replace 0 (lineN c) = if raw = [] then (1, d) else (0, (d.setLines (savedLines raw c)).edited) := by
  have hlen := linesN_len raw
  unfold DocS.replace
  rw [if_neg (by omega), hl]
  by_cases hr : raw = []
  · subst hr
    rw [if_pos rfl, if_pos]
    right; simp [linesN]
  · have hpos := List.length_pos_iff.2 hr
    rw [if_neg hr, if_neg (by omega), if_neg (by simpa using lineN_ok c)]
    simp [savedLines, hr]

theorem insert_raw {d : DocS} {raw : List Int} (hl : d.lines = linesN raw) (hk : d.kind = 0) (c : Int) (hr : raw = []) : d.insert 0 (lineN c) = (0, (d.setLines (savedLines raw c)).edited) := by
  subst hr
  unfold DocS.insert
  have e : linesN [] = [] := rfl
  rw [if_neg (by omega), hl, e, if_neg (by simp), if_neg (by simpa using lineN_ok c), if_neg (by simp)]
  simp [savedLines]
end Go.Proofs.YtdpfohgkikjeaaaGreat
/- Reading back: what is left of a desk's disk; Recover of it. -/
namespace Go.Proofs.YtdpfohgkikjeaaaGreat
open Go.RowKit
set_option linter.unusedVariables false
set_option linter.unusedSimpArgs false

theorem now_leaves {d : DiskS} {N L : Nat} (h : d.Lens N L) : d.Leaves d.now := by
  refine ⟨by simp [DiskS.now], fun i hi => ?_⟩
  have hm : d.sw[i] ∈ d.sw := by simp
  simp only [DiskS.now, List.getD_eq_getElem?_getD, List.getElem?_map, List.getElem?_eq_getElem hi, Option.map_some, Option.getD_some]
  exact lastOf_mem (h.some _ hm)

theorem leaves_left {d : DiskS} {secs : List Str} (h : d.Leaves secs) (hl : d.sw.length = 400) : Left d.S (imgOf secs) := fun i hi => by
  have := h.2 i (by omega)
  unfold imgOf DiskS.S
  rwa [List.getD_eq_getElem?_getD] at this

theorem leaves_size {d : DiskS} {N L : Nat} (hL : d.Lens N L) {secs : List Str} (h : d.Leaves secs) : ∀ s ∈ secs, s.length = 64 := fun s hs => by
  obtain ⟨i, hi, rfl⟩ := List.getElem_of_mem hs
  have hi2 : i < d.sw.length := by rw [← h.1]; exact hi
  have := h.2 i hi2
  simp only [List.getD_eq_getElem?_getD, List.getElem?_eq_getElem hi, List.getElem?_eq_getElem hi2, Option.getD_some] at this
  exact hL.size _ (by simp) _ this

/-- Something is found, and it is one of the chances. -/
theorem back_finds {D : DeskS} {N L : Nat} (h : D.Ok N L) (hkn : D.doc.wr.known = true) {secs : List Str} (hlv : D.disk.Leaves secs) : ∃ hh hd ls, TextOk ls ∧ Finds (imgOf secs) hh hd (textOf ls) ∧ (textOf ls, hd.file) ∈ D.ch := by
  obtain ⟨t0, f0, hsw⟩ := h.swok
  have hs := (hsw.safe hkn).2
  have hleft := leaves_left hlv h.lens.sw
  obtain ⟨hh, hd, t, hF⟩ := hs.finds hleft
  obtain ⟨ls, hls, rfl⟩ := hF.reads.fits
  exact ⟨hh, hd, ls, hls, hF, hs.all _ hleft _ _ _ hF⟩

/-- A desk that is read back. -/
def DeskS.back (ls : List Str) (f : Str) (n hh : Nat) (hd : Head) (secs : List Str) (most : Nat) : DeskS := ⟨DocS.readBack ls f n hh hd.number, DiskS.of secs f, [(textOf ls, hd.file)], [f], most, [f], [textOf ls]⟩

theorem back_ok {ls : List Str} {f : Str} {n hh : Nat} {hd : Head} {secs : List Str} {most L : Nat} (hdoc : (DocS.readBack ls f n hh hd.number).Ok) (hl : secs.length = 400) (h64 : ∀ s ∈ secs, s.length = 64) (hF : Finds (imgOf secs) hh hd (textOf ls)) (hm : most ≤ n) (hL : 2460 ≤ L) (hf : f.length ≤ L) : (DeskS.back ls f n hh hd secs most).Ok 1 L := by
  have hlens : (DiskS.of secs f).Lens 1 L := by
    refine ⟨by show (List.map _ secs).length = 400; rw [List.length_map]; exact hl, fun r hr => ?_, fun r hr => ?_, fun r hr s hs => ?_, hf, Nat.zero_le _, Nat.zero_le _, fun e => (by cases e), Nat.zero_le _⟩
    all_goals
      obtain ⟨x, hx, rfl⟩ := List.mem_map.1 hr
    · simp
    · simp
    · simp only [List.mem_cons, List.not_mem_nil, or_false] at hs
      rw [hs]; exact h64 x hx
  have hsz : ∀ i, i < 400 → (imgOf secs i).length = 64 := fun i hi => by
    unfold imgOf
    rw [List.getElem?_eq_getElem (by omega)]
    exact h64 _ (by simp)
  have hsafe := safe_found hsz hF
  have hS : (DiskS.of secs f).S = fun i => [imgOf secs i] := DiskS.S_of secs f
  refine ⟨hdoc, hlens, ⟨textOf ls, hd.file, ?_⟩, Nat.le_refl _, Nat.le_refl _, ⟨List.mem_singleton.2 rfl, fun e => (by cases e)⟩, fun e => (by cases e), fun e => (by cases e), Nat.zero_le _, hm, Nat.le_refl _, hL, Nat.zero_le _, (by intro e; cases e), Nat.le_refl _, (by intro e; cases e), Nat.le_refl _⟩
  show SwOk (DiskS.of secs f).S ⟨true, true, hh, hd.number⟩ _ _ _
  rw [hS]
  exact ⟨hsafe.sized, hF.half, hsafe.num, fun _ => ⟨List.mem_singleton.2 rfl, hsafe.mono fun t g ⟨h1, h2⟩ => by subst h1; subst h2; exact List.mem_singleton.2 rfl⟩⟩

/-- Recover, of a swap in which something is found. -/
theorem recover_yes {w : World} {v : Value} {secs : List Str} (hr : Row w 9 1 v 400 (secs.map sv)) (hl : secs.length = 400) (h64 : ∀ s ∈ secs, s.length = 64) {hh : Nat} {hd : Head} {ls : List Str} (hok : TextOk ls) (hF : Finds (imgOf secs) hh hd (textOf ls)) (file : Str) (hfl : file.length ≤ 1099511627776) (n : Nat) (nI : Int) (hn : nI = (n : Int)) (h1 : 1 ≤ n) (h2 : n ≤ 20) (same : Bool) (hsame : same = true ↔ markOf file = hd.file) :
    Calls Tryz.prog 20 #[v, sv file, .int .i64 nI] w fun e w' => ∃ B fp, e = .returned (.tuple #[.pointer (some ⟨B, 0, none⟩), .bool same, .int .i64 0]) ∧ DocR w' B (DocS.readBack ls file n hh hd.number) fp ∧ (∀ x ∈ fp, w.heap.size ≤ x) ∧ Kept no w w' := by
  have hlt := hr.lt
  rcases hr.shape with ⟨_, h0, _⟩ | ⟨g, c, rfl, hc1, hc2⟩
  · cases h0
  · have hcell := hr.cell
    have hs : StrsAt w g 0 secs := fun j s hs => by
      rw [Nat.zero_add]
      exact hcell.2.2.2 j (sv s) (by rw [List.getElem?_map, hs]; rfl)
    have hr' : Row w 9 1 (.slice (some ⟨g, 0, none⟩) 400 c) secs.length (secs.map sv) := by rw [hl]; exact hr
    unfold maxLen at hc2
    refine recover_any g 0 c secs w hr' hl h64 file nI (by omega) (by omega) _ ?_
    refine (readBack_some g 0 c secs w hs hl h64 hc1 (by omega) (hlt g (by simp [fpv_some])) hh hd ls hok hF file hfl n nI hn h1 h2 (readHead_num hF.reads.head) same hsame).mono ?_
    rintro e w' ⟨B, fp, rfl, hrest⟩
    exact ⟨_, _, _, rfl, B, fp, rfl, hrest⟩
end Go.Proofs.YtdpfohgkikjeaaaGreat
/- Regions that draw, a fifth time: behind the reads single operations and pure ones, mixed. -/
namespace Go.Proofs.YtdpfohgkikjeaaaGreat
open Go.RowKit
set_option linter.unusedVariables false
set_option linter.unusedSimpArgs false

section
variable {P : Program} {ops : Array Oper} {Q : Exit → Act → World → Prop} {md : Region.Mode} {C : World → Prop} {N : Nat → Bool}

def mixB (md : Region.Mode) (ops : Array Oper) : List (Nat × Bool) → Array Bool → Bool
  | [], listed => Region.ready md ops listed == []
  | i :: l, listed => (if i.2 then (Region.ready md ops listed).contains i.1 && Region.free md ops listed i.1 else Region.ready md ops listed == [i.1]) && mixB md ops l (listed.setIfInBounds i.1 true)

/-- Single operations (false) and pure ones (true), in this order. -/
def wpMix (P : Program) (ops : Array Oper) (C : World → Prop) (N : Nat → Bool) (Q : Exit → Act → World → Prop) : List (Nat × Bool) → Act → World → Prop
  | [], a, w => Q .normal a w
  | (i, true) :: l, a, w => ∃ o v, ops[i]? = some o ∧ Reads P ops (fun w => true = true ∨ C w) o v a ∧ wpMix P ops C N Q l (a.put o.dst v) w
  | (i, false) :: l, a, w => wpOp P ops Q i (fun a' w' => (N i = true → C w → C w') ∧ wpMix P ops C N Q l a' w') a w

theorem wpGo3_mix (hs : Region.noSelect ops = true) (hQ : ∀ c a d v w, Q (.panic c) (Act.put a d v) w → Q (.panic c) a w) : ∀ (m : List (Nat × Bool)) (listed : Array Bool) (a : Act) (w : World), Closed md ops listed → mixB md ops m listed = true → wpMix P ops C N Q m a w → wpGo3 P md ops C N Q m.length listed a w
  | [], listed, a, w, hcl, hB, h => ⟨by simpa [mixB] using hB, h⟩
  | (i, true) :: m, listed, a, w, hcl, hB, h => by
    simp only [mixB, if_true, Bool.and_eq_true] at hB
    obtain ⟨⟨hr, hf⟩, hB'⟩ := hB
    obtain ⟨o, v, ho, hy, hK⟩ := h
    have hr' : i ∈ Region.ready md ops listed := by simpa using hr
    exact wpGo3_first true ho (Region.noSelect_spec hs) (fun e => (by cases e)) (fun c a w => hQ c a _ _ w) _ listed a w hcl (fun e => (by cases e)) (Region.free_spec ho hf) hr' hy
      (wpGo3_mix hs hQ m _ _ w (hcl.step hr') hB' hK)
  | (i, false) :: m, listed, a, w, hcl, hB, h => by
    simp only [mixB, Bool.false_eq_true, if_false, Bool.and_eq_true, beq_iff_eq] at hB
    unfold wpMix at h
    have hmem : i ∈ Region.ready md ops listed := by rw [hB.1]; simp
    refine ⟨fun h0 => (by rw [hB.1] at h0; cases h0), fun j hj => ?_⟩
    rw [hB.1] at hj
    simp only [List.mem_cons, List.not_mem_nil, or_false] at hj
    subst hj
    exact wpOp_mono (fun a' w' h' => ⟨h'.1, wpGo3_mix hs hQ m _ _ _ (hcl.step hmem) hB.2 h'.2⟩) h

theorem closed_all : ∀ (p : List Nat) (listed : Array Bool), Closed md ops listed → preOnly md ops p listed = true → Closed md ops (listAll p listed)
  | [], listed, h, _ => h
  | i :: p, listed, h, hB => by
    simp only [preOnly, Bool.and_eq_true] at hB
    have hr : i ∈ Region.ready md ops listed := by simpa using hB.1.1
    exact closed_all p _ (h.step hr) hB.2

theorem wpPre3_mono {R R' : Act → Prop} (h : ∀ a, R a → R' a) : ∀ (p : List (Nat × Bool)) (a : Act), wpPre3 P ops C R p a → wpPre3 P ops C R' p a
  | [], a, hh => h a hh
  | i :: p, a, ⟨o, v, ho, hy, hK⟩ => ⟨o, v, ho, hy, wpPre3_mono h p _ hK⟩

theorem wp_region5 {id : Nat} {a : Act} {w : World} (C : World → Prop) (p m : List (Nat × Bool)) (hm : P.follows .mixedOrders = true)
    (hB : (Region.noSelect ops && (p.length + m.length == ops.size) && preOnly .any ops (p.map (·.1)) (Array.replicate ops.size false) && mixB .any ops m (listAll (p.map (·.1)) (Array.replicate ops.size false))) = true)
    (hQ : ∀ c a d v w, Q (.panic c) (Act.put a d v) w → Q (.panic c) a w) (hC : C w.drew)
    (h : wpPre3 P ops C (fun a' => wpMix P ops C (needB3 .any ops p) Q m a' w.drew) p a) : (Code.region id ops true).wp P Q a w := by
  simp only [Bool.and_eq_true] at hB
  obtain ⟨⟨⟨hs, hl⟩, hB1⟩, hB2⟩ := hB
  refine wp_region4 C p m.length hm (by simp only [Bool.and_eq_true]; exact ⟨⟨hs, hl⟩, hB1⟩) hQ hC ?_
  have hcl := closed_all (md := .any) (ops := ops) (p.map (·.1)) _ closed_start hB1
  have hw : ∀ a', wpMix P ops C (needB3 .any ops p) Q m a' w.drew → wpGo3 P .any ops C (needB3 .any ops p) Q m.length (listAll (p.map (·.1)) (Array.replicate ops.size false)) a' w.drew := fun a' h' => wpGo3_mix hs hQ m _ a' w.drew hcl hB2 h'
  exact wpPre3_mono hw p a h

theorem wpMix_nil {a : Act} {w : World} (h : Q .normal a w) : wpMix P ops C N Q [] a w := h
theorem wpMix_pure {a : Act} {w : World} {i : Nat} {l : List (Nat × Bool)} {o : Oper} {v : Value} (ho : ops.toList[i]? = some o) (hg : o.guard = none)
    (hr : ∀ w, (execOp a.eval o).run P w = .ok (.value v) w) (h : wpMix P ops C N Q l (a.put o.dst v) w) : wpMix P ops C N Q ((i, true) :: l) a w := by
  exact ⟨o, v, by simpa using ho, .inl ⟨by simp [Region.wanted, hg], fun w _ => hr w⟩, h⟩
theorem wpMix_cons {a : Act} {w : World} {i : Nat} {l : List (Nat × Bool)} {o : Oper} (ho : ops.toList[i]? = some o) (hg : o.guard = none)
    (h : ∀ K : Act → World → Prop, (∀ a' w', (C w → C w') ∧ wpMix P ops C N Q l a' w' → K a' w') → o.wp P a w K Q) : wpMix P ops C N Q ((i, false) :: l) a w := by
  have ho' : ops[i]? = some o := by simpa using ho
  unfold wpMix
  unfold wpOp
  simp only [ho']
  rw [if_pos (by simp [Region.wanted, hg])]
  exact .inl (h _ (fun _ _ h => ⟨fun _ => h.1, h.2⟩))
theorem wpMix_last {a : Act} {w : World} {i : Nat} {l : List (Nat × Bool)} {o : Oper} (hn : N i = false) (ho : ops.toList[i]? = some o) (hg : o.guard = none)
    (h : ∀ K : Act → World → Prop, (∀ a w, wpMix P ops C N Q l a w → K a w) → o.wp P a w K Q) : wpMix P ops C N Q ((i, false) :: l) a w := by
  have ho' : ops[i]? = some o := by simpa using ho
  unfold wpMix
  unfold wpOp
  simp only [ho']
  rw [if_pos (by simp [Region.wanted, hg])]
  exact .inl (h _ (fun _ _ h => ⟨fun hh => (by rw [hn] at hh; cases hh), h⟩))
end
end Go.Proofs.YtdpfohgkikjeaaaGreat
/- back. -/
namespace Go.Proofs.YtdpfohgkikjeaaaGreat
open Go.RowKit
set_option linter.unusedVariables false
set_option linter.unusedSimpArgs false

set_option maxRecDepth 100000 in
set_option maxHeartbeats 8000000 in
theorem back_any {w b bx bd D fp N L} (h : DeskR w b bx bd D fp) (ok : D.Ok N L) (hkn : D.doc.wr.known = true) (hN : N ≤ 1000000000000) (hL : L ≤ 1000000000000) {bk : Nat} {secs : List Str} {f : Str} {fk : List Nat} (hd : DiskR w bk (DiskS.of secs f) fk) (hl : secs.length = 400) (hlv : D.disk.Leaves secs) (hlf : f ∈ D.files) (hmf : D.mf = D.files) (hmt : D.mt = D.ch.map (·.1)) (hfl : f.length ≤ L) (hap : ∀ x ∈ fk, x ∉ fp) :
    Calls Tryz.prog 14 #[.pointer (some ⟨b, 0, none⟩), .pointer (some ⟨bk, 0, none⟩)] w fun e w' => e = .returned (.bool true) ∧ ∃ ls hh hd bx' fp', TextOk ls ∧ (textOf ls, hd.file) ∈ D.ch ∧ Finds (imgOf secs) hh hd (textOf ls) ∧ DeskR w' b bx' bk (DeskS.back ls f D.doc.every hh hd secs D.most) fp' ∧ (DeskS.back ls f D.doc.every hh hd secs D.most).Ok 1 L ∧ (∀ x ∈ fp', x ∈ fp ∨ x ∈ fk ∨ w.heap.size ≤ x) ∧ Kept (fun x => x ∈ fp) w w' := by
  obtain ⟨vt, vf, fx, fd, ft, ff, hM, rfl⟩ := h
  obtain ⟨hh, hdh, ls, hls, hF, hch⟩ := back_finds ok hkn hlv
  have h64 := leaves_size ok.lens hlv
  have hmem : textOf ls ∈ D.mt := by rw [hmt]; exact List.mem_map.2 ⟨_, hch, rfl⟩
  have hTl : D.mt.length ≤ N := ok.mtN
  have hFl := ok.mfN
  have hlf' : f ∈ D.mf := by rw [hmf]; exact hlf
  generalize hTT : D.mt = T at hM hmem hTl
  generalize hMM : D.mf = M at hM hlf' hFl
  clear hTT hMM hmf hmt
  have hlen0 : (DiskS.of secs f).Lens 1 L := by
    refine ⟨by show (List.map _ secs).length = 400; rw [List.length_map]; exact hl, fun r hr => ?_, fun r hr => ?_, fun r hr s hs => ?_, hfl, Nat.zero_le _, Nat.zero_le _, fun e => (by cases e), Nat.zero_le _⟩
    all_goals
      obtain ⟨x, hx, rfl⟩ := List.mem_map.1 hr
    · simp
    · simp
    · simp only [List.mem_cons, List.not_mem_nil, or_false] at hs
      rw [hs]; exact h64 x hx
  have hnow : (DiskS.of secs f).now = secs := by
    show List.map lastOf (List.map _ secs) = secs
    rw [List.map_map]
    conv => rhs; rw [← List.map_id secs]
    rfl
  have hbk1 : ∀ W, Kept no w W → W.cell? ⟨bk, 1, none⟩ = some (sv f) := fun W hW => hW.read hd.fileCell (fun h => h)
  have hb5 : ∀ W, Kept no w W → W.cell? ⟨b, 5, none⟩ = some (.int .i64 (D.doc.every : Int)) := fun W hW => hW.read (by rw [(cells_of hM.cells).1]; rfl) (fun h => h)
  have he1 := ok.doc.every1
  have he2 := ok.doc.every2
  obtain ⟨same, hsame⟩ : ∃ same : Bool, same = true ↔ markOf f = hdh.file := by
    by_cases e : markOf f = hdh.file
    · exact ⟨true, by simp [e]⟩
    · exact ⟨false, by simp [e]⟩
  go_enter Tryz.func14, Tryz.ntmps14
  go_wp2_with fail
  refine wp_region5 (fun W => Kept no w W) [(0, true), (2, true), (3, true), (4, true), (5, false), (6, true), (7, true), (8, true), (9, false)] [(1, false), (10, false), (11, true), (12, true), (13, true), (14, true), (15, true), (16, true), (17, true)] (by kernel_rfl) (by kernel_rfl) (fun _ _ d _ _ h => by cases d <;> exact h) ((Kept.refl _ _).drew) ?_
  repeat ((first | refine wpPre3_pure rfl rfl (fun W => (by go_simp; rfl)) ?_ | refine wpPre3_read rfl rfl (fun W hW => (by have h1 := hbk1 W hW; have h2 := hb5 W hW; go_simp; rfl)) ?_); simp only [Act.put, List.setIfInBounds_toArray, List.set])
  refine wpPre3_nil ?_
  have hk1 : Kept no w w.drew := (Kept.refl _ _).drew
  generalize w.drew = w1 at hk1 ⊢
  have hd1 := hd.kept hk1 (fun _ _ h => h)
  refine wpMix_cons rfl rfl (fun K hK => ?_)
  go_wp2_with fail
  refine (now_any hd1 hlen0 (by decide)).mono ?_
  rintro e w2 ⟨v, rfl, hrow, hvn, hk2⟩
  refine hK _ _ ⟨fun h => h.step hk2, ?_⟩
  clear hK
  rw [hnow] at hrow
  refine wpMix_cons rfl rfl (fun K hK => ?_)
  go_wp2_with fail
  refine (recover_yes hrow hl h64 hls hF f (by omega) D.doc.every _ rfl he1 he2 same hsame).mono ?_
  rintro e w3 ⟨B, fB, rfl, hDoc, hBn, hk3⟩
  refine hK _ _ ⟨fun h => h.step hk3, ?_⟩
  clear hK
  repeat (refine wpMix_pure rfl rfl (fun W => (by go_simp; rfl)) ?_; simp only [Act.put, List.setIfInBounds_toArray, List.set])
  refine wpMix_nil ?_
  go_wp2_with fail
  have hk03 : Kept no w w3 := (hk1.step hk2).step hk3
  have hM3 := hM.kept hk03 (fun _ _ h => h)
  have hd3 := hd.kept hk03 (fun _ _ h => h)
  have hdok := hDoc.ok
  have htx : (DocS.readBack ls f D.doc.every hh hdh.number).text = textOf ls := rfl
  have hrk : ((DocS.readBack ls f D.doc.every hh hdh.number).kind : Int) = 0 := rfl
  have hre : ((DocS.readBack ls f D.doc.every hh hdh.number).edits : Int) = 0 := rfl
  have hll := hls.length
  generalize hq : DocS.readBack ls f D.doc.every hh hdh.number = q at *
  have HQ : Hid (DocS.readBack ls f D.doc.every hh hdh.number = q) := hq
  clear hq
  refine (text_doc hDoc).mono ?_
  rintro e w4 ⟨rfl, hk4⟩
  rw [htx]
  generalize ht : textOf ls = t at *
  have HT : Hid (textOf ls = t) := ht
  clear ht
  have hDoc4 := hDoc.kept hk4 (fun _ _ h => h)
  have hM4 := hM3.kept hk4 (fun _ _ h => h)
  have hd4 := hd3.kept hk4 (fun _ _ h => h)
  go_wp2_with fail
  refine (look_doc hDoc4).mono ?_
  rintro e w5 ⟨rfl, hk5⟩
  have hDoc5 := hDoc4.kept hk5 (fun _ _ h => h)
  have hM5 := hM4.kept hk5 (fun _ _ h => h)
  have hd5 := hd4.kept hk5 (fun _ _ h => h)
  obtain ⟨hc5, _⟩ := cells_of hM5.cells
  have hb5l : b < w5.heap.size := lt_of_heap hM5.cells
  obtain ⟨pt, ct, rfl, hct1, hct2, hctc⟩ := hM5.texts.slice
  go_wp2_with fail
  obtain ⟨hn6, hsz6, hk6⟩ := new1 w5 (Obj.cells #[.int .i64 (q.lines.length : Int), .int .i64 0, .int .i64 0] viewT)
  have hDoc6 := hDoc5.kept hk6 (fun _ _ h => h)
  have hM6 := hM5.kept hk6 (fun _ _ h => h)
  have hd6 := hd5.kept hk6 (fun _ _ h => h)
  have hctc6 : ∀ k (hk : k < T.length), ∃ b o, pt = some ⟨b, o, none⟩ ∧ (w5.alloc (Obj.cells #[.int .i64 (q.lines.length : Int), .int .i64 0, .int .i64 0] viewT)).cell? ⟨b, o + k, none⟩ = some (sv T[k]) := fun k hk => by
    obtain ⟨b', o', e1, e2⟩ := hctc k hk
    exact ⟨b', o', e1, hk6.read e2 (fun h => h)⟩
  generalize hV : w5.heap.size = V at hn6 hsz6 ⊢
  generalize w5.alloc (Obj.cells #[.int .i64 (q.lines.length : Int), .int .i64 0, .int .i64 0] viewT) = w6 at hn6 hsz6 hk6 hDoc6 hM6 hd6 hctc6 ⊢
  refine (one_any (w := w6) (pv := pt) (n := T.length) (cv := ct) t T rfl (by omega) true (by simpa using hmem) hctc6).mono ?_
  rintro e w7 ⟨rfl, hw⟩
  rw [hw]
  clear hw hctc hctc6
  go_wp2_with fail
  obtain ⟨pf, cf, rfl, hcf1, hcf2, hcfc⟩ := hM6.files.slice
  have hbk1' : ∀ W, Kept no w6 W → W.cell? ⟨bk, 1, none⟩ = some (sv f) := fun W hW => hW.read hd6.fileCell (fun h => h)
  have hb3 : ∀ W, Kept no w6 W → W.cell? ⟨b, 3, none⟩ = some (.slice pf M.length cf) := fun W hW => hW.read (by rw [(cells_of hM6.cells).1]; rfl) (fun h => h)
  have hcf' : ∀ W, Kept no w6 W → ∀ k (hk : k < M.length), ∃ b o, pf = some ⟨b, o, none⟩ ∧ W.cell? ⟨b, o + k, none⟩ = some (sv M[k]) := fun W hW k hk => by
    obtain ⟨b', o', e1, e2⟩ := hcfc k hk
    exact ⟨b', o', e1, hW.read e2 (fun h => h)⟩
  refine wp_region3 (fun W => Kept no w6 W) [(0, true), (1, true), (2, true), (3, false), (4, true), (5, true), (6, true), (7, false)] [8, 9] (by kernel_rfl) (by kernel_rfl) (fun _ _ d _ _ h => by cases d <;> exact h) ((Kept.refl _ _).drew) ?_
  repeat ((first | refine wpPre3_pure rfl rfl (fun W => (by go_simp; rfl)) ?_ | refine wpPre3_read rfl rfl (fun W hW => (by have h1 := hbk1' W hW; have h2 := hb3 W hW; go_simp; rfl)) ?_); simp only [Act.put, List.setIfInBounds_toArray, List.set])
  refine wpPre3_nil ?_
  have hk67 : Kept no w6 w6.drew := (Kept.refl _ _).drew
  have hcf7 := hcf' w6.drew hk67
  have hn7 := hk67.get hn6 (fun h => h)
  have hDoc7 := hDoc6.kept hk67 (fun _ _ h => h)
  have hM7 := hM6.kept hk67 (fun _ _ h => h)
  have hd7 := hd6.kept hk67 (fun _ _ h => h)
  generalize w6.drew = w7 at hk67 hcf7 hn7 hDoc7 hM7 hd7 ⊢
  refine wpTail3_cons rfl rfl (fun K hK => ?_)
  go_wp2_with fail
  refine (one_any (w := w7) (pv := pf) (n := M.length) (cv := cf) f M rfl (by omega) true (by simpa using hlf') hcf7).mono ?_
  rintro e w8 ⟨rfl, hw⟩
  rw [hw]
  clear hw hcf7 hcf' hcfc
  refine hK _ _ ⟨fun h => h, ?_⟩
  clear hK
  refine wpTail3_cons rfl rfl (fun K hK => ?_)
  go_wp2_with fail
  refine ⟨fun h => h, ?_⟩
  refine wpTail3_nil ?_
  have hkw7 : Kept no w w7 := (((hk03.step hk4).step hk5).step hk6).step hk67
  obtain ⟨hcv7, _⟩ := cells_of hn7
  obtain ⟨hcb7, hfb7⟩ := cells_of hM7.cells
  have hcd7 : w7.cell? ⟨bk, 1, none⟩ = some (sv f) := hd7.fileCell
  have hbl7 : b < w7.heap.size := lt_of_heap hM7.cells
  have hbkl7 : bk < w7.heap.size := hd7.lt bk hd7.mem
  have hbbk : ¬ bk = b := fun e => hap bk hd.mem (by rw [e]; simp)
  have hbbk2 : ¬ b = bk := fun e => hbbk e.symm
  clear hb3 hbk1' hbk1 hb5 hc5
  go_wp2_with fail
  have hfBn : ∀ x ∈ fB, w.heap.size ≤ x := fun x hx => by
    have := hBn x hx; have := (hk1.step hk2).size; omega
  have hT' := HT.out
  clear HT
  subst hT'
  have hQ' := HQ.out
  clear HQ
  subst hQ'
  obtain ⟨W8, hW8⟩ : ∃ W8, W8 = (((((w7.setCell ⟨b, 0, none⟩ (.pointer (some ⟨B, 0, none⟩))).setCell ⟨b, 1, none⟩ (.pointer (some ⟨bk, 0, none⟩))).setCell ⟨b, 2, none⟩ (.slice (some ⟨w7.heap.size, 0, none⟩) 1 1)).setCell ⟨b, 3, none⟩ (.slice (some ⟨w7.heap.size + 1, 0, none⟩) 1 1)).setCell ⟨b, 4, none⟩ (.string ⟨(textOf ls).toArray⟩)).setCell ⟨b, 6, none⟩ (.int .i64 0) := ⟨_, rfl⟩
  have hk8 : Kept (fun x => x = b) w7 W8 := by
    rw [hW8]; exact ((((Kept.cell1.step Kept.cell1).step Kept.cell1).step Kept.cell1).step Kept.cell1).step Kept.cell1
  have hs8 : W8.heap.size = w7.heap.size := by rw [hW8]; simp
  have hb8 : W8.heap[b]? = some (.cells (deskCells B bk (.slice (some ⟨w7.heap.size, 0, none⟩) 1 1) (.slice (some ⟨w7.heap.size + 1, 0, none⟩) 1 1) ⟨textOf ls, D.doc.every, 0, D.most⟩) deskT (0, 0)) := by
    rw [hW8, heap_set_same (heap_set_same (heap_set_same (heap_set_same (heap_set_same (heap_set_same hM7.cells)))))]
    simp
  rw [← hW8]
  obtain ⟨hn9, hsz9, hk9⟩ := new1 W8 (Obj.cells #[sv (textOf ls)] strT)
  obtain ⟨hn10, hsz10, hk10⟩ := new1 (W8.alloc (Obj.cells #[sv (textOf ls)] strT)) (Obj.cells #[sv f] strT)
  have hn9' := hk10.get hn9 (fun h => h)
  rw [hs8] at hn9' hsz9
  rw [hsz9] at hn10
  have hk910 := hk9.step hk10
  generalize (W8.alloc (Obj.cells #[sv (textOf ls)] strT)).alloc (Obj.cells #[sv f] strT) = W9 at hn10 hn9' hk910 ⊢
  go_ret
  have hlts := hM7.lt
  have hkwlt := hkw7.size
  have hfkl := hd.lt
  have hfBl := hDoc7.lt
  have hbw : b < w.heap.size := hM.lt b (by simp)
  have hap' : ∀ x ∈ fk, x ≠ b := fun x hx e => hap x hx (by rw [e]; simp)
  have hone : ∀ g s, W9.heap[g]? = some (.cells #[sv s] strT (0, 0)) → TextsAt W9 (.slice (some ⟨g, 0, none⟩) 1 1) [s] [g] := fun g s hg => .inr ⟨g, 0, 1, #[sv s], rfl, rfl, hg, Nat.le_refl _, by unfold maxLen; decide, Nat.le_refl _, fun j x hx => by
    match j, hx with
    | 0, hx => simp at hx; subst hx; rfl⟩
  have hkb : Kept (fun x => x = b) w7 W9 := hk8.step (hk910.mono (fun _ h _ => h.elim))
  refine ⟨rfl, ls, hh, hdh, B, deskFp b fB fk [w7.heap.size] [w7.heap.size + 1], hls, hch, hF, ⟨_, _, _, _, _, _, ⟨hk910.get hb8 (fun h => h), hDoc7.kept hkb (fun x hx e => by have := hfBn x hx; have e : x = b := e; omega), hd7.kept hkb (fun x hx e => hap' x hx e), hone _ _ hn9', hone _ _ hn10, ?_⟩, rfl⟩, back_ok hdok hl h64 hF ok.most ok.big hfl, fun x hx => ?_, ?_⟩
  · refine apart_mk ⟨fun hx => ?_, fun hx => hap' b hx rfl, fun hx => ?_, fun hx => ?_⟩ ⟨fun x hx hx2 => ?_, fun x hx hx2 => ?_, fun x hx hx2 => ?_⟩ ⟨fun x hx hx2 => ?_, fun x hx hx2 => ?_⟩ (fun x hx hx2 => ?_)
    · have := hfBn b hx; omega
    · have := List.mem_singleton.1 hx; omega
    · have := List.mem_singleton.1 hx; omega
    · have := hfBn x hx; have := hfkl x hx2; omega
    · have := hfBl x hx; have := List.mem_singleton.1 hx2; omega
    · have := hfBl x hx; have := List.mem_singleton.1 hx2; omega
    · have := hfkl x hx; have := List.mem_singleton.1 hx2; omega
    · have := hfkl x hx; have := List.mem_singleton.1 hx2; omega
    · have := List.mem_singleton.1 hx; have := List.mem_singleton.1 hx2; omega
  · simp only [deskFp, List.mem_cons, List.mem_append, List.not_mem_nil, or_false] at hx
    rcases hx with rfl | hx | hx | rfl | rfl
    · exact .inl (by simp)
    · exact .inr (.inr (hfBn x hx))
    · exact .inr (.inl hx)
    · exact .inr (.inr (by omega))
    · exact .inr (.inr (by omega))
  · exact (hkw7.mono (T := fun x => x ∈ deskFp b fx fd ft ff) (fun _ h _ => h.elim)).step' hkb (fun x e _ => by have e : x = b := e; show x ∈ deskFp b fx fd ft ff; simp [e])
end Go.Proofs.YtdpfohgkikjeaaaGreat
/- An edit of a desk, in plain mathematics. -/
namespace Go.Proofs.YtdpfohgkikjeaaaGreat
set_option linter.unusedVariables false
set_option linter.unusedSimpArgs false

/-- The lines behind an edit; none: it is refused. -/
def DeskS.editLines (D : DeskS) (kind at_ c : Int) : Option (List Str) :=
  if D.doc.kind ≠ 0 then none
  else if pickN kind 4 ≤ 1 then (if D.doc.lines.length = 60 then none else some (D.doc.lines.take (pickN at_ (D.doc.lines.length + 1)) ++ lineN c :: D.doc.lines.drop (pickN at_ (D.doc.lines.length + 1))))
  else if pickN at_ (D.doc.lines.length + 1) = D.doc.lines.length then none
  else if pickN kind 4 = 2 then some (D.doc.lines.take (pickN at_ (D.doc.lines.length + 1)) ++ D.doc.lines.drop (pickN at_ (D.doc.lines.length + 1) + 1))
  else some (D.doc.lines.take (pickN at_ (D.doc.lines.length + 1)) ++ lineN c :: D.doc.lines.drop (pickN at_ (D.doc.lines.length + 1) + 1))

def DeskS.edit (D : DeskS) (kind at_ c : Int) : DeskS :=
  match D.editLines kind at_ c with
  | none => D
  | some ls => D.edited ls (max D.most (D.doc.counted + 1))

theorem editLines_ok {D : DeskS} (h : TextOk D.doc.lines) {kind at_ c : Int} {ls : List Str} (e : D.editLines kind at_ c = some ls) : D.doc.kind = 0 ∧ TextOk ls := by
  have hlt := pickN_lt at_ (n := D.doc.lines.length + 1) (by omega)
  have hf := h.few
  unfold DeskS.editLines at e
  split at e
  · cases e
  · rename_i hk
    refine ⟨by omega, ?_⟩
    split at e
    · split at e
      · cases e
      · cases e
        exact h.insert _ (lineN_ok c) (by omega)
    · split at e
      · cases e
      · split at e
        · cases e; exact h.delete _
        · cases e; exact h.replace _ (lineN_ok c) (by omega)

theorem DeskS.Ok.edit {D : DeskS} {N L : Nat} (h : D.Ok N L) (kind at_ c : Int) : (D.edit kind at_ c).Ok (N + 1) L := by
  unfold DeskS.edit
  split
  · exact h.mono (Nat.le_succ N)
  · rename_i ls e
    obtain ⟨hk, hls⟩ := editLines_ok h.doc.text e
    have := h.most
    have := h.doc.counted
    exact h.edited hk hls (by omega)
end Go.Proofs.YtdpfohgkikjeaaaGreat

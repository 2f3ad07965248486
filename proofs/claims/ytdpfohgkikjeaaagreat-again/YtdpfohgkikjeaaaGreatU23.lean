/- Part 23 of the proof: see its parts. -/
import Derived.Test.YtdpfohgkikjeaaaGreatU22
/- begun. -/
namespace Go.Proofs.YtdpfohgkikjeaaaGreat
open Go.RowKit
set_option linter.unusedVariables false
set_option linter.unusedSimpArgs false

abbrev viewT : TypeId := 44
theorem look_doc {w b d fp} (h : DocR w b d fp) : Calls Tryz.prog 19 #[.pointer (some ⟨b, 0, none⟩)] w fun e w' => e = .returned (.agg #[.int .i64 (d.lines.length : Int), .int .i64 (d.edits : Int), .int .i64 (d.kind : Int)]) ∧ Kept no w w' := by
  obtain ⟨va, tfp, afp, h, rfl⟩ := h
  exact look_any h

/-- A view that lies in a block of its own. -/
theorem view_new (w : World) (a b c : Int) : ∃ w', ((((w.alloc (Obj.cells #[.int .i64 0, .int .i64 0, .int .i64 0] viewT)).setCell ⟨w.heap.size, 0, none⟩ (.int .i64 a)).setCell ⟨w.heap.size, 1, none⟩ (.int .i64 b)).setCell ⟨w.heap.size, 2, none⟩ (.int .i64 c)) = w' ∧ w'.heap[w.heap.size]? = some (.cells #[.int .i64 a, .int .i64 b, .int .i64 c] viewT (0, 0)) ∧ Kept no w w' ∧ w'.heap.size = w.heap.size + 1 := by
  obtain ⟨h1, h2, h3⟩ := new1 w (Obj.cells #[.int .i64 0, .int .i64 0, .int .i64 0] viewT)
  obtain ⟨hs1, hs2⟩ := stored3 (v0 := .int .i64 a) (v1 := .int .i64 b) (v2 := .int .i64 c) h1
  exact ⟨_, rfl, hs1, h3.step' hs2 (fun x hx hlt => by omega), by simp⟩

set_option maxRecDepth 100000 in
set_option maxHeartbeats 1000000 in
theorem begun_no {w b d k texts files n bx bd vt vf fx fd ft ff} (h : DeskM w b d k texts files n bx bd vt vf fx fd ft ff) (hk : d.kind ≠ 1) :
    Calls Tryz.prog 41 #[.pointer (some ⟨b, 0, none⟩)] w fun e w' => e = .returned (.tuple #[]) ∧ Kept no w w' := by
  obtain ⟨hc, hf⟩ := cells_of h.cells
  have hkk : ¬ (d.kind : Int) = 1 := by omega
  go_enter Tryz.func41, Tryz.ntmps41
  go_wp2_with fail
  refine (look_doc h.doc).mono ?_
  rintro e w1 ⟨rfl, hk1⟩
  go_wp2_with fail
  go_end0
  exact ⟨rfl, hk1.alloc _⟩

set_option maxRecDepth 100000 in
set_option maxHeartbeats 1000000 in
theorem begun_yes {w b d k texts files n bx bd vt vf fx fd ft ff} (h : DeskM w b d k texts files n bx bd vt vf fx fd ft ff) (hk : d.kind = 1) (hn : texts.length ≤ 8000000000000) :
    Calls Tryz.prog 41 #[.pointer (some ⟨b, 0, none⟩)] w fun e w' => e = .returned (.tuple #[]) ∧ ∃ vt' ft', DeskM w' b d k (texts ++ [n.now]) files { n with since := 0 } bx bd vt' vf fx fd ft' ff ∧ (∀ x ∈ ft', x ∈ ft ∨ w.heap.size ≤ x) ∧ Kept (fun x => x ∈ deskFp b fx fd ft ff) w w' := by
  obtain ⟨hc, hf⟩ := cells_of h.cells
  have hkk : (d.kind : Int) = 1 := by omega
  go_enter Tryz.func41, Tryz.ntmps41
  go_wp2_with fail
  refine (look_doc h.doc).mono ?_
  rintro e w1 ⟨rfl, hk1⟩
  go_wp2_with fail
  have hk2 := hk1.alloc (Obj.cells #[.int .i64 (d.lines.length : Int), .int .i64 (d.edits : Int), .int .i64 1] viewT)
  generalize hW : w1.alloc (Obj.cells #[.int .i64 (d.lines.length : Int), .int .i64 (d.edits : Int), .int .i64 1] viewT) = w2 at hk2 ⊢
  clear hW hc hf
  have h2 := h.kept hk2 (fun _ _ h => h)
  obtain ⟨hc2, _⟩ := cells_of h2.cells
  have hbt : b ∉ ft := h.ap.1.2.2.1
  have hT : ∀ W, Kept (fun x => x ∈ ft) w2 W → W.cell? ⟨b, 2, none⟩ = some vt := fun W hW => hW.read (by rw [hc2]; rfl) hbt
  have hN : ∀ W, Kept (fun x => x ∈ ft) w2 W → W.cell? ⟨b, 4, none⟩ = some (sv n.now) := fun W hW => hW.read (by rw [hc2]; rfl) hbt
  refine wp_region3 (fun W => Kept (fun x => x ∈ ft) w2 W) [(0, true), (1, true), (2, true), (3, true), (4, false), (5, true), (6, true), (7, true), (8, false)] [9, 10, 11, 12, 13] (by kernel_rfl) (by kernel_rfl) (fun _ _ d _ _ h => by cases d <;> exact h) ((Kept.refl _ _).drew) ?_
  repeat ((first | refine wpPre3_pure rfl rfl (fun W => (by go_simp; rfl)) ?_ | refine wpPre3_read rfl rfl (fun W hW => (by have h1 := hT W hW; have h2 := hN W hW; go_simp; rfl)) ?_); simp only [Act.put, List.setIfInBounds_toArray, List.set])
  refine wpPre3_nil ?_
  have hk3 : Kept no w2 w2.drew := (Kept.refl _ _).drew
  have h3 := h2.kept hk3 (fun _ _ h => h)
  generalize w2.drew = w3 at hk3 h3 ⊢
  refine wpTail3_cons rfl rfl (fun K hK => ?_)
  go_wp2_with fail
  refine ⟨fun hh => hh.alloc _, ?_⟩
  obtain ⟨hn4, hsz4, hk4⟩ := new1 w3 (Obj.cells #[sv n.now] strT)
  have h4 := h3.kept hk4 (fun _ _ h => h)
  generalize hG : w3.heap.size = G at hn4 hsz4 ⊢
  generalize w3.alloc (Obj.cells #[sv n.now] strT) = w4 at hn4 hsz4 hk4 h4 ⊢
  refine wpTail3_cons rfl rfl (fun K hK => ?_)
  refine wp_push_text _ _ rfl vt texts ft rfl h4.texts G 1 n.now rfl (by rw [(cells_of hn4).1]; rfl) (by omega) ?_
  intro vt' w5 ft' ht5 hk5 hx5 hvt
  refine hK _ _ ⟨fun hh => hh.step hk5, ?_⟩
  clear hK
  obtain ⟨pv, cv, rfl⟩ := hvt
  obtain ⟨hb5, hd5, hk5', hf5, hap5⟩ := h4.grewT hk5 hx5
  have h5 : DeskM w5 b d k texts files n bx bd vt vf fx fd ft ff → True := fun _ => trivial
  obtain ⟨hc5, hfz5⟩ := cells_of hb5
  refine wpTail3_last (by kernel_rfl) rfl rfl (fun K hK => ?_)
  go_wp2_with fail
  refine wpTail3_last (by kernel_rfl) rfl rfl (fun K hK => ?_)
  go_wp2_with fail
  refine wpTail3_last (by kernel_rfl) rfl rfl (fun K hK => ?_)
  go_wp2_with fail
  refine wpTail3_nil ?_
  go_wp2
  go_end0
  have hks : Kept (fun x => x = b) w5 ((w5.setCell ⟨b, 2, none⟩ (.slice pv (texts.length + 1) cv)).setCell ⟨b, 6, none⟩ (.int .i64 0)) := Kept.cell1.step Kept.cell1
  have hcs : ((w5.setCell ⟨b, 2, none⟩ (.slice pv (texts.length + 1) cv)).setCell ⟨b, 6, none⟩ (.int .i64 0)).heap[b]? = some (.cells (deskCells bx bd (.slice pv (texts.length + 1) cv) vf { n with since := 0 }) deskT (0, 0)) := by
    rw [heap_set_same (heap_set_same hb5)]; simp
  have hkw : Kept no w w4 := (hk2.step hk3).step hk4
  have ha : b ∉ fx ∧ b ∉ fd ∧ b ∉ ft' ∧ b ∉ ff := by
    have := hap5
    simp [Apart, List.pairwise_cons] at this
    exact this.1
  refine ⟨rfl, _, ft', ⟨hcs, hd5.kept hks (fun x hx e => ha.1 (e ▸ hx)), hk5'.kept hks (fun x hx e => ha.2.1 (e ▸ hx)), ht5.kept hks (fun x hx e => ha.2.2.1 (e ▸ hx)), hf5.kept hks (fun x hx e => ha.2.2.2 (e ▸ hx)), hap5⟩, fun x hx => ?_, ?_⟩
  · rcases hx5 x hx with hx | hx
    · exact .inl hx
    · have := hkw.size; exact .inr (by omega)
  · exact ((hkw.mono (T := fun x => x ∈ deskFp b fx fd ft ff) (fun _ h _ => h.elim)).step' hk5 (fun x hx _ => by have hx : x ∈ ft := hx; show x ∈ deskFp b fx fd ft ff; simp [hx])).step' hks (fun x e _ => by have e : x = b := e; show x ∈ deskFp b fx fd ft ff; simp [e])
end Go.Proofs.YtdpfohgkikjeaaaGreat
/- work. -/
namespace Go.Proofs.YtdpfohgkikjeaaaGreat
open Go.RowKit
set_option linter.unusedVariables false
set_option linter.unusedSimpArgs false

theorem act_doc_no {w b d fp} (h : DocR w b d fp) (hk : d.kind = 0) : Calls Tryz.prog 42 #[.pointer (some ⟨b, 0, none⟩)] w fun e w' => e = .returned (.tuple #[.agg #[.int .i64 0, .int .i64 0, .string ⟨#[]⟩], .bool false]) ∧ Kept no w w' := by
  obtain ⟨va, tfp, afp, h, rfl⟩ := h
  exact act_no h hk
theorem act_doc_yes {w b d fp} (h : DocR w b d fp) (a : PAct) (r : List PAct) (hk : d.kind ≠ 0) (ha : d.acts = a :: r) : Calls Tryz.prog 42 #[.pointer (some ⟨b, 0, none⟩)] w fun e w' => e = .returned (.tuple #[a.val, .bool true]) ∧ Kept no w w' := by
  obtain ⟨va, tfp, afp, h, rfl⟩ := h
  exact act_yes h a r hk ha

theorem done_doc {w b d fp} (h : DocR w b d fp) (hk : d.kind ≠ 0) (hl : d.acts.length ≤ 1000) (good : Bool) : Calls Tryz.prog 45 #[.pointer (some ⟨b, 0, none⟩), .bool good] w fun e w' => e = .returned (.int .i64 0) ∧ DocTo w w' b fp (d.done good) := by
  obtain ⟨va, tfp, afp, h, rfl⟩ := h
  have hne := h.ok.acts.1 hk
  cases good with
  | false => rw [done_fail_eq]; exact done_fail h hk hl
  | true =>
    cases ha : d.acts with
    | nil => exact absurd ha hne
    | cons a R =>
      cases R with
      | nil => rw [done_last_eq ha]; exact done_last h a hk ha
      | cons a2 r =>
        rw [done_on_eq ha (by simp)]
        exact done_on h a a2 r hk ha (by rw [ha] at hl; simp at hl; omega)


theorem work_more {D : DeskS} {n i : Nat} {fail : Int} {all : Bool} (hk : D.doc.kind ≠ 0) (hi : i < n) : D.work (n - i) i fail all = (D.step (decide ((i : Int) ≠ fail)) all).work (n - (i + 1)) (i + 1) fail all := by
  rw [show n - i = (n - (i + 1)) + 1 by omega]
  conv => lhs; unfold DeskS.work
  rw [if_neg hk]

theorem deskTo_mk {w w' : World} {b : Nat} {D : DeskS} {nm : Nums} {fp : List Nat} {bx bd vt vf fx fd ft ff} (h : DeskM w' b D.doc D.disk D.mt D.mf nm bx bd vt vf fx fd ft ff) (hx : ∀ x ∈ deskFp b fx fd ft ff, x ∈ fp ∨ w.heap.size ≤ x) (hk : Kept (fun x => x ∈ fp) w w') : DeskTon w w' b bx bd nm fp D :=
  ⟨⟨_, ⟨_, _, _, _, _, _, h, rfl⟩, hx⟩, hk⟩

theorem step_on {D : DeskS} {a : PAct} {R : List PAct} (ha : D.doc.acts = a :: R) (hR : R ≠ []) (hk : D.doc.kind ≠ 0) (all : Bool) : D.step true all = { D with disk := D.disk.act a, doc := { D.doc with acts := R } } := by
  unfold DeskS.step
  rw [ha]
  simp [done_on_eq ha hR, hk]
theorem step_last {D : DeskS} {a : PAct} (ha : D.doc.acts = [a]) (all : Bool) : D.step true all = { D with disk := D.disk.act a, doc := D.doc.succeeded, ch := if D.doc.kind = 1 then lastOne D.ch else D.ch, files := if D.doc.kind ≠ 1 then lastOne D.files else D.files, mf := if D.doc.kind ≠ 1 then lastOne D.mf else D.mf, mt := if D.doc.kind = 1 then lastOne D.mt else D.mt } := by
  unfold DeskS.step
  rw [ha]
  simp [done_last_eq ha, succeeded_kind]
theorem step_fail {D : DeskS} {a : PAct} {R : List PAct} (ha : D.doc.acts = a :: R) (all : Bool) : D.step false all = { D with disk := if all then D.disk.act a else D.disk, doc := { D.doc with kind := 0, acts := [] } } := by
  unfold DeskS.step
  rw [ha]
  simp [done_fail_eq]

theorem succ_text (d : DocS) : d.succeeded.text = d.text ∧ d.succeeded.every = d.every ∧ d.succeeded.counted = d.counted := by unfold DocS.succeeded; split <;> exact ⟨rfl, rfl, rfl⟩

/-- What an Append asks for. -/
theorem DeskS.Ok.room {D : DeskS} {N L : Nat} (h : D.Ok N L) {a : PAct} {R : List PAct} (ha : D.doc.acts = a :: R) (h4 : a.kind = 4) : D.disk.new.length + a.data.length ≤ 2460 := by
  have hkne : D.doc.kind ≠ 0 := h.doc.acts.2 (by rw [ha]; simp)
  have hk2 := h.doc.kind
  rcases (by omega : D.doc.kind = 1 ∨ D.doc.kind = 2) with hk | hk
  · obtain ⟨hp, hlast⟩ := h.sync hk
    obtain ⟨t0, f0, hsw⟩ := h.swok
    rw [ha] at hp
    obtain ⟨hao, _⟩ := prog_step hsw ⟨_, h.doc.text, rfl⟩ ⟨h.doc.sum, h.doc.len0, h.doc.len1⟩ (List.mem_of_getLast? hlast) hp
    rcases hao with rfl | ⟨e1, _⟩
    · cases h4
    · omega
  · obtain ⟨hp, hlast⟩ := h.save hk
    rw [ha] at hp
    obtain ⟨_, _, hn, _⟩ := save_step h.file (List.mem_of_getLast? hlast) hp
    have := hn h4
    have htl : D.doc.text.length ≤ 2460 := h.doc.text.length
    omega

/-- What a round of acts leaves. -/
theorem fp_new {w w' : World} {fp fp' l : List Nat} (h : ∀ x ∈ fp', x ∈ l ∨ w'.heap.size ≤ x) (hs : w.heap.size ≤ w'.heap.size) (hl : ∀ x ∈ l, x ∈ fp ∨ w.heap.size ≤ x) : ∀ x ∈ fp', x ∈ fp ∨ w.heap.size ≤ x := fun x hx => by
  rcases h x hx with h | h
  · exact hl x h
  · exact .inr (by omega)

set_option maxRecDepth 100000 in
set_option maxHeartbeats 20000000 in
theorem work_n {w b bx bd D nm fp N L} (h : DeskRn w b bx bd D nm fp) (ok : D.Ok N L) (acts : Nat) (actsI fail howI : Int) (how : Nat) (hai : actsI = (acts : Int)) (hhi : howI = (how : Int)) (hacts : acts ≤ 1000) (hf1 : -1 ≤ fail) (hf2 : fail ≤ 1000000) (hhow : how ≤ 1000000) (hN : N + acts ≤ 8000000000000) (hL : L ≤ 8000000000000) :
    Calls Tryz.prog 18 #[.pointer (some ⟨b, 0, none⟩), .int .i64 actsI, .int .i64 fail, .int .i64 howI] w fun e w' => e = .returned (.bool true) ∧ DeskTon w w' b bx bd nm fp (D.work acts 0 fail (decide (how % 2 ≠ 0))) := by
  subst hai; subst hhi
  generalize hAll : decide (how % 2 ≠ 0) = all
  go_enter Tryz.func18, Tryz.ntmps18
  go_wp2_with fail
  go_loopw [9] (fun s9 wr => ∃ (i : Nat) (D' : DeskS) (fp' : List Nat), i ≤ acts ∧ s9 = .int .i64 ((i : Nat) : Int) ∧ DeskRn wr b bx bd D' nm fp' ∧ D'.Ok (N + i) L ∧ D'.work (acts - i) i fail all = D.work acts 0 fail all ∧ (∀ x ∈ fp', x ∈ fp ∨ w.heap.size ≤ x) ∧ Kept (fun x => x ∈ fp) w wr) (fun s9 _ => acts - (intOf s9).toNat)
  case atStart => exact ⟨0, D, fp, Nat.zero_le _, rfl, h, ok, rfl, fun x hx => .inl hx, Kept.refl _ _⟩
  case round =>
    obtain ⟨i, D', fp', hi, rfl, hD, ok', hwork, hfp, hkw⟩ := hrel
    have HW : Hid (D'.work (acts - i) i fail all = D.work acts 0 fail all) := hwork
    clear hwork
    by_cases hlt : i < acts
    · obtain ⟨vt, vf, fx, fd, ft, ff, hM, rfl⟩ := hD
      have HFP : Hid (∀ x ∈ deskFp b fx fd ft ff, x ∈ fp ∨ w.heap.size ≤ x) := hfp
      clear hfp
      obtain ⟨hc, hf⟩ := cells_of hM.cells
      go_wp2_with fail
      refine (look_doc hM.doc).mono ?_
      rintro e w1 ⟨rfl, hk1⟩
      have hM1 := hM.kept hk1 (fun _ _ h => h)
      obtain ⟨hc1, hf1⟩ := cells_of hM1.cells
      clear hc hf
      have hb1 : b < w1.heap.size := lt_of_heap hM1.cells
      have hkw1 : Kept (fun x => x ∈ fp) w w1 := hkw.step (hk1.mono (fun _ h _ => h.elim))
      by_cases hk0 : D'.doc.kind = 0
      · have hk0' : (D'.doc.kind : Int) = 0 := by omega
        go_wp2_with fail
        obtain ⟨hn2, hsz2, hk2⟩ := new1 w1 (Obj.cells #[.int .i64 (D'.doc.lines.length : Int), .int .i64 (D'.doc.edits : Int), .int .i64 0] viewT)
        have hM2 := hM1.kept hk2 (fun _ _ h => h)
        generalize hV : w1.heap.size = V at hn2 hsz2 ⊢
        generalize w1.alloc (Obj.cells #[.int .i64 (D'.doc.lines.length : Int), .int .i64 (D'.doc.edits : Int), .int .i64 0] viewT) = w2 at hn2 hsz2 hk2 hM2 ⊢
        refine (act_doc_no hM2.doc hk0).mono ?_
        rintro e w3 ⟨rfl, hk3⟩
        have hn3 := hk3.get hn2 (fun h => h)
        have hs3 := hk3.size
        have hM3 := hM2.kept hk3 (fun _ _ h => h)
        obtain ⟨hcv, _⟩ := cells_of hn3
        have hV3 : V < w3.heap.size := lt_of_heap hn3
        have hidle := work_idle hk0 (acts - i) i fail all
        have hD' : Hid (D' = D.work acts 0 fail all) := hidle.symm.trans HW.out
        clear hidle
        have hend : ∀ w', Kept no w3 w' → DeskTon w w' b bx bd nm fp D' := fun w' hk => deskTo_mk (hM3.kept hk (fun _ _ h => h)) HFP.out (((hkw1.step (hk2.mono (fun _ h _ => h.elim))).step (hk3.mono (fun _ h _ => h.elim))).step (hk.mono (fun _ h _ => h.elim)))
        go_wp2
        go_ret
        refine ⟨by simp, ?_⟩
        rw [← hD'.out]
        exact hend _ ((Kept.refl _ _).alloc _)
      · obtain ⟨a, R, ha⟩ := ok'.next hk0
        have hk0' : ¬ (D'.doc.kind : Int) = 0 := by omega
        go_wp2_with fail
        obtain ⟨hn2, hsz2, hk2⟩ := new1 w1 (Obj.cells #[.int .i64 (D'.doc.lines.length : Int), .int .i64 (D'.doc.edits : Int), .int .i64 (D'.doc.kind : Int)] viewT)
        have hM2 := hM1.kept hk2 (fun _ _ h => h)
        generalize hV : w1.heap.size = V at hn2 hsz2 ⊢
        generalize w1.alloc (Obj.cells #[.int .i64 (D'.doc.lines.length : Int), .int .i64 (D'.doc.edits : Int), .int .i64 (D'.doc.kind : Int)] viewT) = w2 at hn2 hsz2 hk2 hM2 ⊢
        refine (act_doc_yes hM2.doc a R hk0 ha).mono ?_
        rintro e w3 ⟨rfl, hk3⟩
        have hn3 := hk3.get hn2 (fun h => h)
        have hs3 := hk3.size
        have hM3 := hM2.kept hk3 (fun _ _ h => h)
        go_wp2_with fail
        obtain ⟨hn4, hsz4, hk4⟩ := new1 w3 (Obj.cells #[.int .i64 (a.kind : Int), .int .i64 (a.at_ : Int), sv a.data] actT)
        have hM4 := hM3.kept hk4 (fun _ _ h => h)
        have hv4 := hk4.get hn3 (fun h => h)
        generalize hA : w3.heap.size = A at hn4 hsz4 ⊢
        generalize w3.alloc (Obj.cells #[.int .i64 (a.kind : Int), .int .i64 (a.at_ : Int), sv a.data] actT) = w4 at hn4 hsz4 hk4 hM4 hv4 ⊢
        obtain ⟨hright, okS⟩ := ok'.step ha (decide ((i : Int) ≠ fail)) all
        refine (right_any a hright w4).mono ?_
        rintro e w5 ⟨rfl, hk5⟩
        have hM5 := hM4.kept hk5 (fun _ _ h => h)
        have hv5 := hk5.get hv4 (fun h => h)
        have ha5 := hk5.get hn4 (fun h => h)
        have hs5 := hk5.size
        have hkw5 : Kept (fun x => x ∈ fp) w w5 := (((hkw1.step (hk2.mono (fun _ h _ => h.elim))).step (hk3.mono (fun _ h _ => h.elim))).step (hk4.mono (fun _ h _ => h.elim))).step (hk5.mono (fun _ h _ => h.elim))
        have hws := hkw1.size
        have hs11 := hk1.size
        have hb5 : b < w5.heap.size := lt_of_heap hM5.cells
        have hB1 : ∀ W, Kept no w5 W → W.cell? ⟨b, 1, none⟩ = some (.pointer (some ⟨bd, 0, none⟩)) := fun W hW => hW.read (by rw [(cells_of hM5.cells).1]; rfl) (fun h => h)
        have hA0 : ∀ W, Kept no w5 W → W.cell? ⟨A, 0, none⟩ = some (.int .i64 (a.kind : Int)) := fun W hW => hW.read (by rw [(cells_of ha5).1]; rfl) (fun h => h)
        have hA1 : ∀ W, Kept no w5 W → W.cell? ⟨A, 1, none⟩ = some (.int .i64 (a.at_ : Int)) := fun W hW => hW.read (by rw [(cells_of ha5).1]; rfl) (fun h => h)
        have hA2 : ∀ W, Kept no w5 W → W.cell? ⟨A, 2, none⟩ = some (sv a.data) := fun W hW => hW.read (by rw [(cells_of ha5).1]; rfl) (fun h => h)
        have hwm := work_more (D := D') (n := acts) (i := i) (fail := fail) (all := all) hk0 hlt
        have HWM : Hid (D'.work (acts - i) i fail all = (D'.step (decide ((i : Int) ≠ fail)) all).work (acts - (i + 1)) (i + 1) fail all) := hwm
        clear hwm
        by_cases hgf : (i : Int) = fail
        · subst hgf
          have hdec : decide ((i : Int) ≠ (i : Int)) = false := by simp
          rw [hdec] at okS
          cases all with
          | true =>
            have hodd : (how : Int) % 2 = 1 := by simp only [decide_eq_true_eq] at hAll; omega
            go_wp2_with fail
            refine wp_region3 (fun W => Kept no w5 W) [(0, true), (1, true), (2, true), (3, false), (4, false)] [5] (by kernel_rfl) (by kernel_rfl) (fun _ _ d _ _ h => by cases d <;> exact h) ((Kept.refl _ _).drew) ?_
            repeat ((first | refine wpPre3_pure rfl rfl (fun W => (by go_simp; rfl)) ?_ | refine wpPre3_read rfl rfl (fun W hW => (by have h1 := hB1 W hW; have h2 := hA0 W hW; have h3 := hA1 W hW; have h4 := hA2 W hW; go_simp; rfl)) ?_); simp only [Act.put, List.setIfInBounds_toArray, List.set])
            refine wpPre3_nil ?_
            have hk5d : Kept no w5 w5.drew := (Kept.refl _ _).drew
            have hM5d := hM5.kept hk5d (fun _ _ h => h)
            have hv5d := hk5d.get hv5 (fun h => h)
            generalize w5.drew = w5d at hk5d hM5d hv5d ⊢
            refine wpTail3_last (by kernel_rfl) rfl rfl (fun K hK => ?_)
            go_wp2_with fail
            refine (do_any hM5d.disk ok'.lens (by omega) a hright (fun h4 => by have := ok'.room ha h4; omega)).mono ?_
            rintro e w6 ⟨rfl, hT6⟩
            refine hK _ _ ?_
            clear hK
            refine wpTail3_nil ?_
            obtain ⟨fd6, hM6, hx6⟩ := hM5d.disk_to hT6
            have hv6 := hT6.kept.get hv5d (fun hx => by have := hM.disk.lt V hx; omega)
            have hs56 := hk5d.size
            have hs6 := hT6.kept.size
            have hkw6 : Kept (fun x => x ∈ fp) w w6 := (hkw5.step (hk5d.mono (fun _ h _ => h.elim))).step' hT6.kept (fun x hx hlt => (HFP.out x (by have hx : x ∈ fd := hx; simp [hx])).resolve_right (by omega))
            obtain ⟨hc6, _⟩ := cells_of hM6.cells
            go_wp2_with fail
            refine (done_doc hM6.doc hk0 (by have := ok'.few; omega) false).mono ?_
            rintro e w7 ⟨rfl, hT7⟩
            obtain ⟨q, hq⟩ : ∃ q, q = D'.doc.done false := ⟨_, rfl⟩
            rw [← hq] at hT7
            have HQ : Hid (q = D'.doc.done false) := hq
            clear hq
            obtain ⟨fx7, hM7, hx7⟩ := hM6.doc_to hT7
            have hv7 := hT7.kept.get hv6 (fun hx => by have := hM.doc.lt V hx; omega)
            have hs7 := hT7.kept.size
            have hkw7 : Kept (fun x => x ∈ fp) w w7 := hkw6.step' hT7.kept (fun x hx hlt => (HFP.out x (by have hx : x ∈ fx := hx; simp [hx])).resolve_right (by omega))
            obtain ⟨hc7, _⟩ := cells_of hM7.cells
            go_wp2_with fail
            refine (look_doc hM7.doc).mono ?_
            rintro e w8 ⟨rfl, hk8⟩
            have hM8 := hM7.kept hk8 (fun _ _ h => h)
            have hv8 := hk8.get hv7 (fun h => h)
            have hs8 := hk8.size
            have hkw8 : Kept (fun x => x ∈ fp) w w8 := hkw7.step (hk8.mono (fun _ h _ => h.elim))
            obtain ⟨hc8, hf8⟩ := cells_of hM8.cells
            obtain ⟨hcv8, _⟩ := cells_of hv8
            have hb8 : b < w8.heap.size := lt_of_heap hM8.cells
            have hV8 : V < w8.heap.size := lt_of_heap hv8
            have hfp8 : ∀ x ∈ deskFp b fx7 fd6 ft ff, x ∈ fp ∨ w.heap.size ≤ x := fun x hx => by
              simp only [deskFp, List.mem_cons, List.mem_append] at hx
              rcases hx with rfl | hx | hx | hx | hx
              · exact HFP.out _ (by simp)
              · rcases hx7 x hx with hx | hx
                · exact HFP.out x (by simp [hx])
                · exact .inr (by omega)
              · rcases hx6 x hx with hx | hx
                · exact HFP.out x (by simp [hx])
                · exact .inr (by omega)
              · exact HFP.out x (by simp [hx])
              · exact HFP.out x (by simp [hx])
            have hq0 : q.kind = 0 := by rw [HQ.out, done_fail_eq]
            have hq1 : (q.kind : Int) = 0 := by omega
            clear hq0
            go_wp2
            refine ⟨⟨i + 1, D'.step (decide ((i : Int) ≠ (i : Int))) true, deskFp b fx7 fd6 ft ff, by omega, by go_num, ?_, ?_, HWM.out.symm.trans HW.out, hfp8, ?_⟩, by simp [intOf]; omega⟩
            · rw [hdec, step_fail ha]
              rw [show q = { D'.doc with kind := 0, acts := [] } from HQ.out.trans (done_fail_eq _)] at hM8 ⊢
              exact ⟨_, _, _, _, _, _, hM8.kept ((Kept.refl _ _).alloc _) (fun _ _ h => h), rfl⟩
            · rw [hdec]; exact okS
            · exact (hkw8.alloc _)
          | false =>
            have hodd : (how : Int) % 2 = 0 := by simp only [decide_eq_false_iff_not] at hAll; omega
            obtain ⟨hc5, _⟩ := cells_of hM5.cells
            go_wp2_with fail
            refine (done_doc hM5.doc hk0 (by have := ok'.few; omega) false).mono ?_
            rintro e w7 ⟨rfl, hT7⟩
            obtain ⟨q, hq⟩ : ∃ q, q = D'.doc.done false := ⟨_, rfl⟩
            rw [← hq] at hT7
            have HQ : Hid (q = D'.doc.done false) := hq
            clear hq
            obtain ⟨fx7, hM7, hx7⟩ := hM5.doc_to hT7
            have hv7 := hT7.kept.get hv5 (fun hx => by have := hM.doc.lt V hx; omega)
            have hs7 := hT7.kept.size
            have hkw7 : Kept (fun x => x ∈ fp) w w7 := hkw5.step' hT7.kept (fun x hx hlt => (HFP.out x (by have hx : x ∈ fx := hx; simp [hx])).resolve_right (by omega))
            obtain ⟨hc7, _⟩ := cells_of hM7.cells
            go_wp2_with fail
            refine (look_doc hM7.doc).mono ?_
            rintro e w8 ⟨rfl, hk8⟩
            have hM8 := hM7.kept hk8 (fun _ _ h => h)
            have hv8 := hk8.get hv7 (fun h => h)
            have hs8 := hk8.size
            have hkw8 : Kept (fun x => x ∈ fp) w w8 := hkw7.step (hk8.mono (fun _ h _ => h.elim))
            obtain ⟨hc8, hf8⟩ := cells_of hM8.cells
            obtain ⟨hcv8, _⟩ := cells_of hv8
            have hb8 : b < w8.heap.size := lt_of_heap hM8.cells
            have hV8 : V < w8.heap.size := lt_of_heap hv8
            have hfp8 : ∀ x ∈ deskFp b fx7 fd ft ff, x ∈ fp ∨ w.heap.size ≤ x := fun x hx => by
              simp only [deskFp, List.mem_cons, List.mem_append] at hx
              rcases hx with rfl | hx | hx | hx | hx
              · exact HFP.out _ (by simp)
              · rcases hx7 x hx with hx | hx
                · exact HFP.out x (by simp [hx])
                · exact .inr (by omega)
              · exact HFP.out x (by simp [hx])
              · exact HFP.out x (by simp [hx])
              · exact HFP.out x (by simp [hx])
            have hq0 : q.kind = 0 := by rw [HQ.out, done_fail_eq]
            have hq1 : (q.kind : Int) = 0 := by omega
            clear hq0
            go_wp2
            refine ⟨⟨i + 1, D'.step (decide ((i : Int) ≠ (i : Int))) false, deskFp b fx7 fd ft ff, by omega, by go_num, ?_, ?_, HWM.out.symm.trans HW.out, hfp8, ?_⟩, by simp [intOf]; omega⟩
            · rw [hdec, step_fail ha]
              rw [show q = { D'.doc with kind := 0, acts := [] } from HQ.out.trans (done_fail_eq _)] at hM8 ⊢
              exact ⟨_, _, _, _, _, _, hM8.kept ((Kept.refl _ _).alloc _) (fun _ _ h => h), rfl⟩
            · rw [hdec]; exact okS
            · exact (hkw8.alloc _)
        · have hdec : decide ((i : Int) ≠ fail) = true := by simpa using hgf
          rw [hdec] at okS
          go_wp2_with fail
          refine wp_region3 (fun W => Kept no w5 W) [(0, true), (1, true), (2, true), (3, false), (4, false)] [5] (by kernel_rfl) (by kernel_rfl) (fun _ _ d _ _ h => by cases d <;> exact h) ((Kept.refl _ _).drew) ?_
          repeat ((first | refine wpPre3_pure rfl rfl (fun W => (by go_simp; rfl)) ?_ | refine wpPre3_read rfl rfl (fun W hW => (by have h1 := hB1 W hW; have h2 := hA0 W hW; have h3 := hA1 W hW; have h4 := hA2 W hW; go_simp; rfl)) ?_); simp only [Act.put, List.setIfInBounds_toArray, List.set])
          refine wpPre3_nil ?_
          have hk5d : Kept no w5 w5.drew := (Kept.refl _ _).drew
          have hM5d := hM5.kept hk5d (fun _ _ h => h)
          have hv5d := hk5d.get hv5 (fun h => h)
          generalize w5.drew = w5d at hk5d hM5d hv5d ⊢
          refine wpTail3_last (by kernel_rfl) rfl rfl (fun K hK => ?_)
          go_wp2_with fail
          refine (do_any hM5d.disk ok'.lens (by omega) a hright (fun h4 => by have := ok'.room ha h4; omega)).mono ?_
          rintro e w6 ⟨rfl, hT6⟩
          refine hK _ _ ?_
          clear hK
          refine wpTail3_nil ?_
          obtain ⟨fd6, hM6, hx6⟩ := hM5d.disk_to hT6
          have hv6 := hT6.kept.get hv5d (fun hx => by have := hM.disk.lt V hx; omega)
          have hs56 := hk5d.size
          have hs6 := hT6.kept.size
          have hkw6 : Kept (fun x => x ∈ fp) w w6 := (hkw5.step (hk5d.mono (fun _ h _ => h.elim))).step' hT6.kept (fun x hx hlt => (HFP.out x (by have hx : x ∈ fd := hx; simp [hx])).resolve_right (by omega))
          obtain ⟨hc6, _⟩ := cells_of hM6.cells
          go_wp2_with fail
          refine (done_doc hM6.doc hk0 (by have := ok'.few; omega) ((i : Int) != fail)).mono ?_
          rintro e w7 ⟨rfl, hT7⟩
          rw [show ((i : Int) != fail) = true by simpa using hgf] at hT7
          obtain ⟨q, hq⟩ : ∃ q, q = D'.doc.done true := ⟨_, rfl⟩
          rw [← hq] at hT7
          have HQ : Hid (q = D'.doc.done true) := hq
          clear hq
          obtain ⟨fx7, hM7, hx7⟩ := hM6.doc_to hT7
          have hv7 := hT7.kept.get hv6 (fun hx => by have := hM.doc.lt V hx; omega)
          have hs7 := hT7.kept.size
          have hkw7 : Kept (fun x => x ∈ fp) w w7 := hkw6.step' hT7.kept (fun x hx hlt => (HFP.out x (by have hx : x ∈ fx := hx; simp [hx])).resolve_right (by omega))
          obtain ⟨hc7, _⟩ := cells_of hM7.cells
          go_wp2_with fail
          refine (look_doc hM7.doc).mono ?_
          rintro e w8 ⟨rfl, hk8⟩
          have hM8 := hM7.kept hk8 (fun _ _ h => h)
          have hv8 := hk8.get hv7 (fun h => h)
          have hs8 := hk8.size
          have hkw8 : Kept (fun x => x ∈ fp) w w8 := hkw7.step (hk8.mono (fun _ h _ => h.elim))
          obtain ⟨hc8, hf8⟩ := cells_of hM8.cells
          obtain ⟨hcv8, _⟩ := cells_of hv8
          have hb8 : b < w8.heap.size := lt_of_heap hM8.cells
          have hV8 : V < w8.heap.size := lt_of_heap hv8
          have hfp8 : ∀ x ∈ deskFp b fx7 fd6 ft ff, x ∈ fp ∨ w.heap.size ≤ x := fun x hx => by
            simp only [deskFp, List.mem_cons, List.mem_append] at hx
            rcases hx with rfl | hx | hx | hx | hx
            · exact HFP.out _ (by simp)
            · rcases hx7 x hx with hx | hx
              · exact HFP.out x (by simp [hx])
              · exact .inr (by omega)
            · rcases hx6 x hx with hx | hx
              · exact HFP.out x (by simp [hx])
              · exact .inr (by omega)
            · exact HFP.out x (by simp [hx])
            · exact HFP.out x (by simp [hx])
          by_cases hR : R = []
          · subst hR
            have hq0 : q.kind = 0 := by rw [HQ.out, done_last_eq ha, succeeded_kind]
            have hq1 : (q.kind : Int) = 0 := by omega
            clear hq0
            rcases (by have := ok'.doc.kind; omega : D'.doc.kind = 1 ∨ D'.doc.kind = 2) with hkk | hkk
            · have hNE : True := trivial
              have hk18 : (D'.doc.kind : Int) = 1 := by omega
              go_wp2_with fail
              obtain ⟨hn9, hsz9, hk9⟩ := new1 w8 (Obj.cells #[.int .i64 (q.lines.length : Int), .int .i64 (q.edits : Int), .int .i64 0] viewT)
              have hM9 := hM8.kept hk9 (fun _ _ h => h)
              have hkw9 : Kept (fun x => x ∈ fp) w (w8.alloc (Obj.cells #[.int .i64 (q.lines.length : Int), .int .i64 (q.edits : Int), .int .i64 0] viewT)) := hkw8.step (hk9.mono (fun _ h _ => h.elim))
              generalize w8.alloc (Obj.cells #[.int .i64 (q.lines.length : Int), .int .i64 (q.edits : Int), .int .i64 0] viewT) = w9 at hk9 hM9 hkw9 ⊢
              obtain ⟨pv, ct, rfl, hct1, hct2, _⟩ := hM9.texts.slice
              have hne : D'.mt ≠ [] := ok'.mt0
              obtain ⟨g, o, rfl, _, htl⟩ := hM9.texts.last hne
              have hTL : Hid (TextsAt w9 (.slice (some ⟨g, o + ((D'.mt).length - 1), none⟩) 1 (ct - ((D'.mt).length - 1))) (lastOne (D'.mt)) ft) := htl
              clear htl
              have hnpos : 0 < (D'.mt).length := List.length_pos_iff.2 hne
              have hnle : (D'.mt).length ≤ 8000000000000 := by have := ok'.mtN; omega
              generalize hn : (D'.mt).length = n at hTL hct1 hnpos hnle hM9 ⊢
              have hT : ∀ W, Kept no w9 W → W.cell? ⟨b, 2, none⟩ = some (.slice (some ⟨g, o, none⟩) n ct) := fun W hW => hW.read (by rw [(cells_of hM9.cells).1]; rfl) (fun h => h)
              refine wp_region3 (fun W => Kept no w9 W) [(0, true), (1, true), (2, true), (3, true), (4, false), (5, true), (6, true), (7, true), (8, false), (9, true), (10, true), (11, true)] [12, 13, 14] (by kernel_rfl) (by kernel_rfl) (fun _ _ d _ _ h => by cases d <;> exact h) ((Kept.refl _ _).drew) ?_
              repeat ((first | refine wpPre3_pure rfl rfl (fun W => (by go_simp; rfl)) ?_ | refine wpPre3_read rfl rfl (fun W hW => (by have h1 := hT W hW; go_simp; rfl)) ?_); simp only [Act.put, List.setIfInBounds_toArray, List.set])
              refine wpPre3_pure rfl rfl (v := .slice (some ⟨g, o + (n - 1), none⟩) 1 (ct - (n - 1))) (fun W => ?_) ?_
              · go_simp
                have hw : IntKind.i64.wrap ((n : Int) - 1) = (n : Int) - 1 := by rw [IntKind.wrap_i64]; omega
                have ht : ((n : Int) - 1).toNat = n - 1 := by omega
                rw [hw, ht, if_pos ⟨by omega, by omega⟩, if_neg (by omega), show n - (n - 1) = 1 by omega]
              simp only [Act.put, List.setIfInBounds_toArray, List.set]
              refine wpPre3_nil ?_
              have hk10 : Kept no w9 w9.drew := (Kept.refl _ _).drew
              have hM10 := hM9.kept hk10 (fun _ _ h => h)
              have hkw10 := hkw9.step (hk10.mono (fun _ h _ => h.elim))
              generalize w9.drew = w10 at hk10 hM10 hkw10 ⊢
              obtain ⟨hc10, hf10⟩ := cells_of hM10.cells
              have htl10 := hTL.out.kept hk10 (fun _ _ h => h)
              refine wpTail3_last (by kernel_rfl) rfl rfl (fun K hK => ?_)
              go_wp2_with fail
              refine wpTail3_last (by kernel_rfl) rfl rfl (fun K hK => ?_)
              go_wp2_with fail
              refine wpTail3_last (by kernel_rfl) rfl rfl (fun K hK => ?_)
              go_wp2_with fail
              refine wpTail3_nil ?_
              go_wp2
              refine ⟨⟨i + 1, D'.step (decide ((i : Int) ≠ fail)) all, deskFp b fx7 fd6 ft ff, by omega, by go_num, ?_, ?_, HWM.out.symm.trans HW.out, hfp8, ?_⟩, by simp [intOf]; omega⟩
              · rw [hdec, step_last ha, if_pos (by omega), if_neg (by omega), if_neg (by omega), if_pos (by omega)]
                have hst := hM10.store (n' := nm) (Kept.cell1 (b := b) (o := 2) (u := .slice (some ⟨g, o + (n - 1), none⟩) 1 (ct - (n - 1)))) (by rw [heap_set_same hM10.cells]; simp) htl10 ⟨hM10.ap.1.2.2.1, hM10.ap.2.1.2.1, hM10.ap.2.2.1.1, hM10.ap.2.2.2⟩
                refine ⟨.slice (some ⟨g, o + (n - 1), none⟩) 1 (ct - (n - 1)), vf, fx7, fd6, ft, ff, ?_, rfl⟩
                rw [show D'.doc.succeeded = q from (done_last_eq ha).symm.trans HQ.out.symm]
                exact hst
              · rw [hdec]; exact okS
              · exact hkw10.setCell (p := ⟨b, 2, none⟩) (fun hlt => (HFP.out b (by simp)).resolve_right (by show ¬ w.heap.size ≤ b; have hlt : b < w.heap.size := hlt; omega)) _
            · have hNE : True := trivial
              have hk18 : (D'.doc.kind : Int) = 2 := by omega
              go_wp2_with fail
              obtain ⟨hn9, hsz9, hk9⟩ := new1 w8 (Obj.cells #[.int .i64 (q.lines.length : Int), .int .i64 (q.edits : Int), .int .i64 0] viewT)
              have hM9 := hM8.kept hk9 (fun _ _ h => h)
              have hkw9 : Kept (fun x => x ∈ fp) w (w8.alloc (Obj.cells #[.int .i64 (q.lines.length : Int), .int .i64 (q.edits : Int), .int .i64 0] viewT)) := hkw8.step (hk9.mono (fun _ h _ => h.elim))
              generalize w8.alloc (Obj.cells #[.int .i64 (q.lines.length : Int), .int .i64 (q.edits : Int), .int .i64 0] viewT) = w9 at hk9 hM9 hkw9 ⊢
              obtain ⟨pv, ct, rfl, hct1, hct2, _⟩ := hM9.files.slice
              have hne : D'.mf ≠ [] := ok'.mf0
              obtain ⟨g, o, rfl, _, htl⟩ := hM9.files.last hne
              have hTL : Hid (TextsAt w9 (.slice (some ⟨g, o + ((D'.mf).length - 1), none⟩) 1 (ct - ((D'.mf).length - 1))) (lastOne (D'.mf)) ff) := htl
              clear htl
              have hnpos : 0 < (D'.mf).length := List.length_pos_iff.2 hne
              have hnle : (D'.mf).length ≤ 8000000000000 := by have := ok'.mfN; omega
              generalize hn : (D'.mf).length = n at hTL hct1 hnpos hnle hM9 ⊢
              have hT : ∀ W, Kept no w9 W → W.cell? ⟨b, 3, none⟩ = some (.slice (some ⟨g, o, none⟩) n ct) := fun W hW => hW.read (by rw [(cells_of hM9.cells).1]; rfl) (fun h => h)
              refine wp_region3 (fun W => Kept no w9 W) [(0, true), (1, true), (2, true), (3, true), (4, false), (5, true), (6, true), (7, true), (8, false), (9, true), (10, true), (11, true)] [12, 13, 14] (by kernel_rfl) (by kernel_rfl) (fun _ _ d _ _ h => by cases d <;> exact h) ((Kept.refl _ _).drew) ?_
              repeat ((first | refine wpPre3_pure rfl rfl (fun W => (by go_simp; rfl)) ?_ | refine wpPre3_read rfl rfl (fun W hW => (by have h1 := hT W hW; go_simp; rfl)) ?_); simp only [Act.put, List.setIfInBounds_toArray, List.set])
              refine wpPre3_pure rfl rfl (v := .slice (some ⟨g, o + (n - 1), none⟩) 1 (ct - (n - 1))) (fun W => ?_) ?_
              · go_simp
                have hw : IntKind.i64.wrap ((n : Int) - 1) = (n : Int) - 1 := by rw [IntKind.wrap_i64]; omega
                have ht : ((n : Int) - 1).toNat = n - 1 := by omega
                rw [hw, ht, if_pos ⟨by omega, by omega⟩, if_neg (by omega), show n - (n - 1) = 1 by omega]
              simp only [Act.put, List.setIfInBounds_toArray, List.set]
              refine wpPre3_nil ?_
              have hk10 : Kept no w9 w9.drew := (Kept.refl _ _).drew
              have hM10 := hM9.kept hk10 (fun _ _ h => h)
              have hkw10 := hkw9.step (hk10.mono (fun _ h _ => h.elim))
              generalize w9.drew = w10 at hk10 hM10 hkw10 ⊢
              obtain ⟨hc10, hf10⟩ := cells_of hM10.cells
              have htl10 := hTL.out.kept hk10 (fun _ _ h => h)
              refine wpTail3_last (by kernel_rfl) rfl rfl (fun K hK => ?_)
              go_wp2_with fail
              refine wpTail3_last (by kernel_rfl) rfl rfl (fun K hK => ?_)
              go_wp2_with fail
              refine wpTail3_last (by kernel_rfl) rfl rfl (fun K hK => ?_)
              go_wp2_with fail
              refine wpTail3_nil ?_
              go_wp2
              refine ⟨⟨i + 1, D'.step (decide ((i : Int) ≠ fail)) all, deskFp b fx7 fd6 ft ff, by omega, by go_num, ?_, ?_, HWM.out.symm.trans HW.out, hfp8, ?_⟩, by simp [intOf]; omega⟩
              · rw [hdec, step_last ha, if_neg (by omega), if_pos (by omega), if_pos (by omega), if_neg (by omega)]
                have hst := hM10.storeF (n' := nm) (Kept.cell1 (b := b) (o := 3) (u := .slice (some ⟨g, o + (n - 1), none⟩) 1 (ct - (n - 1)))) (by rw [heap_set_same hM10.cells]; simp) htl10 ⟨hM10.ap.1.2.2.2, hM10.ap.2.1.2.2, hM10.ap.2.2.1.2, hM10.ap.2.2.2⟩
                refine ⟨vt, .slice (some ⟨g, o + (n - 1), none⟩) 1 (ct - (n - 1)), fx7, fd6, ft, ff, ?_, rfl⟩
                rw [show D'.doc.succeeded = q from (done_last_eq ha).symm.trans HQ.out.symm]
                exact hst
              · rw [hdec]; exact okS
              · exact hkw10.setCell (p := ⟨b, 3, none⟩) (fun hlt => (HFP.out b (by simp)).resolve_right (by show ¬ w.heap.size ≤ b; have hlt : b < w.heap.size := hlt; omega)) _
          · have hNE : True := trivial
            have hq0 : q.kind = D'.doc.kind := by rw [HQ.out, done_on_eq ha hR]
            have hq1 : ¬ (q.kind : Int) = 0 := by omega
            clear hq0
            have hgb : ((i : Int) == fail) = false := by simpa using hgf
            have hgn : ((i : Int) != fail) = true := by simpa using hgf
            go_wp2
            refine ⟨⟨i + 1, D'.step (decide ((i : Int) ≠ fail)) all, deskFp b fx7 fd6 ft ff, by omega, by go_num, ?_, ?_, HWM.out.symm.trans HW.out, hfp8, ?_⟩, by simp [intOf]; omega⟩
            · rw [hdec, step_on ha hR hk0]
              rw [show q = { D'.doc with acts := R } from HQ.out.trans (done_on_eq ha hR)] at hM8 ⊢
              exact ⟨_, _, _, _, _, _, hM8.kept ((Kept.refl _ _).alloc _) (fun _ _ h => h), rfl⟩
            · rw [hdec]; exact okS
            · exact (hkw8.alloc _)
    · obtain rfl : i = acts := by omega
      go_wp2
      go_ret
      refine ⟨by simp, ?_⟩
      rw [← HW.out, Nat.sub_self]
      exact ⟨⟨_, hD, hfp⟩, hkw⟩

theorem work_any {w b bx bd D fp N L} (h : DeskR w b bx bd D fp) (ok : D.Ok N L) (acts : Nat) (actsI fail howI : Int) (how : Nat) (hai : actsI = (acts : Int)) (hhi : howI = (how : Int)) (hacts : acts ≤ 1000) (hf1 : -1 ≤ fail) (hf2 : fail ≤ 1000000) (hhow : how ≤ 1000000) (hN : N + acts ≤ 8000000000000) (hL : L ≤ 8000000000000) :
    Calls Tryz.prog 18 #[.pointer (some ⟨b, 0, none⟩), .int .i64 actsI, .int .i64 fail, .int .i64 howI] w fun e w' => e = .returned (.bool true) ∧ DeskTo w w' b bx bd fp (D.work acts 0 fail (decide (how % 2 ≠ 0))) := by
  refine (work_n (nm := ⟨D.doc.text, D.doc.every, D.doc.counted, D.most⟩) h ok acts actsI fail howI how hai hhi hacts hf1 hf2 hhow hN hL).mono ?_
  rintro e w' ⟨rfl, ⟨fp', hr, hx⟩, hk⟩
  obtain ⟨e1, e2, e3, e4, _⟩ := work_same fail (decide (how % 2 ≠ 0)) acts 0 D
  have e5 : (D.work acts 0 fail (decide (how % 2 ≠ 0))).doc.text = D.doc.text := by unfold DocS.text; rw [e1]
  refine ⟨rfl, ⟨fp', ?_, hx⟩, hk⟩
  unfold DeskR
  rw [e5, e2, e3, e4]
  exact hr
end Go.Proofs.YtdpfohgkikjeaaaGreat

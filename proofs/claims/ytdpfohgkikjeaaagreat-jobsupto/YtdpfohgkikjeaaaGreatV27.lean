/- Part 27 of the proof: see its parts. -/
import Derived.Test.YtdpfohgkikjeaaaGreatV26
/- The document's own answer: Line, Sync, Open, Over. -/
namespace Go.Proofs.YtdpfohgkikjeaaaGreat
open Go.RowKit
set_option linter.unusedVariables false
set_option linter.unusedSimpArgs false

theorem line_ref_no {w : World} {b : Nat} {r : RefS} {fp : List Nat} (h : RefR w b r fp) (p : Int) (hp : p < 0 ∨ (r.lines.length : Int) ≤ p) : Calls Tryz.prog 93 #[.pointer (some ⟨b, 0, none⟩), .int .i64 p] w fun e w' => e = .returned (.tuple #[.string ⟨#[]⟩, .int .i64 1]) ∧ w' = w := by
  obtain ⟨vl, va, vq, vs, fa, fq, h, rfl⟩ := h
  obtain ⟨hc, hf⟩ := cells_of h.cells
  obtain ⟨pl, cl, rfl⟩ := h.lines.slice
  rcases hp with hp | hp
  · go_enter Tryz.func93, Tryz.ntmps93
    go_wp2
    go_ret2
    exact ⟨rfl, rfl⟩
  · have h1 : ¬ p < 0 := by omega
    have h2 : p ≥ (r.lines.length : Int) := hp
    clear hp
    go_enter Tryz.func93, Tryz.ntmps93
    go_wp2
    go_ret2
    exact ⟨rfl, rfl⟩

theorem line_ref_yes {w : World} {b : Nat} {r : RefS} {fp : List Nat} (h : RefR w b r fp) (h60 : r.lines.length ≤ 60) (p : Nat) (hp : p < r.lines.length) : Calls Tryz.prog 93 #[.pointer (some ⟨b, 0, none⟩), .int .i64 (p : Int)] w fun e w' => e = .returned (.tuple #[sv r.lines[p], .int .i64 0]) ∧ w' = w := by
  obtain ⟨vl, va, vq, vs, fa, fq, h, rfl⟩ := h
  obtain ⟨hc, hf⟩ := cells_of h.cells
  rcases h.lines.shape with ⟨_, h0, _⟩ | ⟨g, c, rfl, h1, h2⟩
  · omega
  · have hcl := h.lines.cell.2.2.2 p (sv r.lines[p]) (by simp [hp])
    have h0 : ¬ (p : Int) < 0 := by omega
    have h3 : ¬ (p : Int) ≥ (r.lines.length : Int) := by omega
    generalize r.lines[p] = x at hcl
    go_enter Tryz.func93, Tryz.ntmps93
    go_wp2
    go_ret2
    exact ⟨rfl, rfl⟩

set_option maxRecDepth 100000 in
theorem sync_ref {w : World} {b : Nat} {r : RefS} {fp : List Nat} {N L : Nat} (h : RefR w b r fp) (ok : r.Ok N L) (hN : N ≤ 1000000000000) (hL : L ≤ 1000000000000) :
    Calls Tryz.prog 69 #[.pointer (some ⟨b, 0, none⟩)] w fun e w' => e = .returned (.int .i64 (r.syncC.1 : Int)) ∧ RefTo w w' b fp r.syncC.2 := by
  have hsame := RefTo.same h
  obtain ⟨vl, va, vq, vs, fa, fq, h, rfl⟩ := h
  obtain ⟨hc, hf⟩ := cells_of h.cells
  have hsn := ok.since
  have hfl := ok.file
  have hsy := ref_sync h ok.text (by omega) (by omega)
  unfold RefS.syncC
  by_cases h1 : r.job ≠ 0
  · have h1' : ¬ (r.job : Int) = 0 := by omega
    rw [if_pos h1]
    go_enter Tryz.func69, Tryz.ntmps69
    go_wp2
    go_ret
    exact ⟨rfl, hsame⟩
  rw [if_neg h1]
  have h1' : (r.job : Int) = 0 := by omega
  clear h1
  cases hi : r.idle with
  | true =>
    rw [if_pos rfl]
    go_enter Tryz.func69, Tryz.ntmps69
    go_wp2
    go_ret
    exact ⟨rfl, hsame⟩
  | false =>
    rw [if_neg (by simp)]
    go_enter Tryz.func69, Tryz.ntmps69
    go_wp2_with fail
    refine hsy.mono ?_
    rintro e w1 ⟨rfl, hT⟩
    go_wp2
    go_ret
    exact ⟨rfl, hT⟩

theorem open_ref_arg (file : Str) (n : Int) (w : World) (h : n < 1 ∨ 20 < n) : Calls Tryz.prog 87 #[sv file, .int .i64 n] w fun e w' => e = .returned (.tuple #[.pointer none, .int .i64 1]) ∧ w' = w := by
  have he := every_ref n w
  rw [decide_eq_false (by omega)] at he
  clear h
  go_enter Tryz.func87, Tryz.ntmps87
  go_wp2_with fail
  refine he.mono ?_
  rintro e w1 ⟨rfl, hw⟩
  rw [hw]
  clear hw
  go_wp2
  go_ret2
  exact ⟨rfl, rfl⟩

theorem open_ref_text (file : Str) (hf : file.length ≤ 1099511627776) (n : Int) (w : World) (h1 : 1 ≤ n) (h2 : n ≤ 20) (hn : ¬ IsText file) : Calls Tryz.prog 87 #[sv file, .int .i64 n] w fun e w' => e = .returned (.tuple #[.pointer none, .int .i64 2]) ∧ Kept no w w' := by
  have he := every_ref n w
  rw [decide_eq_true ⟨h1, h2⟩] at he
  go_enter Tryz.func87, Tryz.ntmps87
  go_wp2_with fail
  refine he.mono ?_
  rintro e w1 ⟨rfl, hw⟩
  rw [hw]
  clear hw
  go_wp2_with fail
  refine (cut_ref file w hf).mono ?_
  rintro e w2 ⟨hh, hk⟩
  rcases hh with ⟨ls, v, hok, hls, _⟩ | ⟨_, v, rfl⟩
  · exact absurd ⟨ls, hok, hls⟩ hn
  · go_wp2
    go_ret2
    exact ⟨rfl, hk⟩

set_option maxRecDepth 100000 in
set_option maxHeartbeats 2000000 in
theorem open_ref_yes (ls : List Str) (hok : TextOk ls) (n : Nat) (nI : Int) (hnI : nI = (n : Int)) (w : World) (h1 : 1 ≤ n) (h2 : n ≤ 20) : Calls Tryz.prog 87 #[sv (textOf ls), .int .i64 nI] w fun e w' => ∃ b fp, e = .returned (.tuple #[.pointer (some ⟨b, 0, none⟩), .int .i64 0]) ∧ RefR w' b (RefS.opened ls n) fp ∧ (∀ x ∈ fp, w.heap.size ≤ x) ∧ Kept no w w' := by
  subst hnI
  have he := every_ref (n : Int) w
  rw [decide_eq_true ⟨by omega, by omega⟩] at he
  have hlen := hok.length
  have hcut := (cut_ref (textOf ls) w (by omega)).mono (R' := fun e w' => ∃ v, e = .returned (.tuple #[v, .bool true]) ∧ Row w' 9 1 v ls.length (ls.map sv) ∧ (∀ x ∈ fpv v, w.heap.size ≤ x) ∧ Kept no w w') (fun e w' ⟨hh, hk⟩ => by
    rcases hh with ⟨ls', v, hok', hls, he, hr, hx⟩ | ⟨hno, _⟩
    · obtain rfl : ls' = ls := textOf_inj (fun l hl => (hok'.lines l hl).2) (fun l hl => (hok.lines l hl).2) hls
      exact ⟨v, he, hr, hx, hk⟩
    · exact absurd ⟨ls, hok, rfl⟩ hno)
  have hS : ∀ (w4 : World) (B : Nat) (v : Value), w4.heap[B]? = some (.cells (refCells ⟨ls, textOf ls, n, 0, 0, false, 0, [], [], [], []⟩ v (.slice none 0 0) (.slice none 0 0) (.slice none 0 0)) refT (0, 0)) → Row w4 9 1 v ls.length (ls.map sv) → (B ∉ fpv v) →
      Calls Tryz.prog 95 #[.pointer (some ⟨B, 0, none⟩)] w4 fun e w' => e = .returned (.tuple #[]) ∧ RefTo w4 w' B (refFp B v [] [] (.slice none 0 0)) (RefS.opened ls n) := fun w4 B v hB hr hnb =>
    ref_sync (r := ⟨ls, textOf ls, n, 0, 0, false, 0, [], [], [], []⟩) (fa := []) (fq := []) ⟨hB, hr, Seen.nil _, Seen.nil _, ⟨rfl, .inl ⟨rfl, rfl⟩⟩, apart_mk ⟨hnb, by simp, by simp, by simp [fpv_nil]⟩ ⟨by simp, by simp, by simp [fpv_nil]⟩ ⟨by simp, by simp⟩ (by simp)⟩ hok (by show (textOf ls).length ≤ _; omega) (by show (0 : Nat) ≤ _; omega)
  generalize textOf ls = t at *
  go_enter Tryz.func87, Tryz.ntmps87
  go_wp2_with fail
  refine he.mono ?_
  rintro e w1 ⟨rfl, hw⟩
  rw [hw]
  clear hw
  go_wp2_with fail
  refine hcut.mono ?_
  rintro e w2 ⟨v, rfl, hr, hx, hk2⟩
  obtain ⟨pv, cv, rfl⟩ := hr.slice
  go_wp2_with fail
  obtain ⟨hn3, hsz3, hk3⟩ := new1 w2 (Obj.cells (refCells ⟨ls, t, n, 0, 0, false, 0, [], [], [], []⟩ (.slice pv ls.length cv) (.slice none 0 0) (.slice none 0 0) (.slice none 0 0)) refT)
  have hlt := hr.lt
  have hr3 := hr.kept hk3 (fun _ _ h => h)
  refine (hS _ w2.heap.size _ hn3 hr3 (fun hb => by have := hlt _ hb; omega)).mono ?_
  rintro e w4 ⟨rfl, hT⟩
  go_wp2
  go_ret2
  obtain ⟨⟨fp', hR, hxx⟩, hk4⟩ := hT
  have hsz := hk2.size
  refine ⟨w2.heap.size, fp', rfl, hR, fun x hx' => ?_, ((hk2.step hk3).step' hk4 (fun x hx' hlt => ?_))⟩
  · rcases hxx x hx' with h | h
    · simp only [refFp, List.mem_cons, List.mem_append, List.not_mem_nil, or_false, false_or, fpv_nil] at h
      rcases h with h | h
      · omega
      · exact hx x h
    · have := hk3.size; omega
  · have hx' : x ∈ refFp w2.heap.size (.slice pv ls.length cv) [] [] (.slice none 0 0) := hx'
    simp only [refFp, List.mem_cons, List.mem_append, List.not_mem_nil, or_false, false_or, fpv_nil] at hx'
    rcases hx' with h | h
    · omega
    · have := hx x h; omega
end Go.Proofs.YtdpfohgkikjeaaaGreat
/- The document's own answer: Over. -/
namespace Go.Proofs.YtdpfohgkikjeaaaGreat
open Go.RowKit
set_option linter.unusedVariables false
set_option linter.unusedSimpArgs false

theorem chs_last {l : List (Str × Mark)} {m : Nat} (h : l.length = m + 1) : ∀ j u, (chsCells (lastOne l))[j]? = some u → (chsCells l)[m * 3 + j]? = some u := by
  intro j u hj
  have e : chsCells l = chsCells (l.take m) ++ chsCells (l.drop m) := by rw [← chsCells_append, List.take_append_drop]
  have e2 : (chsCells (l.take m)).length = m * 3 := by rw [chsCells_length, List.length_take]; omega
  unfold lastOne at hj
  rw [show l.length - 1 = m by omega] at hj
  rw [e, List.getElem?_append_right (by omega), e2, Nat.add_sub_cancel_left]
  exact hj

theorem seen_sub {w : World} {v v' : Value} {n n' : Nat} {cs cs' : List Value} {fp : List Nat} (h : Seen w v n cs fp) {w' : World} (k : Kept no w w') : Seen w' v n cs fp := h.kept k (fun _ _ h => h)

set_option maxRecDepth 100000 in
set_option maxHeartbeats 4000000 in
theorem over_ref {w : World} {b : Nat} {r : RefS} {fp : List Nat} (h : RefR w b r fp) (done : Bool) (hj : r.job = 1 ∨ r.job = 2) (hs : r.job = 1 → r.since ≠ []) (hsn : r.since.length ≤ 1000000000000) :
    Calls Tryz.prog 94 #[.pointer (some ⟨b, 0, none⟩), .bool done] w fun e w' => e = .returned (.tuple #[]) ∧ RefTo w w' b fp (r.over done) := by
  obtain ⟨vl, va, vq, vs, fa, fq, h, rfl⟩ := h
  obtain ⟨hc, hf⟩ := cells_of h.cells
  have hbw : b < w.heap.size := lt_of_heap h.cells
  obtain ⟨⟨a1, a2, a3, a4⟩, ⟨b1, b2, b3⟩, ⟨c1, c2⟩, d1⟩ := h.ap
  have hkeep : ∀ w', Kept (fun x => x = b) w w' → Kept (fun x => x ∈ refFp b vl fa fq vs) w w' := fun w' hk => hk.mono (fun x e _ => by have e : x = b := e; show x ∈ refFp b vl fa fq vs; simp [e])
  cases done with
  | false =>
    have e1 : r.over false = { r with job := 0, acts := [] } := by unfold RefS.over; simp
    rw [e1]
    rcases hj with hj | hj
    all_goals
      go_enter Tryz.func94, Tryz.ntmps94
      go_wp2
      go_end0
      have hk : Kept (fun x => x = b) w ((w.setCell ⟨b, 6, none⟩ (.int .i64 0)).setCell ⟨b, 7, none⟩ (.slice none 0 0)) := Kept.cell1.step Kept.cell1
      refine ⟨rfl, .of_at (vl := vl) (va := .slice none 0 0) (vq := vq) (vs := vs) (fa := []) (fq := fq) ⟨?_, h.lines.kept hk (fun x hx e => a1 (e ▸ hx)), Seen.nil _, h.last.kept hk (fun x hx e => a3 (e ▸ hx)), h.since.kept hk (fun x hx e => a4 (e ▸ hx)), apart_mk ⟨a1, by simp, a3, a4⟩ ⟨by simp, b2, b3⟩ ⟨by simp, by simp⟩ d1⟩ (fun x hx => .inl ?_) (hkeep _ hk)⟩
      · rw [heap_set_same (heap_set_same h.cells)]; simp
      · simp only [refFp, List.mem_cons, List.mem_append, List.not_mem_nil, false_or] at hx ⊢
        rcases hx with hx | hx | hx | hx <;> simp [hx]
  | true =>
    rcases hj with hj | hj
    · have hne := hs hj
      obtain ⟨m, hm⟩ : ∃ m, r.since.length = m + 1 := ⟨r.since.length - 1, by have := List.length_pos_iff.2 hne; omega⟩
      rcases h.since.shape with ⟨_, h0, _⟩ | ⟨g, c, rfl, hc1, hc2⟩
      · omega
      have hcl := h.since.cell.2.2.2
      have hg := h.since.lt g (by simp [fpv_some])
      unfold maxLen at hc2
      have hL : Seen w (.slice (some ⟨g, m * 3, none⟩) 1 (c - m)) (lastOne r.since).length (chsCells (lastOne r.since)) [g] := by
        have el : (lastOne r.since).length = 1 := by unfold lastOne; rw [List.length_drop]; omega
        refine .inr ⟨g, m * 3, c - m, by rw [el], by omega, by omega, rfl, hg, fun j u hu => ?_⟩
        exact hcl _ u (chs_last hm j u hu)
      have e1 : r.over true = { r with last := lastOne r.since, since := [], edits := 0, idle := true, job := 0, acts := [] } := by unfold RefS.over; rw [if_pos ⟨hj, rfl⟩]
      rw [e1]
      have hb := h.cells
      rw [hm] at hb hc1
      have hj1 : (r.job : Int) = 1 := by omega
      obtain ⟨hc', hf'⟩ := cells_of hb
      have hwm : IntKind.i64.wrap (m : Int) = (m : Int) := by rw [IntKind.wrap_i64]; omega
      have hm0 : (0 : Int) ≤ (m : Int) := by omega
      have hm1 : (m : Int) ≤ (m : Int) + 1 := by omega
      have hcm : ¬ c = m := by omega
      have hcm2 : m ≤ c := by omega
      clear hc hf hj hs
      go_enter Tryz.func94, Tryz.ntmps94
      go_upto_region 1 with fail
      refine wp_region3 (fun W => W = w.drew) [(0, true), (1, true), (2, true), (3, true), (4, false), (5, true), (6, true), (7, true), (8, false), (9, true), (10, true), (11, true)] [12, 13, 14] (by kernel_rfl) (by kernel_rfl) (fun _ _ d _ _ h => by cases d <;> exact h) rfl ?_
      repeat ((first | refine wpPre3_pure rfl rfl (fun W => (by go_simp; rfl)) ?_ | refine wpPre3_read rfl rfl (fun W hW => (by subst hW; go_simp; rfl)) ?_); simp only [Act.put, List.setIfInBounds_toArray, List.set])
      refine wpPre3_nil ?_
      refine wpTail3_last (by kernel_rfl) rfl rfl (fun K hK => ?_)
      go_wp2_with fail
      refine wpTail3_last (by kernel_rfl) rfl rfl (fun K hK => ?_)
      go_wp2_with fail
      refine wpTail3_last (by kernel_rfl) rfl rfl (fun K hK => ?_)
      go_wp2_with fail
      refine wpTail3_nil ?_
      have hk1 : Kept (fun x => x = b) w (w.setCell ⟨b, 9, none⟩ (.slice (some ⟨g, m * 3, none⟩) 1 (c - m))).drew := Kept.cell1.drew
      have hb1 : (w.setCell ⟨b, 9, none⟩ (.slice (some ⟨g, m * 3, none⟩) 1 (c - m))).drew.heap[b]? = some (.cells (refCells { r with last := lastOne r.since } vl va (.slice (some ⟨g, m * 3, none⟩) 1 (c - m)) (.slice (some ⟨g, 0, none⟩) (m + 1) c)) refT (0, 0)) := by
        show (w.setCell ⟨b, 9, none⟩ (.slice (some ⟨g, m * 3, none⟩) 1 (c - m))).heap[b]? = _
        rw [heap_set_same hb]; simp
      generalize (w.setCell ⟨b, 9, none⟩ (.slice (some ⟨g, m * 3, none⟩) 1 (c - m))).drew = w1 at hk1 hb1 ⊢
      clear hc' hf'
      obtain ⟨hc1, hf1⟩ := cells_of hb1
      go_wp2
      go_end0
      have hk2 : Kept (fun x => x = b) w1 (((((w1.setCell ⟨b, 10, none⟩ (.slice none 0 0)).setCell ⟨b, 4, none⟩ (.int .i64 0)).setCell ⟨b, 5, none⟩ (.bool true)).setCell ⟨b, 6, none⟩ (.int .i64 0)).setCell ⟨b, 7, none⟩ (.slice none 0 0)) := (((Kept.cell1.step Kept.cell1).step Kept.cell1).step Kept.cell1).step Kept.cell1
      have hk := hk1.step hk2
      refine ⟨rfl, .of_at (vl := vl) (va := .slice none 0 0) (vq := .slice (some ⟨g, m * 3, none⟩) 1 (c - m)) (vs := .slice none 0 0) (fa := []) (fq := [g]) ⟨?_, h.lines.kept hk (fun x hx e => a1 (e ▸ hx)), Seen.nil _, hL.kept hk (fun x hx e => a4 (e ▸ hx)), ⟨rfl, .inl ⟨rfl, rfl⟩⟩, apart_mk ⟨a1, by simp, a4, by simp [fpv_nil]⟩ ⟨by simp, b3, by simp [fpv_nil]⟩ ⟨by simp, by simp⟩ (by simp [fpv_nil])⟩ (fun x hx => .inl ?_) (hkeep _ hk)⟩
      · rw [heap_set_same (heap_set_same (heap_set_same (heap_set_same (heap_set_same hb1))))]; simp
      · simp only [refFp, List.mem_cons, List.mem_append, List.not_mem_nil, false_or, fpv_nil, fpv_some, or_false] at hx ⊢
        rcases hx with hx | hx | hx <;> simp [hx]
    · have e1 : r.over true = { r with file := r.saved, job := 0, acts := [] } := by unfold RefS.over; rw [if_neg (by omega), if_pos ⟨hj, rfl⟩]
      rw [e1]
      have hj1 : (r.job : Int) = 2 := by omega
      have hb := h.cells
      clear hs hj
      go_enter Tryz.func94, Tryz.ntmps94
      go_wp2
      go_end0
      have hk : Kept (fun x => x = b) w (((w.setCell ⟨b, 1, none⟩ (sv r.saved)).setCell ⟨b, 6, none⟩ (.int .i64 0)).setCell ⟨b, 7, none⟩ (.slice none 0 0)) := (Kept.cell1.step Kept.cell1).step Kept.cell1
      refine ⟨rfl, .of_at (vl := vl) (va := .slice none 0 0) (vq := vq) (vs := vs) (fa := []) (fq := fq) ⟨?_, h.lines.kept hk (fun x hx e => a1 (e ▸ hx)), Seen.nil _, h.last.kept hk (fun x hx e => a3 (e ▸ hx)), h.since.kept hk (fun x hx e => a4 (e ▸ hx)), apart_mk ⟨a1, by simp, a3, a4⟩ ⟨by simp, b2, b3⟩ ⟨by simp, by simp⟩ d1⟩ (fun x hx => .inl ?_) (hkeep _ hk)⟩
      · rw [heap_set_same (heap_set_same (heap_set_same hb))]; simp
      · simp only [refFp, List.mem_cons, List.mem_append, List.not_mem_nil, false_or] at hx ⊢
        rcases hx with hx | hx | hx | hx <;> simp [hx]
end Go.Proofs.YtdpfohgkikjeaaaGreat
/- The document's own answer: Save. -/
namespace Go.Proofs.YtdpfohgkikjeaaaGreat
open Go.RowKit
set_option linter.unusedVariables false
set_option linter.unusedSimpArgs false

/-- An answer whose acts are a row that was made since. -/
structure SavAt (w0 wx : World) (b : Nat) (r : RefS) (vl va vq vs : Value) (fq : List Nat) : Prop where
  ref : RefAt wx b r vl va vq vs (fpv va) fq
  row : ActsRow wx va r.acts
  fresh : ∀ x ∈ fpv va, w0.heap.size ≤ x
  kept : Kept (fun x => x = b) w0 wx

theorem SavAt.app {w0 wx wz : World} {b : Nat} {r r' : RefS} {vl va vq vs va' : Value} {fq : List Nat} (h : SavAt w0 wx b r vl va vq vs fq) (o : Obj) {l' : List PAct} (hr : ActsRow wz va' l') (hg : Grew (wx.alloc o) wz va va') (hr' : r' = { r with acts := l' })
    : SavAt w0 (wz.setCell ⟨b, 7, none⟩ va') b r' vl va' vq vs fq := by
  subst hr'
  have h1 := h.ref.kept (S := no) ((Kept.refl no wx).alloc o) (fun _ _ h => h)
  obtain ⟨⟨a1, a2, a3, a4⟩, ⟨b1, b2, b3⟩, ⟨c1, c2⟩, d1⟩ := h1.ap
  have hk := hg.1
  have hb : wz.heap[b]? = _ := hk.get h1.cells a2
  have hbl : b < (wx.alloc o).heap.size := lt_of_heap h1.cells
  have hn : ∀ l : List Nat, (∀ x ∈ l, x < (wx.alloc o).heap.size) → (∀ x ∈ l, x ∉ fpv va) → ∀ x ∈ l, x ∉ fpv va' := fun l hl ha x hx hx' => by
    rcases hg.2 x hx' with h2 | h2
    · exact ha x hx h2
    · have := hl x hx; omega
  have hbv : b ∉ fpv va' := fun hx => hn [b] (fun x hx => by rw [List.mem_singleton.1 hx]; exact hbl) (fun x hx => by rw [List.mem_singleton.1 hx]; exact a2) b (by simp) hx
  have hs : Kept (fun x => x = b) wz (wz.setCell ⟨b, 7, none⟩ va') := Kept.cell1
  have hrow := hr.kept hs (fun x hx e => hbv (e ▸ hx))
  refine ⟨⟨?_, (h1.lines.kept hk (fun x hx hx2 => b1 x hx hx2)).kept hs (fun x hx e => a1 (e ▸ hx)), Seen.of_row hrow (actsCells_length _), (h1.last.kept hk (fun x hx hx2 => c1 x hx2 hx)).kept hs (fun x hx e => a3 (e ▸ hx)), (h1.since.kept hk (fun x hx hx2 => c2 x hx2 hx)).kept hs (fun x hx e => a4 (e ▸ hx)), ?_⟩, hrow, fun x hx => ?_, ?_⟩
  · rw [heap_set_same hb]; simp
  · refine apart_mk ⟨a1, hbv, a3, a4⟩ ⟨hn _ h1.lines.lt b1, b2, b3⟩ ⟨fun x hx hx2 => ?_, fun x hx hx2 => ?_⟩ d1
    · exact hn _ h1.last.lt (fun x h2 h3 => c1 x h3 h2) x hx2 hx
    · exact hn _ h1.since.lt (fun x h2 h3 => c2 x h3 h2) x hx2 hx
  · rcases hg.2 x hx with h2 | h2
    · exact h.fresh x h2
    · have := h.kept.size; simp at h2; omega
  · exact ((h.kept.alloc o).step' hk (fun x hx hlt => by have := h.fresh x hx; omega)).step hs

theorem SavAt.drew {w0 wx : World} {b : Nat} {r : RefS} {vl va vq vs : Value} {fq : List Nat} (h : SavAt w0 wx b r vl va vq vs fq) : SavAt w0 wx.drew b r vl va vq vs fq :=
  ⟨h.ref.kept (S := no) (Kept.refl _ _).drew (fun _ _ h => h), h.row.drew, h.fresh, h.kept.drew⟩
theorem SavAt.cellsAt {w0 wx wz : World} {b : Nat} {r : RefS} {vl va vq vs va' : Value} {fq : List Nat} (h : SavAt w0 wx b r vl va vq vs fq) (o : Obj) (hg : Grew (wx.alloc o) wz va va') : wz.heap[b]? = some (.cells (refCells r vl va vq vs) refT (0, 0)) := by
  have h1 := h.ref.kept (S := no) ((Kept.refl no wx).alloc o) (fun _ _ h => h)
  exact hg.1.get h1.cells h1.ap.1.2.1

theorem SavAt.to {w0 wx : World} {b : Nat} {r' : RefS} {vl va vq vs : Value} {fa fq : List Nat} (h : SavAt w0 wx b r' vl va vq vs fq) : RefTo w0 wx b (refFp b vl fa fq vs) r' := by
  refine .of_at h.ref (fun x hx => ?_) (h.kept.mono (fun x e _ => by have e : x = b := e; show x ∈ refFp b vl fa fq vs; simp [e]))
  simp only [refFp, List.mem_cons, List.mem_append] at hx ⊢
  rcases hx with hx | hx | hx | hx | hx
  · exact .inl (.inl hx)
  · exact .inl (.inr (.inl hx))
  · exact .inr (h.fresh x hx)
  · exact .inl (.inr (.inr (.inr (.inl hx))))
  · exact .inl (.inr (.inr (.inr (.inr hx))))

set_option maxRecDepth 100000 in
set_option maxHeartbeats 8000000 in
theorem save_ref {w : World} {b : Nat} {r : RefS} {fp : List Nat} {N L : Nat} (h : RefR w b r fp) (ok : r.Ok N L) :
    Calls Tryz.prog 71 #[.pointer (some ⟨b, 0, none⟩)] w fun e w' => e = .returned (.int .i64 (r.save.1 : Int)) ∧ RefTo w w' b fp r.save.2 := by
  have hsame := RefTo.same h
  obtain ⟨vl, va, vq, vs, fa, fq, h, rfl⟩ := h
  obtain ⟨hc, hf⟩ := cells_of h.cells
  have hbw : b < w.heap.size := lt_of_heap h.cells
  unfold RefS.save
  by_cases h1 : r.job ≠ 0
  · have h1' : ¬ (r.job : Int) = 0 := by omega
    rw [if_pos h1]
    go_enter Tryz.func71, Tryz.ntmps71
    go_wp2
    go_ret
    exact ⟨rfl, hsame⟩
  rw [if_neg h1]
  have h1' : (r.job : Int) = 0 := by omega
  clear h1
  obtain ⟨⟨a1, a2, a3, a4⟩, ⟨b1, b2, b3⟩, ⟨c1, c2⟩, d1⟩ := h.ap
  have htl := ok.text.length
  go_enter Tryz.func71, Tryz.ntmps71
  go_wp2_with fail
  have hk1 : Kept (fun x => x = b) w (w.setCell ⟨b, 6, none⟩ (.int .i64 2)) := Kept.cell1
  have h1 := h.store (r' := { r with job := 2 }) hk1 (by rw [heap_set_same h.cells]; simp) rfl rfl rfl rfl
  generalize w.setCell ⟨b, 6, none⟩ (.int .i64 2) = w1 at hk1 h1 ⊢
  clear hc hf
  have hT : Calls Tryz.prog 65 #[.pointer (some ⟨b, 0, none⟩)] w1 (fun e w' => e = .returned (sv (textOf r.lines)) ∧ Kept no w1 w') := ref_text (r := { r with job := 2 }) h1 ok.text
  have HR : Hid (r.text = textOf r.lines) := rfl
  generalize textOf r.lines = t at hT htl HR
  refine hT.mono ?_
  rintro e w2 ⟨rfl, hk2⟩
  clear hT
  have h2 := h1.kept hk2 (fun _ _ h => h)
  obtain ⟨hc2, hf2⟩ := cells_of h2.cells
  have hb2l := lt_of_heap h2.cells
  go_upto_if 25 with fail
  have hS : SavAt w (((w2.setCell ⟨b, 8, none⟩ (.string ⟨t.toArray⟩)).setCell ⟨b, 7, none⟩ (.slice (some ⟨w2.heap.size, 0, none⟩) 1 1)).alloc (Obj.cells #[.int .i64 3, .int .i64 0, .string ⟨#[]⟩] actT)) b { r with job := 2, saved := t, acts := [⟨3, 0, []⟩] } vl (.slice (some ⟨w2.heap.size, 0, none⟩) 1 1) vq vs fq := by
    have hk3 : Kept (fun x => x = b) w2 ((w2.setCell ⟨b, 8, none⟩ (.string ⟨t.toArray⟩)).setCell ⟨b, 7, none⟩ (.slice (some ⟨w2.heap.size, 0, none⟩) 1 1)) := Kept.cell1.step Kept.cell1
    have hb3 : ((w2.setCell ⟨b, 8, none⟩ (.string ⟨t.toArray⟩)).setCell ⟨b, 7, none⟩ (.slice (some ⟨w2.heap.size, 0, none⟩) 1 1)).heap[b]? = some (.cells (refCells { r with job := 2, saved := t, acts := [⟨3, 0, []⟩] } vl (.slice (some ⟨w2.heap.size, 0, none⟩) 1 1) vq vs) refT (0, 0)) := by
      rw [heap_set_same (heap_set_same h2.cells)]; simp
    have hsz : ((w2.setCell ⟨b, 8, none⟩ (.string ⟨t.toArray⟩)).setCell ⟨b, 7, none⟩ (.slice (some ⟨w2.heap.size, 0, none⟩) 1 1)).heap.size = w2.heap.size := by simp
    generalize ((w2.setCell ⟨b, 8, none⟩ (.string ⟨t.toArray⟩)).setCell ⟨b, 7, none⟩ (.slice (some ⟨w2.heap.size, 0, none⟩) 1 1)) = w3 at hk3 hb3 hsz ⊢
    obtain ⟨hn4, hsz4, hk4⟩ := new1 w3 (Obj.cells #[.int .i64 3, .int .i64 0, .string ⟨#[]⟩] actT)
    rw [hsz] at hn4
    have hrow : ActsRow (w3.alloc (Obj.cells #[.int .i64 3, .int .i64 0, .string ⟨#[]⟩] actT)) (.slice (some ⟨w2.heap.size, 0, none⟩) 1 1) [⟨3, 0, []⟩] := ⟨rfl, .inr ⟨w2.heap.size, 1, _, rfl, Nat.zero_le _, hn4, Nat.le_refl _, by decide, rfl, rfl⟩⟩
    have hk := hk3.step' hk4 (fun _ h _ => h.elim)
    have hlt := h2.lt
    have hfr : ∀ x ∈ refFp b vl fa fq vs, x ≠ w2.heap.size := fun x hx e => by have := hlt x hx; omega
    refine ⟨⟨hk4.get hb3 (fun h => h), h2.lines.kept hk (fun x hx e => a1 (e ▸ hx)), Seen.of_row hrow (actsCells_length _), h2.last.kept hk (fun x hx e => a3 (e ▸ hx)), h2.since.kept hk (fun x hx e => a4 (e ▸ hx)), ?_⟩, hrow, fun x hx => ?_, hk1.step ((hk2.mono (fun _ h _ => h.elim)).step hk)⟩
    · rw [fpv_some]
      refine apart_mk ⟨a1, by simp; omega, a3, a4⟩ ⟨fun x hx hx2 => ?_, b2, b3⟩ ⟨fun x hx hx2 => ?_, fun x hx hx2 => ?_⟩ d1
      · exact hfr x (by simp [hx]) (List.mem_singleton.1 hx2)
      · exact hfr x (by simp [hx2]) (List.mem_singleton.1 hx)
      · exact hfr x (by simp [hx2]) (List.mem_singleton.1 hx)
    · rw [fpv_some] at hx
      have := (hk1.step' hk2 (fun _ h _ => h.elim)).size
      rw [List.mem_singleton.1 hx]; exact this
  generalize Value.slice (some ⟨w2.heap.size, 0, none⟩) 1 1 = v5 at hS ⊢
  generalize ((w2.setCell ⟨b, 8, none⟩ (.string ⟨t.toArray⟩)).setCell ⟨b, 7, none⟩ v5).alloc (Obj.cells #[.int .i64 3, .int .i64 0, .string ⟨#[]⟩] actT) = w5 at hS ⊢
  clear hc2 hf2 hb2l h2 hk2 hk1 h1
  obtain ⟨hc5, hf5⟩ := cells_of hS.ref.cells
  have hb5l := lt_of_heap hS.ref.cells
  have hne := hS.ref.ap.1.2.1
  have hsv : saveActs t = ([⟨3, 0, []⟩] ++ (if t = [] then [] else [⟨4, 0, t⟩])) ++ [⟨5, 0, []⟩, ⟨6, 0, []⟩, ⟨7, 0, []⟩] := rfl
  have hend : ∀ (w8 : World) (v8 : Value), SavAt w w8 b { r with job := 2, saved := t, acts := saveActs t } vl v8 vq vs fq → RefTo w w8 b (refFp b vl fa fq vs) { r with job := 2, saved := r.text, acts := saveActs r.text } := fun w8 v8 h8 => by
    rw [HR.out]; exact h8.to
  by_cases ht : t = []
  · have hie : t.isEmpty = true := by rw [ht]; rfl
    rw [if_pos ht, List.append_nil] at hsv
    have HSV : Hid (saveActs t = _) := hsv
    clear hsv ht
    rw [hie, Bool.not_true]
    go_wp2_with (at_builtin; apply hold)
    delta Hid
    refine wpList_acts rfl _ _ rfl _ _ rfl (hS.row.alloc _) _ 3 3 [⟨5, 0, []⟩, ⟨6, 0, []⟩, ⟨7, 0, []⟩] rfl rfl (by rw [heap_alloc_same]; rfl) (by simp) (fun v6 w6 hr hg => ?_)
    have h8 := hS.app _ hr hg rfl
    rw [← HSV.out] at h8
    obtain ⟨hc6, hf6⟩ := cells_of (hS.cellsAt _ hg)
    have hb6l := lt_of_heap (hS.cellsAt _ hg)
    obtain ⟨p6, c6, rfl⟩ := hr.slice
    go_wp2_with fail
    go_ret
    exact ⟨rfl, hend _ _ h8⟩
  · have hie : t.isEmpty = false := by cases t with | nil => exact absurd rfl ht | cons x l => rfl
    rw [if_neg ht] at hsv
    have HSV : Hid (saveActs t = _) := hsv
    clear hsv ht
    rw [hie, Bool.not_false]
    go_wp2_with fail
    have hA : ∀ W, Kept (fun x => x ∈ fpv v5) w5 W → W.cell? ⟨b, 7, none⟩ = some v5 := fun W hW => hW.read (by rw [hc5]; rfl) hne
    have hT : ∀ W, Kept (fun x => x ∈ fpv v5) w5 W → W.cell? ⟨b, 8, none⟩ = some (sv t) := fun W hW => hW.read (by rw [hc5]; rfl) hne
    refine wp_region3 (fun W => Kept (fun x => x ∈ fpv v5) w5 W) [(0, true), (1, true), (2, true), (3, true), (4, false), (5, true), (6, true), (7, true), (8, false), (9, true)] [10, 11, 12, 13, 14] (by kernel_rfl) (by kernel_rfl) (fun _ _ d _ _ h => by cases d <;> exact h) ((Kept.refl _ _).drew) ?_
    repeat ((first | refine wpPre3_pure rfl rfl (fun W => (by go_simp; rfl)) ?_ | refine wpPre3_read rfl rfl (fun W hW => (by have h1 := hA W hW; have h2 := hT W hW; go_simp; rfl)) ?_); simp only [Act.put, List.setIfInBounds_toArray, List.set])
    refine wpPre3_nil ?_
    have hS' : SavAt w w5.drew b { r with job := 2, saved := t, acts := [⟨3, 0, []⟩] } vl v5 vq vs fq := hS.drew
    generalize w5.drew = w5' at hS' ⊢
    refine wpTail3_cons rfl rfl (fun K hK => ?_)
    go_wp2_with fail
    refine ⟨fun hh => hh.alloc _, ?_⟩
    refine wpTail3_cons rfl rfl (fun K hK => ?_)
    refine wp_acts _ _ rfl _ _ rfl (hS'.row.alloc _) _ 1 1 [⟨4, 0, t⟩] rfl rfl (by rw [heap_alloc_same]; rfl) (by simp) (fun v6 w6 hr hg => ?_)
    have h6 := hS'.app _ hr hg rfl
    obtain ⟨hc6, hf6⟩ := cells_of (hS'.cellsAt _ hg)
    have hb6l := lt_of_heap (hS'.cellsAt _ hg)
    refine hK _ _ ⟨fun hh => hh.step hg.1, ?_⟩
    clear hK
    obtain ⟨p6, c6, hv6⟩ := hr.slice
    generalize hN : (([⟨3, 0, []⟩] ++ [⟨4, 0, t⟩] : List PAct)).length = m6 at hv6
    subst hv6
    clear hN
    refine wpTail3_last (by kernel_rfl) rfl rfl (fun K hK => ?_)
    go_wp2_with fail
    refine wpTail3_last (by kernel_rfl) rfl rfl (fun K hK => ?_)
    go_wp2_with fail
    refine wpTail3_last (by kernel_rfl) rfl rfl (fun K hK => ?_)
    go_wp2_with fail
    refine wpTail3_nil ?_
    clear hc6 hf6 hb6l hA hT hc5 hf5
    generalize w6.setCell ⟨b, 7, none⟩ (.slice p6 m6 c6) = w7 at h6 ⊢
    generalize Value.slice p6 m6 c6 = v7 at h6 ⊢
    obtain ⟨hc7, hf7⟩ := cells_of h6.ref.cells
    have hb7l := lt_of_heap h6.ref.cells
    go_wp2_with (at_builtin; apply hold)
    delta Hid
    refine wpList_acts rfl _ _ rfl _ _ rfl (h6.row.alloc _) _ 3 3 [⟨5, 0, []⟩, ⟨6, 0, []⟩, ⟨7, 0, []⟩] rfl rfl (by rw [heap_alloc_same]; rfl) (by simp) (fun v8 w8 hr8 hg8 => ?_)
    have h8 := h6.app _ hr8 hg8 rfl
    rw [← HSV.out] at h8
    obtain ⟨hc8, hf8⟩ := cells_of (h6.cellsAt _ hg8)
    have hb8l := lt_of_heap (h6.cellsAt _ hg8)
    obtain ⟨p8, c8, rfl⟩ := hr8.slice
    go_wp2_with fail
    go_ret
    exact ⟨rfl, hend _ _ h8⟩
end Go.Proofs.YtdpfohgkikjeaaaGreat

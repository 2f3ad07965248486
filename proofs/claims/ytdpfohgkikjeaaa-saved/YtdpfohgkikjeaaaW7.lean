/- Part 7 of the proof: see its parts. -/
import Derived.Scope
import Derived.ScopeJumps
import Derived.WalkMore
import Derived.Deep.QuietTactic
import Derived.Test.YtdpfohgkikjeaaaW6
/- Done. -/
namespace Go.Proofs.Ytdpfohgkikjeaaa
set_option linter.unusedVariables false
set_option linter.unusedSimpArgs false
open Go.RowKit
set_option linter.unusedVariables false
set_option linter.unusedSimpArgs false
theorem done_idle {w b d va tfp afp} (h : DocAt w b d va tfp afp) (hk : d.kind = 0) (t : Bool) : Calls Try.prog 31 #[.pointer (some ⟨b, 0, none⟩), .bool t] w fun e w' => e = .returned (.int .i64 6) ∧ w' = w := by
  have hb := busy_any h
  rw [decide_eq_false (by omega : ¬ d.kind ≠ 0)] at hb
  go_enter Try.func31, Try.ntmps31
  go_wp2_with (go_at_call 17; refine hb.mono ?_; rintro e w ⟨rfl, rfl⟩)
  go_ret
  exact ⟨rfl, rfl⟩

set_option maxHeartbeats 1000000 in
theorem done_on {w b d va tfp afp} (h : DocAt w b d va tfp afp) (a a2 : PAct) (r : List PAct) (hk : d.kind ≠ 0) (ha : d.acts = a :: a2 :: r) (hr : r.length ≤ 1000) : Calls Try.prog 31 #[.pointer (some ⟨b, 0, none⟩), .bool true] w fun e w' => e = .returned (.int .i64 0) ∧ DocTo w w' b (tfp ++ afp) { d with acts := a2 :: r } := by
  have hb := busy_any h
  rw [decide_eq_true hk] at hb
  obtain ⟨vi, vk, hb0⟩ := h.cells
  have ok := h.ok
  have hbm := h.tree.mem
  have hT := h.tree
  have hap := h.apart
  rcases h.acts with ⟨_, h0, _⟩ | ⟨g, o, c, hva, hf, hg, hn, hcm, hcell⟩
  · rw [h0] at ha; cases ha
  rw [ha] at hva hcell hn
  have hlen : (a :: a2 :: r).length = r.length + 2 := rfl
  rw [hlen] at hva hn
  subst hva
  simp only [maxLen] at hcm
  have hc1 : ¬ (c = 1) := by omega
  have hi1 : (1 : Int) ≤ ((r.length : Int) + 2) := by omega
  have hi2 : 1 ≤ r.length + 2 := by omega
  obtain ⟨hc0, hf0⟩ := cells_of hb0
  have hgb : g ∉ tfp := hap g (by simp [hf])
  have HAP : Hid (∀ x ∈ afp, x ∉ tfp) := hap
  have HA : Hid (d.acts = a :: a2 :: r) := ha
  clear ha hlen
  go_enter Try.func31, Try.ntmps31
  go_wp2_with fail
  refine hb.mono ?_
  rintro e w1 ⟨rfl, hw⟩
  rw [hw]
  clear hw
  go_wp2
  go_ret
  have hkk : Kept (fun x => x = b) w (w.setCell ⟨b, 13, none⟩ (.slice (some ⟨g, o + 3, none⟩) (r.length + 1) (c - 1))) := Kept.cell1
  refine ⟨rfl, DocIn.doc (w := w) (w1 := w) ⟨⟨.slice (some ⟨g, o + 3, none⟩) (r.length + 1) (c - 1), afp, hT.store hkk (fun vi vk cnt hh => by rw [heap_set_same hh]; simp), ?_, fun x hx => .inl hx⟩, hkk⟩ ⟨⟨ok.text, ok.every1, ok.every2, ok.half, ok.number, ok.sum, ok.len0, ok.len1⟩, ok.counted, ok.kind, by simp [hk]⟩ hbm (Nat.le_refl _) (Kept.refl _ _) hT.lt HAP.out⟩
  refine .inr ⟨g, o + 3, c - 1, rfl, hf, by simpa using hg, by simp only [List.length_cons]; omega, by simp only [maxLen]; omega, fun j u hj => ?_⟩
  have hne : b ≠ g := fun e => hgb (e ▸ hbm)
  rw [World.cell?_of_block (w := w) (hkk.block g hg (fun e => hne e.symm))]
  have := hcell (3 + j) u (by
    have e : actsCells (a :: a2 :: r) = actCells a ++ actsCells (a2 :: r) := rfl
    rw [e, List.getElem?_append_right (by simp [actCells])]
    simpa [actCells] using hj)
  rw [← Nat.add_assoc] at this
  exact this

theorem heap_set3 {W : World} {Hb : Nat} {T : TypeId} {cs : Array Value} {i j k : Nat} {v0 v1 v2 : Value} (h : W.heap[Hb]? = some (.cells cs T (0, 0))) :
    (((W.setCell ⟨Hb, i, none⟩ v0).setCell ⟨Hb, j, none⟩ v1).setCell ⟨Hb, k, none⟩ v2).heap[Hb]? = some (.cells (((cs.setIfInBounds i v0).setIfInBounds j v1).setIfInBounds k v2) T (0, 0)) ∧
    Kept (fun x => x = Hb) W (((W.setCell ⟨Hb, i, none⟩ v0).setCell ⟨Hb, j, none⟩ v1).setCell ⟨Hb, k, none⟩ v2) :=
  ⟨heap_set_same (heap_set_same (heap_set_same h)), (Kept.cell1.step Kept.cell1).step Kept.cell1⟩

set_option maxHeartbeats 1000000 in
theorem done_fail {w b d va tfp afp} (h : DocAt w b d va tfp afp) (hk : d.kind ≠ 0) (hr : d.acts.length ≤ 1000) : Calls Try.prog 31 #[.pointer (some ⟨b, 0, none⟩), .bool false] w fun e w' => e = .returned (.int .i64 0) ∧ DocTo w w' b (tfp ++ afp) d.over := by
  have hb := busy_any h
  rw [decide_eq_true hk] at hb
  obtain ⟨vi, vk, hb0⟩ := h.cells
  have ok := h.ok
  have hbm := h.tree.mem
  have hT := h.tree
  have HAP : Hid (∀ x ∈ afp, x ∉ tfp) := h.apart
  have hne := ok.acts.1 hk
  have fin : ∀ w', TreeR w' b (docRest d.over (.slice none 0 0)) docT d.lines tfp → Kept (fun x => x = b) w w' → DocTo w w' b (tfp ++ afp) d.over := fun w' h1 h2 =>
    DocIn.doc (w := w) (w1 := w) ⟨⟨.slice none 0 0, [], h1, .inl ⟨rfl, rfl, rfl⟩, fun x hx => by cases hx⟩, h2⟩ ⟨⟨ok.text, ok.every1, ok.every2, ok.half, ok.number, ok.sum, ok.len0, ok.len1⟩, ok.counted, Nat.zero_le _, by simp⟩ hbm (Nat.le_refl _) (Kept.refl _ _) hT.lt HAP.out
  rcases h.acts with ⟨_, h0, _⟩ | ⟨g, o, c, hva, hf, hg, hn, hcm, hcell⟩
  · exact absurd h0 hne
  obtain ⟨n, hn0⟩ : ∃ n, d.acts.length = n + 1 := ⟨d.acts.length - 1, by have := List.length_pos_iff.2 hne; omega⟩
  rw [hn0] at hva hn
  subst hva
  simp only [maxLen] at hcm
  have hi1 : (1 : Int) ≤ ((n : Int) + 1) := by omega
  have hi2 : 1 ≤ n + 1 := by omega
  obtain ⟨hc0, hf0⟩ := cells_of hb0
  clear hcell hne
  by_cases hc1 : c = 1
  all_goals
    clear hn0
    go_enter Try.func31, Try.ntmps31
    go_wp2_with fail
    refine hb.mono ?_
    rintro e w1 ⟨rfl, hw⟩
    rw [hw]
    clear hw
    go_wp2
    go_ret
    refine ⟨rfl, fin _ (hT.store ?_ (fun vi vk cnt hh => ?_)) ?_⟩
    · exact (Kept.cell1.step Kept.cell1).step Kept.cell1
    · rw [(heap_set3 hh).1]; simp
    · exact (Kept.cell1.step Kept.cell1).step Kept.cell1

set_option maxHeartbeats 1000000 in
/-- What becomes of a document whose last act was done. -/
theorem done_last {w b d va tfp afp} (h : DocAt w b d va tfp afp) (a : PAct) (hk : d.kind ≠ 0) (ha : d.acts = [a]) : Calls Try.prog 31 #[.pointer (some ⟨b, 0, none⟩), .bool true] w fun e w' => e = .returned (.int .i64 0) ∧ DocTo w w' b (tfp ++ afp) d.succeeded := by
  have hb := busy_any h
  rw [decide_eq_true hk] at hb
  obtain ⟨vi, vk, hb0⟩ := h.cells
  have ok := h.ok
  have hbm := h.tree.mem
  have hT := h.tree
  have HAP : Hid (∀ x ∈ afp, x ∉ tfp) := h.apart
  have hk2 := ok.kind
  rcases h.acts with ⟨_, h0, _⟩ | ⟨g, o, c, hva, hf, hg, hn, hcm, hcell⟩
  · rw [h0] at ha; cases ha
  rw [ha] at hva hn
  have hlen : [a].length = 1 := rfl
  rw [hlen] at hva hn
  subst hva
  simp only [maxLen] at hcm
  obtain ⟨hc0, hf0⟩ := cells_of hb0
  have HA : Hid (d.acts = [a]) := ha
  clear hcell ha hlen
  have fin : ∀ w1 w', DocAt w b d (.slice (some ⟨g, o, none⟩) 1 c) tfp afp → Kept (fun x => x = b) w w1 → TreeR w' b (docRest d.succeeded (.slice none 0 0)) docT d.lines tfp → Kept (fun x => x = b) w1 w' → DocTo w w' b (tfp ++ afp) d.succeeded := fun w1 w' _ hk1 h1 h2 => by
    have hs : d.succeeded.lines = d.lines ∧ d.succeeded.acts = [] ∧ d.succeeded.Ok := by
      unfold DocS.succeeded
      split
      · exact ⟨rfl, rfl, ⟨⟨ok.text, ok.every1, ok.every2, ok.half, ok.number, crc_lt _, by simp only [markOf]; omega, by have := ok.text.length; simp only [markOf, DocS.text]; omega⟩, ok.counted, Nat.zero_le _, by simp⟩⟩
      · refine ⟨rfl, rfl, ⟨⟨ok.text, ok.every1, ok.every2, ?_, fits_next _, ok.sum, ok.len0, ok.len1⟩, ok.counted, Nat.zero_le _, by simp⟩⟩
        show 1 - d.wr.half ≤ 1; omega
    refine DocIn.doc (w := w) (w1 := w) ⟨⟨.slice none 0 0, [], hs.1 ▸ h1, .inl ⟨rfl, hs.2.1, rfl⟩, fun x hx => by cases hx⟩, hk1.step h2⟩ hs.2.2 hbm (Nat.le_refl _) (Kept.refl _ _) hT.lt HAP.out
  have hover : ∀ v', TreeR (((w.setCell ⟨b, 13, none⟩ v').setCell ⟨b, 12, none⟩ (.int .i64 0)).setCell ⟨b, 13, none⟩ (.slice none 0 0)) b (docRest d.over (.slice none 0 0)) docT d.lines tfp ∧ Kept (fun x => x = b) w (((w.setCell ⟨b, 13, none⟩ v').setCell ⟨b, 12, none⟩ (.int .i64 0)).setCell ⟨b, 13, none⟩ (.slice none 0 0)) := fun v' => by
    have k : Kept (fun x => x = b) w (((w.setCell ⟨b, 13, none⟩ v').setCell ⟨b, 12, none⟩ (.int .i64 0)).setCell ⟨b, 13, none⟩ (.slice none 0 0)) := (Kept.cell1.step Kept.cell1).step Kept.cell1
    exact ⟨hT.store k (fun vi vk cnt hh => by rw [(heap_set3 hh).1]; simp), k⟩
  by_cases h2 : d.kind = 2
  · have hsd : d.succeeded = { d.over with file := markOf d.text } := by simp [DocS.succeeded, h2, DocS.text]
    rw [hsd] at fin ⊢
    have hki : (d.kind : Int) = 2 := by omega
    clear h2 hk
    by_cases hc1 : c = 1
    all_goals
      go_enter Try.func31, Try.ntmps31
      go_wp2_with fail
      refine hb.mono ?_
      rintro e w1 ⟨rfl, hw⟩
      rw [hw]
      clear hw
      go_wp2_with fail
      refine (succ_save (hover _).1 ok.toBase).mono ?_
      rintro e w2 ⟨rfl, hT2, hk2'⟩
      go_wp2
      go_ret
      exact ⟨rfl, fin _ _ h (hover _).2 hT2 hk2'⟩
  · have h1 : d.kind = 1 := by omega
    have hsd : d.succeeded = { d.over with wr := d.wr.written, edits := 0 } := by simp [DocS.succeeded, h2]
    rw [hsd] at fin ⊢
    have hki : (d.kind : Int) = 1 := by omega
    clear h2 hk h1
    by_cases hc1 : c = 1
    all_goals
      go_enter Try.func31, Try.ntmps31
      go_wp2_with fail
      refine hb.mono ?_
      rintro e w1 ⟨rfl, hw⟩
      rw [hw]
      clear hw
      go_wp2_with fail
      refine (succ_sync (hover _).1 ok.toBase).mono ?_
      rintro e w2 ⟨rfl, hT2, hk2'⟩
      go_wp2
      go_ret
      exact ⟨rfl, fin _ _ h (hover _).2 hT2 hk2'⟩
end Go.Proofs.Ytdpfohgkikjeaaa
/- Insert, Delete, Replace. -/
namespace Go.Proofs.Ytdpfohgkikjeaaa
set_option linter.unusedVariables false
set_option linter.unusedSimpArgs false
open Go.RowKit
set_option linter.unusedVariables false
set_option linter.unusedSimpArgs false
theorem DocAt.same {w b d va tfp afp} (h : DocAt w b d va tfp afp) : DocTo w w b (tfp ++ afp) d := ⟨⟨_, ⟨_, _, _, h, rfl⟩, fun x hx => .inl hx⟩, Kept.refl _ _⟩

theorem DocS.Ok.edited_ok {d : DocS} (ok : d.Ok) (hk : d.kind = 0) : d.edited.Ok := by
  unfold DocS.edited
  split
  · exact DocS.Base.sync_ok (d := { d with edits := d.edits + 1, counted := d.counted + 1 }) ⟨ok.text, ok.every1, ok.every2, ok.half, ok.number, ok.sum, ok.len0, ok.len1⟩
  · refine ⟨⟨ok.text, ok.every1, ok.every2, ok.half, ok.number, ok.sum, ok.len0, ok.len1⟩, ?_, ok.kind, ok.acts⟩
    have := ok.counted
    show d.counted + 1 < d.every
    omega

theorem DocS.Ok.setLines {d : DocS} (ok : d.Ok) {ls : List Str} (h : TextOk ls) : (d.setLines ls).Ok := ⟨⟨h, ok.every1, ok.every2, ok.half, ok.number, ok.sum, ok.len0, ok.len1⟩, ok.counted, ok.kind, ok.acts⟩

theorem TextOk.insert {ls : List Str} {l : Str} (h : TextOk ls) (p : Nat) (hl : LineOk l) (hn : ls.length < 60) : TextOk (ls.take p ++ l :: ls.drop p) := by
  refine ⟨?_, fun x hx => ?_⟩
  · simp only [List.length_append, List.length_cons, List.length_take, List.length_drop]; omega
  · rcases List.mem_append.1 hx with hx | hx
    · exact h.lines x (List.mem_of_mem_take hx)
    · rcases List.mem_cons.1 hx with rfl | hx
      · exact hl
      · exact h.lines x (List.mem_of_mem_drop hx)
theorem TextOk.delete {ls : List Str} (h : TextOk ls) (p : Nat) : TextOk (ls.take p ++ ls.drop (p + 1)) := by
  refine ⟨?_, fun x hx => ?_⟩
  · have := h.few
    simp only [List.length_append, List.length_take, List.length_drop]; omega
  · rcases List.mem_append.1 hx with hx | hx
    · exact h.lines x (List.mem_of_mem_take hx)
    · exact h.lines x (List.mem_of_mem_drop hx)
theorem TextOk.replace {ls : List Str} {l : Str} (h : TextOk ls) (p : Nat) (hl : LineOk l) (hp : p < ls.length) : TextOk (ls.take p ++ l :: ls.drop (p + 1)) := by
  refine ⟨?_, fun x hx => ?_⟩
  · have := h.few
    simp only [List.length_append, List.length_cons, List.length_take, List.length_drop]; omega
  · rcases List.mem_append.1 hx with hx | hx
    · exact h.lines x (List.mem_of_mem_take hx)
    · rcases List.mem_cons.1 hx with rfl | hx
      · exact hl
      · exact h.lines x (List.mem_of_mem_drop hx)

/-- A tree was turned, then the edit counted. -/
theorem tree_edited {w w1 : World} {b : Nat} {d : DocS} {va : Value} {tfp afp tfp1 : List Nat} {ls : List Str} (h : DocAt w b d va tfp afp) (hk : d.kind = 0) (hT : TreeTo w w1 b (docRest d va) docT tfp ls tfp1) (hok : TextOk ls) (he : d.edits ≤ 1000000000000) :
    Calls Try.prog 22 #[.pointer (some ⟨b, 0, none⟩)] w1 fun e w' => e = .returned (.tuple #[]) ∧ DocTo w w' b (tfp ++ afp) (d.setLines ls).edited := by
  have ok := h.ok.setLines hok
  have hbm := hT.tree.mem
  have hA1 := h.acts.kept hT.kept h.apart
  have hap1 : ∀ x ∈ afp, x ∉ tfp1 := fun x hx hx2 => by
    rcases hT.sub x hx2 with h1 | h1
    · exact h.apart x hx h1
    · have := h.acts.lt x hx; omega
  refine (edited_any (d := d.setLines ls) (va := va) (tfp := tfp1) (afp := afp) hT.tree hA1 (fun hb => hap1 b hb hbm) ok.toBase he ok.counted).mono ?_
  rintro e w' ⟨rfl, hI⟩
  have hl : ((d.setLines ls).edited).lines = ls := by unfold DocS.edited; split <;> rfl
  have hD := DocIn.doc (w := w1) (w1 := w1) hI (ok.edited_ok hk) hbm (Nat.le_refl _) (Kept.refl _ _) hT.tree.lt hap1
  obtain ⟨⟨fp', hD', hs⟩, hk'⟩ := hD
  refine ⟨rfl, ⟨fp', hD', fun x hx => ?_⟩, (hT.kept.mono (fun x hx _ => List.mem_append.2 (.inl hx))).step' hk' (fun x hx hlt => ?_)⟩
  · rcases hs x hx with h1 | h1
    · rcases List.mem_append.1 h1 with h2 | h2
      · exact (hT.sub x h2).imp (fun h => List.mem_append.2 (.inl h)) id
      · exact .inl (List.mem_append.2 (.inr h2))
    · exact .inr (Nat.le_trans hT.kept.size h1)
  · rcases List.mem_append.1 hx with h2 | h2
    · rcases hT.sub x h2 with h3 | h3
      · exact List.mem_append.2 (.inl h3)
      · omega
    · exact List.mem_append.2 (.inr h2)

set_option maxHeartbeats 1000000 in
theorem insert_doc {w b d va tfp afp} (h : DocAt w b d va tfp afp) (at_ : Int) (l : Str) (hl : l.length ≤ 140737488355328) (he : d.edits ≤ 1000000000000) :
    Calls Try.prog 7 #[.pointer (some ⟨b, 0, none⟩), .int .i64 at_, sv l] w fun e w' => e = .returned (.int .i64 ((d.insert at_ l).1 : Int)) ∧ DocTo w w' b (tfp ++ afp) (d.insert at_ l).2 := by
  have hb := busy_any h
  obtain ⟨vi, vk, hb0⟩ := h.cells
  have ok := h.ok
  by_cases hk : d.kind = 0
  rotate_left
  · have hd : d.insert at_ l = (5, d) := by simp [DocS.insert, hk]
    rw [hd]
    rw [decide_eq_true hk] at hb
    have hsame := h.same
    go_enter Try.func7, Try.ntmps7
    go_wp2_with (go_at_call 17; refine hb.mono ?_; rintro e w ⟨rfl, rfl⟩)
    go_ret
    exact ⟨rfl, hsame⟩
  rw [decide_eq_false (by omega : ¬ d.kind ≠ 0)] at hb
  by_cases hat : at_ < 0 ∨ at_ > (d.lines.length : Int)
  · have hd : d.insert at_ l = (1, d) := by simp [DocS.insert, hk, hat]
    rw [hd]
    have hsame := h.same
    by_cases h0 : at_ < 0
    · have h0' : decide (at_ < 0) = true := by simpa using h0
      go_enter Try.func7, Try.ntmps7
      go_wp2_with (go_at_call 17; refine hb.mono ?_; rintro e w ⟨rfl, rfl⟩)
      go_ret
      exact ⟨rfl, hsame⟩
    · have h0' : decide (at_ < 0) = false := by simpa using h0
      have h1 : (d.lines.length : Int) < at_ := by omega
      go_enter Try.func7, Try.ntmps7
      go_wp2_with (first | (go_at_call 17; refine hb.mono ?_; rintro e w ⟨rfl, rfl⟩) | (go_at_call 18; refine (len_any hb0).mono ?_; rintro e w ⟨rfl, rfl⟩))
      go_ret
      exact ⟨rfl, hsame⟩
  have h0' : decide (at_ < 0) = false := by simp; omega
  have h1 : ¬ (d.lines.length : Int) < at_ := by omega
  have hil := fun w => isLine_any l w hl
  by_cases hline : LineOk l
  rotate_left
  · have hd : d.insert at_ l = (3, d) := by unfold DocS.insert; rw [if_neg (by omega), if_neg hat, if_pos hline]
    rw [hd]
    have hsame := h.same
    rw [decide_eq_false hline] at hil
    go_enter Try.func7, Try.ntmps7
    go_wp2_with (first | (go_at_call 17; refine hb.mono ?_; rintro e w ⟨rfl, rfl⟩) | (go_at_call 18; refine (len_any hb0).mono ?_; rintro e w ⟨rfl, rfl⟩) | (go_at_call 19; refine (hil _).mono ?_; rintro e w ⟨rfl, rfl⟩))
    go_ret
    exact ⟨rfl, hsame⟩
  rw [decide_eq_true hline] at hil
  by_cases hfull : d.lines.length = 60
  · have hd : d.insert at_ l = (4, d) := by unfold DocS.insert; rw [if_neg (by omega), if_neg hat, if_neg (fun hh => hh hline), if_pos hfull]
    rw [hd]
    have hsame := h.same
    have hf : ((d.lines.length : Int) == 60) = true := by rw [beq_iff_eq]; omega
    have hf2 : (d.lines.length : Int) = 60 := by omega
    go_enter Try.func7, Try.ntmps7
    go_wp2_with (first | (go_at_call 17; refine hb.mono ?_; rintro e w ⟨rfl, rfl⟩) | (go_at_call 18; refine (len_any hb0).mono ?_; rintro e w ⟨rfl, rfl⟩) | (go_at_call 19; refine (hil _).mono ?_; rintro e w ⟨rfl, rfl⟩))
    go_ret
    exact ⟨rfl, hsame⟩
  · obtain ⟨p, hp⟩ := Int.eq_ofNat_of_zero_le (by omega : 0 ≤ at_)
    subst hp
    have hpl : p ≤ d.lines.length := by omega
    have hfew := ok.text.few
    have hd : d.insert (p : Int) l = (0, (d.setLines (d.lines.take p ++ l :: d.lines.drop p)).edited) := by
      unfold DocS.insert; rw [if_neg (by omega), if_neg hat, if_neg (fun hh => hh hline), if_neg hfull, Int.toNat_natCast]
    rw [hd]
    have hf : ((d.lines.length : Int) == 60) = false := by rw [beq_eq_false_iff_ne]; omega
    have hf2 : ¬ (d.lines.length : Int) = 60 := by omega
    have hput := put_any h.tree p _ rfl hpl (by omega) l hl
    have hed := fun w1 tfp1 (hT : TreeTo w w1 b (docRest d va) docT tfp (d.lines.take p ++ l :: d.lines.drop p) tfp1) => tree_edited h hk hT (ok.text.insert p hline (by omega)) he
    clear hat h0' hd hk hline hfull
    have h0' : decide ((p : Int) < 0) = false := by simp
    go_enter Try.func7, Try.ntmps7
    go_wp2_with fail
    refine hb.mono ?_
    rintro e w1 ⟨rfl, hw⟩
    rw [hw]
    clear hw
    go_wp2_with fail
    refine (len_any hb0).mono ?_
    rintro e w1 ⟨rfl, hw⟩
    rw [hw]
    clear hw
    go_wp2_with fail
    refine (hil _).mono ?_
    rintro e w1 ⟨rfl, hw⟩
    rw [hw]
    clear hw
    go_wp2_with fail
    refine (len_any hb0).mono ?_
    rintro e w1 ⟨rfl, hw⟩
    rw [hw]
    clear hw
    go_wp2_with fail
    refine hput.mono ?_
    rintro e w1 ⟨rfl, tfp1, hT⟩
    go_wp2_with fail
    refine (hed _ _ hT).mono ?_
    rintro e w2 ⟨rfl, hD⟩
    go_wp2
    go_ret
    exact ⟨rfl, hD⟩

end Go.Proofs.Ytdpfohgkikjeaaa
/- Replace, Line. -/
namespace Go.Proofs.Ytdpfohgkikjeaaa
set_option linter.unusedVariables false
set_option linter.unusedSimpArgs false
open Go.RowKit
set_option linter.unusedVariables false
set_option linter.unusedSimpArgs false
theorem set_split {ls : List Str} {p : Nat} (l : Str) (h : p < ls.length) : ls.set p l = ls.take p ++ l :: ls.drop (p + 1) := by
  rw [List.set_eq_take_append_cons_drop, if_pos h]

set_option maxRecDepth 100000 in
set_option maxHeartbeats 1000000 in
theorem replace_doc {w b d va tfp afp} (h : DocAt w b d va tfp afp) (at_ : Int) (l : Str) (hl : l.length ≤ 140737488355328) (he : d.edits ≤ 1000000000000) :
    Calls Try.prog 5 #[.pointer (some ⟨b, 0, none⟩), .int .i64 at_, sv l] w fun e w' => e = .returned (.int .i64 ((d.replace at_ l).1 : Int)) ∧ DocTo w w' b (tfp ++ afp) (d.replace at_ l).2 := by
  have hb := busy_any h
  obtain ⟨vi, vk, hb0⟩ := h.cells
  have ok := h.ok
  by_cases hk : d.kind = 0
  rotate_left
  · have hd : d.replace at_ l = (5, d) := by simp [DocS.replace, hk]
    rw [hd]
    rw [decide_eq_true hk] at hb
    have hsame := h.same
    go_enter Try.func5, Try.ntmps5
    go_wp2_with (go_at_call 17; refine hb.mono ?_; rintro e w ⟨rfl, rfl⟩)
    go_ret
    exact ⟨rfl, hsame⟩
  rw [decide_eq_false (by omega : ¬ d.kind ≠ 0)] at hb
  by_cases hat : at_ < 0 ∨ at_ ≥ (d.lines.length : Int)
  · have hd : d.replace at_ l = (1, d) := by unfold DocS.replace; rw [if_neg (by omega), if_pos hat]
    rw [hd]
    have hsame := h.same
    by_cases h0 : at_ < 0
    · have h0' : decide (at_ < 0) = true := by simpa using h0
      go_enter Try.func5, Try.ntmps5
      go_wp2_with (go_at_call 17; refine hb.mono ?_; rintro e w ⟨rfl, rfl⟩)
      go_ret
      exact ⟨rfl, hsame⟩
    · have h0' : decide (at_ < 0) = false := by simpa using h0
      have h1 : (d.lines.length : Int) ≤ at_ := by omega
      go_enter Try.func5, Try.ntmps5
      go_wp2_with (first | (go_at_call 17; refine hb.mono ?_; rintro e w ⟨rfl, rfl⟩) | (go_at_call 18; refine (len_any hb0).mono ?_; rintro e w ⟨rfl, rfl⟩))
      go_ret
      exact ⟨rfl, hsame⟩
  have h0' : decide (at_ < 0) = false := by simp; omega
  have h1 : ¬ (d.lines.length : Int) ≤ at_ := by omega
  have hil := fun w => isLine_any l w hl
  by_cases hline : LineOk l
  rotate_left
  · have hd : d.replace at_ l = (3, d) := by unfold DocS.replace; rw [if_neg (by omega), if_neg hat, if_pos hline]
    rw [hd]
    have hsame := h.same
    rw [decide_eq_false hline] at hil
    go_enter Try.func5, Try.ntmps5
    go_wp2_with (first | (go_at_call 17; refine hb.mono ?_; rintro e w ⟨rfl, rfl⟩) | (go_at_call 18; refine (len_any hb0).mono ?_; rintro e w ⟨rfl, rfl⟩) | (go_at_call 19; refine (hil _).mono ?_; rintro e w ⟨rfl, rfl⟩))
    go_ret
    exact ⟨rfl, hsame⟩
  rw [decide_eq_true hline] at hil
  obtain ⟨p, hp⟩ := Int.eq_ofNat_of_zero_le (by omega : 0 ≤ at_)
  subst hp
  have hpl : p < d.lines.length := by omega
  have hfew := ok.text.few
  have hd : d.replace (p : Int) l = (0, (d.setLines (d.lines.take p ++ l :: d.lines.drop (p + 1))).edited) := by
    unfold DocS.replace; rw [if_neg (by omega), if_neg hat, if_neg (fun hh => hh hline), Int.toNat_natCast]
  rw [hd]
  have hsz : (⟨l.toArray⟩ : ByteArray).size ≤ 281474976710656 := by rw [size_mk]; omega
  have hed := fun w1 tfp1 (hT : TreeTo w w1 b (docRest d va) docT tfp (d.lines.take p ++ l :: d.lines.drop (p + 1)) tfp1) => tree_edited h hk hT (ok.text.replace p hline hpl) he
  clear hat h0' hd hk hline
  have h0' : decide ((p : Int) < 0) = false := by simp
  have hT0 := h.tree
  go_enter Try.func5, Try.ntmps5
  go_wp2_with fail
  refine hb.mono ?_
  rintro e w1 ⟨rfl, hw⟩
  rw [hw]
  clear hw
  go_wp2_with fail
  refine (len_any hb0).mono ?_
  rintro e w1 ⟨rfl, hw⟩
  rw [hw]
  clear hw
  go_wp2_with fail
  refine (hil _).mono ?_
  rintro e w1 ⟨rfl, hw⟩
  rw [hw]
  clear hw
  go_wp2_with fail
  refine wp_region3 (fun _ => True) [(0, true), (1, true), (2, true), (3, true), (4, true)] [5, 6] (by kernel_rfl) (by kernel_rfl) (fun _ _ d _ _ h => by cases d <;> exact h) trivial ?_
  repeat (refine wpPre3_pure rfl rfl (fun W => (by go_simp; rfl)) ?_; simp only [Act.put, List.setIfInBounds_toArray, List.set])
  refine wpPre3_nil ?_
  refine wpTail3_cons rfl rfl (fun K hK => ?_)
  go_wp2_with fail
  refine (clone_any ⟨l.toArray⟩ _ hsz).mono ?_
  rintro e w1 ⟨rfl, hk1'⟩
  have hk1 : Kept no w w1 := hk1'.of_drew
  refine hK _ _ ⟨fun _ => trivial, ?_⟩
  clear hK
  have hT1 := hT0.kept hk1 (fun _ _ h => h)
  refine wpTail3_cons rfl rfl (fun K hK => ?_)
  go_wp2_with fail
  refine (tset_any hT1 p _ rfl hpl (by omega) l).mono ?_
  rintro e w2 ⟨rfl, fp', hT2, hsub, hk2⟩
  refine hK _ _ ⟨fun _ => trivial, ?_⟩
  clear hK
  refine wpTail3_nil ?_
  rw [set_split l hpl] at hT2
  have hTT : TreeTo w w2 b (docRest d va) docT tfp (d.lines.take p ++ l :: d.lines.drop (p + 1)) fp' := ⟨hT2, fun x hx => (hsub x hx).imp id (fun h => Nat.le_trans hk1.size h), (hk1.mono (fun _ h _ => h.elim)).step hk2⟩
  go_wp2_with fail
  refine (hed _ _ hTT).mono ?_
  rintro e w3 ⟨rfl, hD⟩
  go_wp2
  go_ret
  exact ⟨rfl, hD⟩

end Go.Proofs.Ytdpfohgkikjeaaa
/- cut: the bytes of a text into its lines. -/
namespace Go.Proofs.Ytdpfohgkikjeaaa
set_option linter.unusedVariables false
set_option linter.unusedSimpArgs false
open Go.RowKit
set_option linter.unusedVariables false
set_option linter.unusedSimpArgs false
theorem textOf_prefix {done ls : List Str} {rest : Str} (hd : ∀ l ∈ done, (10 : UInt8) ∉ l) (hl : ∀ l ∈ ls, (10 : UInt8) ∉ l) (h : textOf done ++ rest = textOf ls) : ∃ ls', ls = done ++ ls' ∧ rest = textOf ls' := by
  induction done generalizing ls with
  | nil => exact ⟨ls, rfl, by simpa [textOf_nil] using h⟩
  | cons x done ih =>
    cases ls with
    | nil => rw [textOf_cons, textOf_nil] at h; simp at h
    | cons y ls =>
      rw [textOf_cons, textOf_cons, List.append_assoc, List.cons_append] at h
      obtain ⟨h1, h2⟩ := split_unique h (hd x (by simp)) (hl y (by simp))
      obtain ⟨ls', h3, h4⟩ := ih (fun l hh => hd l (by simp [hh])) (fun l hh => hl l (by simp [hh])) h2
      exact ⟨ls', by rw [h1, h3]; rfl, h4⟩

/-- What is left of a text behind some of its lines. -/
theorem rest_of {s rest : Str} {done : List Str} (hd : ∀ l ∈ done, LineOk l) (h : textOf done ++ rest = s) (hs : IsText s) (hne : rest ≠ []) : ∃ x r, rest = x ++ 10 :: r ∧ LineOk x ∧ done.length < 60 := by
  obtain ⟨ls, hok, hls⟩ := hs
  obtain ⟨ls', h1, h2⟩ := textOf_prefix (fun l hl => (hd l hl).2) (fun l hl => (hok.lines l hl).2) (h.trans hls.symm)
  cases ls' with
  | nil => exact absurd h2 hne
  | cons x r =>
    refine ⟨x, textOf r, by rw [h2, textOf_cons], hok.lines x (by rw [h1]; simp), ?_⟩
    have := hok.few
    rw [h1] at this
    simp at this
    omega

/-- What cut answers. -/
def CutTo (w w' : World) (s : Str) (e : Ending) : Prop :=
  (∃ ls v, TextOk ls ∧ textOf ls = s ∧ e = .returned (.tuple #[v, .bool true]) ∧ Row w' 9 1 v ls.length (ls.map sv) ∧ (∀ x ∈ fpv v, w.heap.size ≤ x)) ∨ (¬ IsText s ∧ e = .returned (.tuple #[.slice none 0 0, .bool false]))

set_option maxHeartbeats 2000000 in
set_option maxRecDepth 100000 in
theorem cut_any (s : Str) (w : World) (hs : s.length ≤ 1099511627776) : Calls Try.prog 35 #[.string ⟨s.toArray⟩] w fun e w' => CutTo w w' s e ∧ Kept no w w' := by
  go_enter Try.func35, Try.ntmps35
  go_wp2
  go_loopw [0, 4] (fun s0 s4 wr => ∃ done rest, s0 = sv rest ∧ textOf done ++ rest = s ∧ (∀ l ∈ done, LineOk l) ∧ done.length ≤ 60 ∧ Row wr 9 1 s4 done.length (done.map sv) ∧ (∀ x ∈ fpv s4, w.heap.size ≤ x) ∧ Kept no w wr) (fun s0 _ _ => match s0 with | .string b => b.size | _ => 0)
  case atStart => exact ⟨[], s, rfl, rfl, by simp, by simp, Row.nilrow _ _, by simp [fpv_nil], Kept.refl _ _⟩
  case round =>
    obtain ⟨done, rest, rfl, hsp, hdl, h60, hrow, hfr, hkw⟩ := hrel
    obtain ⟨p4, c4, rfl⟩ := hrow.slice
    have HSP : Hid (textOf done ++ rest = s) := hsp
    have hrl : rest.length ≤ s.length := by rw [← hsp, List.length_append]; omega
    clear hsp
    by_cases h0 : rest = []
    · subst h0
      go_wp2
      go_ret2
      have := HSP.out
      rw [List.append_nil] at this
      exact ⟨.inl ⟨done, _, ⟨h60, hdl⟩, this, rfl, hrow, hfr⟩, hkw⟩
    · have hb : rest.isEmpty = false := by cases rest with
        | nil => exact absurd rfl h0
        | cons => rfl
      have hcut := cutstr_any ⟨rest.toArray⟩ wr (by rw [size_mk]; omega)
      by_cases hm : (10 : UInt8) ∈ rest
      · have hcut2 := hcut.mono (R' := fun e w1 => ∃ a b', rest = a ++ 10 :: b' ∧ 10 ∉ a ∧ e = .returned (.tuple #[sv a, sv b', .bool true]) ∧ Kept no wr w1) (fun e w1 ⟨hh, j, hw⟩ => by
          rcases hh with ⟨a, b', h1, h2, h3⟩ | ⟨h1, _⟩
          · exact ⟨a, b', h1, h2, h3, by rw [hw]; exact (Kept.refl _ _).drewN j⟩
          · exact absurd hm h1)
        clear hcut
        go_wp2_with fail
        refine hcut2.mono ?_
        rintro e w1 ⟨a, b', hab, hna, rfl, hk1⟩
        have HAB : Hid (rest = a ++ 10 :: b') := hab
        have hal : a.length < rest.length ∧ b'.length < rest.length := by rw [hab]; simp; omega
        clear hab hcut2
        have hrow1 := hrow.kept hk1 (fun _ _ h => h)
        have hkw1 := hkw.step hk1
        have hil := isLine_any a w1 (by omega)
        by_cases hline : LineOk a
        · rw [decide_eq_true hline] at hil
          by_cases hfull : done.length = 60
          · have hf : ((done.length : Int) == 60) = true := by rw [beq_iff_eq]; omega
            have hf2 : (done.length : Int) = 60 := by omega
            have hnot : ¬ IsText s := fun ht => by obtain ⟨_, _, _, _, h⟩ := rest_of hdl HSP.out ht h0; omega
            clear hfull
            go_wp2_with fail
            refine hil.mono ?_
            rintro e w2 ⟨rfl, hw⟩
            rw [hw]
            clear hw
            go_wp2
            go_ret2
            exact ⟨.inr ⟨hnot, rfl⟩, hkw1⟩
          · have hf : ((done.length : Int) == 60) = false := by rw [beq_eq_false_iff_ne]; omega
            have hf2 : ¬ (done.length : Int) = 60 := by omega
            go_wp2_with fail
            refine hil.mono ?_
            rintro e w2 ⟨rfl, hw⟩
            rw [hw]
            clear hw
            go_wp2_with (at_builtin; apply hold)
            delta Hid
            refine wpList_push rfl _ _ 31 rfl tyS _ _ _ rfl (hrow1.alloc _) _ 1 (sv a) rfl (by rw [(cells_of heap_alloc_same).1]; rfl) rfl (by decide) (by omega) (fun v5 w5 hr hg => ?_)
            go_wp2
            go_roundw
            case rel =>
              refine ⟨done ++ [a], b', rfl, ?_, ?_, by simp; omega, ?_, fun x hx => ?_, ?_⟩
              · have := HSP.out
                rw [HAB.out] at this
                rw [← this, textOf_append]
                simp [textOf]
              · intro l hl
                rcases List.mem_append.1 hl with hl | hl
                · exact hdl l hl
                · simp at hl; subst hl; exact hline
              · have e : (done ++ [a]).map sv = done.map sv ++ [sv a] := by simp
                rw [e, List.length_append]
                exact hr
              · rcases hg.2 x hx with h1 | h1
                · exact hfr x h1
                · have := hkw1.size; simp at h1; omega
              · exact (hkw1.step ((Kept.refl _ _).alloc _)).step' hg.1 (fun x hx hlt => by have := hfr x hx; omega)
            case measure =>
              simp only [size_mk]
              omega
        · rw [decide_eq_false hline] at hil
          have hnot : ¬ IsText s := fun ht => by
            obtain ⟨x, r, h1, h2, _⟩ := rest_of hdl HSP.out ht h0
            have := split_unique (HAB.out.symm.trans h1) hna h2.2
            exact hline (this.1 ▸ h2)
          go_wp2_with fail
          refine hil.mono ?_
          rintro e w2 ⟨rfl, hw⟩
          rw [hw]
          clear hw
          go_wp2
          go_ret2
          exact ⟨.inr ⟨hnot, rfl⟩, hkw1⟩
      · have hcut2 := hcut.mono (R' := fun e w1 => e = .returned (.tuple #[.string ⟨rest.toArray⟩, .string ⟨#[]⟩, .bool false]) ∧ Kept no wr w1) (fun e w1 ⟨hh, j, hw⟩ => by
          rcases hh with ⟨a, b', h1, h2, h3⟩ | ⟨_, h1⟩
          · exact absurd (by have h1' : rest = a ++ 10 :: b' := h1; rw [h1']; simp) hm
          · exact ⟨h1, by rw [hw]; exact (Kept.refl _ _).drewN j⟩)
        clear hcut
        have hnot : ¬ IsText s := fun ht => by
          obtain ⟨x, r, h1, _⟩ := rest_of hdl HSP.out ht h0
          exact hm (by rw [h1]; simp)
        go_wp2_with fail
        refine hcut2.mono ?_
        rintro e w1 ⟨rfl, hk1⟩
        go_wp2
        go_ret2
        exact ⟨.inr ⟨hnot, rfl⟩, hkw.step hk1⟩
end Go.Proofs.Ytdpfohgkikjeaaa
/- newDoc, Open. -/
namespace Go.Proofs.Ytdpfohgkikjeaaa
set_option linter.unusedVariables false
set_option linter.unusedSimpArgs false
open Go.RowKit
set_option linter.unusedVariables false
set_option linter.unusedSimpArgs false
/-- A document as newDoc makes it. -/
def DocS.fresh (ls : List Str) (file : Str) (every : Nat) : DocS := ⟨ls, markOf file, every, 0, 0, ⟨false, false, 0, 0⟩, 0, []⟩

set_option maxHeartbeats 2000000 in
set_option maxRecDepth 100000 in
theorem newDoc_any {w : World} {v : Value} {ls : List Str} (hr : Row w 9 1 v ls.length (ls.map sv)) (hok : TextOk ls) (file : Str) (hf : file.length ≤ 1099511627776) (every : Nat) (evI : Int) (hev : evI = (every : Int)) :
    Calls Try.prog 36 #[v, .string ⟨file.toArray⟩, .int .i64 evI] w fun e w' => ∃ b fp, e = .returned (.pointer (some ⟨b, 0, none⟩)) ∧ TreeR w' b (docRest (DocS.fresh ls file every) (.slice none 0 0)) docT ls fp ∧ (∀ x ∈ fp, w.heap.size ≤ x) ∧ Kept no w w' := by
  subst hev
  obtain ⟨pv, cv, rfl⟩ := hr.slice
  have hfew := hok.few
  go_enter Try.func36, Try.ntmps36
  go_wp2_with fail
  refine (markOf_any ⟨file.toArray⟩ _ (by rw [size_mk]; omega)).mono ?_
  rintro e w1 ⟨rfl, hk1⟩
  go_wp2
  obtain ⟨hn2, hsz2, hk2⟩ := new1 w1 (Obj.cells #[.slice none 0 0, .slice none 0 0, .int .i64 0, .int .i64 (file.length : Int), .int .u32 (crc file : Int), .int .i64 (every : Int), .int .i64 0, .int .i64 0, .bool false, .bool false, .int .i64 0, .int .u64 0, .int .i64 0, .slice none 0 0] docT)
  have hs1 := hk1.size
  generalize hB : w1.heap.size = B at hn2 hsz2 hs1 ⊢
  generalize w1.alloc (Obj.cells #[.slice none 0 0, .slice none 0 0, .int .i64 0, .int .i64 (file.length : Int), .int .u32 (crc file : Int), .int .i64 (every : Int), .int .i64 0, .int .i64 0, .bool false, .bool false, .int .i64 0, .int .u64 0, .int .i64 0, .slice none 0 0] docT) = w2 at hn2 hsz2 hk2 ⊢
  have hk02 : Kept no w w2 := hk1.step hk2
  have hT2 : TreeR w2 B (docRest (DocS.fresh ls file every) (.slice none 0 0)) docT [] [B] := by
    refine ⟨0, 0, ⟨.slice none 0 0, ?_, Row.nilrow _ _, rfl, by simp⟩, fun h => absurd rfl h, by decide⟩
    rw [hn2]
    rfl
  go_loopw [17] (fun i wr => ∃ j fp, j ≤ ls.length ∧ i = .int .i64 ((j : Nat) : Int) ∧ TreeR wr B (docRest (DocS.fresh ls file every) (.slice none 0 0)) docT (ls.take j) fp ∧ (∀ x ∈ fp, w.heap.size ≤ x) ∧ Kept no w wr) (fun i _ => ls.length - (intOf i).toNat)
  case atStart => exact ⟨0, [B], Nat.zero_le _, rfl, hT2, fun x hx => by simp at hx; omega, hk02⟩
  case round =>
    obtain ⟨j, fp, hj, rfl, hT, hfp, hkw⟩ := hrel
    by_cases hlt : j < ls.length
    · have hrr := hr.kept hkw (fun _ _ h => h)
      rcases hrr.shape with ⟨_, h1, _⟩ | ⟨g, c', hv, _, _⟩
      · omega
      simp only [Value.slice.injEq, true_and] at hv
      obtain ⟨rfl, rfl⟩ := hv
      obtain ⟨_, _, _, hcell⟩ := hrr.cell
      have hcj := hcell j (sv ls[j]) (by simp [hlt])
      clear hcell
      have hlj := hok.lines ls[j] (List.getElem_mem hlt)
      have htk : Hid (ls.take (j + 1) = ls.take j ++ [ls[j]]) := List.take_succ_eq_append_getElem hlt
      have hlen : (ls.take j).length = j := by rw [List.length_take]; omega
      obtain ⟨vi, vk, hb⟩ := hT.count
      rw [hlen] at hb
      have hput := put_any hT j ((j : Nat) : Int) rfl (by omega) (by omega) ls[j] (by have := hlj.1; omega)
      rw [List.take_of_length_le (by omega : (ls.take j).length ≤ j), List.drop_eq_nil_of_le (by omega : (ls.take j).length ≤ j)] at hput
      generalize ls[j] = x at hcj htk hput hlj
      clear hlen
      go_wp2_with fail
      refine (len_any hb).mono ?_
      rintro e w3 ⟨rfl, hw⟩
      rw [hw]
      clear hw
      go_wp2_with fail
      refine hput.mono ?_
      rintro e w3 ⟨rfl, fp', hT3, hsub, hk3⟩
      go_wp2
      go_roundw
      case rel =>
        refine ⟨j + 1, fp', hlt, by go_num, by rw [htk.out]; exact hT3, fun y hy => ?_, hkw.step' hk3 (fun y hy hlt => by have := hfp y hy; omega)⟩
        rcases hsub y hy with h1 | h1
        · exact hfp y h1
        · exact Nat.le_trans hkw.size h1
      case measure => simp [intOf]; omega
    · have htk : ls.take j = ls := List.take_of_length_le (by omega)
      rw [htk] at hT
      clear htk
      go_wp2
      go_ret
      exact ⟨B, fp, rfl, hT, hfp, hkw⟩

/-- What Open answers. -/
theorem open_arg (file : Str) (n : Int) (w : World) (h : n < 1 ∨ 20 < n) : Calls Try.prog 15 #[.string ⟨file.toArray⟩, .int .i64 n] w fun e w' => e = .returned (.tuple #[.pointer none, .int .i64 1]) ∧ w' = w := by
  by_cases h1 : n < 1
  · have hd : decide (n < 1) = true := by simpa using h1
    clear h
    go_enter Try.func15, Try.ntmps15
    go_wp2
    go_ret2
    exact ⟨rfl, rfl⟩
  · have hd : decide (n < 1) = false := by simpa using h1
    have h2 : 20 < n := by omega
    clear h
    go_enter Try.func15, Try.ntmps15
    go_wp2
    go_ret2
    exact ⟨rfl, rfl⟩

theorem open_text (file : Str) (hf : file.length ≤ 1099511627776) (n : Int) (w : World) (h1 : 1 ≤ n) (h2 : n ≤ 20) (hn : ¬ IsText file) : Calls Try.prog 15 #[.string ⟨file.toArray⟩, .int .i64 n] w fun e w' => e = .returned (.tuple #[.pointer none, .int .i64 2]) ∧ Kept no w w' := by
  have hd : decide (n < 1) = false := by simp; omega
  have hd2 : decide (20 < n) = false := by simp; omega
  have hcut := (cut_any file w hf).mono (R' := fun e w' => e = .returned (.tuple #[.slice none 0 0, .bool false]) ∧ Kept no w w') (fun e w' ⟨hh, hk⟩ => by
    rcases hh with ⟨ls, v, hok, hls, _⟩ | ⟨_, he⟩
    · exact absurd ⟨ls, hok, hls⟩ hn
    · exact ⟨he, hk⟩)
  go_enter Try.func15, Try.ntmps15
  go_wp2_with fail
  refine hcut.mono ?_
  rintro e w1 ⟨rfl, hk⟩
  go_wp2
  go_ret2
  exact ⟨rfl, hk⟩

set_option maxHeartbeats 1000000 in
theorem open_yes (ls : List Str) (hok : TextOk ls) (n : Nat) (nI : Int) (hnI : nI = (n : Int)) (w : World) (h1 : 1 ≤ n) (h2 : n ≤ 20) : Calls Try.prog 15 #[.string ⟨(textOf ls).toArray⟩, .int .i64 nI] w fun e w' => ∃ b fp, e = .returned (.tuple #[.pointer (some ⟨b, 0, none⟩), .int .i64 0]) ∧ DocR w' b (DocS.fresh ls (textOf ls) n).beginSync fp ∧ (∀ x ∈ fp, w.heap.size ≤ x) ∧ Kept no w w' := by
  subst hnI
  have hd : decide ((n : Int) < 1) = false := by simp; omega
  have hd2 : decide (20 < (n : Int)) = false := by simp; omega
  have hlen := hok.length
  have hcut := (cut_any (textOf ls) w (by omega)).mono (R' := fun e w' => ∃ v, e = .returned (.tuple #[v, .bool true]) ∧ Row w' 9 1 v ls.length (ls.map sv) ∧ Kept no w w') (fun e w' ⟨hh, hk⟩ => by
    rcases hh with ⟨ls', v, hok', hls, he, hr, _⟩ | ⟨hno, _⟩
    · have e1 : ls' = ls := textOf_inj (fun l hl => (hok'.lines l hl).2) (fun l hl => (hok.lines l hl).2) hls
      subst e1
      exact ⟨v, he, hr, hk⟩
    · exact absurd ⟨ls, hok, rfl⟩ hno)
  generalize textOf ls = file at hcut hlen ⊢
  go_enter Try.func15, Try.ntmps15
  go_wp2_with fail
  refine hcut.mono ?_
  rintro e w1 ⟨v, rfl, hr, hk1⟩
  go_wp2_with fail
  refine (newDoc_any hr hok file (by omega) n _ rfl).mono ?_
  rintro e w2 ⟨b, fp, rfl, hT, hfp, hk2⟩
  have hbase : (DocS.fresh ls file n).Base := ⟨hok, h1, h2, by show 0 ≤ 1; omega, by show 0 < 18446744073709551616; omega, crc_lt _, by simp only [DocS.fresh, markOf]; omega, by simp only [DocS.fresh, markOf]; omega⟩
  go_wp2_with fail
  refine (beginSync_any (d := DocS.fresh ls file n) hT hbase).mono ?_
  rintro e w3 ⟨rfl, v3, afp, hT3, hA3, hf3, hk3⟩
  go_wp2
  go_ret2
  have hs1 := hk1.size
  have hs2 := hk2.size
  refine ⟨b, fp ++ afp, rfl, ⟨v3, fp, afp, ⟨hT3, hA3, fun x hx hx2 => ?_, hbase.sync_ok⟩, rfl⟩, fun x hx => ?_, ?_⟩
  · have := hf3 x hx; have := hT.lt x hx2; omega
  · rcases List.mem_append.1 hx with hx | hx
    · have := hfp x hx; omega
    · have := hf3 x hx; omega
  · exact (hk1.step hk2).step' hk3 (fun x hx hlt => by have := hfp x (hx ▸ hT.mem); omega)
end Go.Proofs.Ytdpfohgkikjeaaa
/- readBody. -/
namespace Go.Proofs.Ytdpfohgkikjeaaa
set_option linter.unusedVariables false
set_option linter.unusedSimpArgs false
open Go.RowKit
set_option linter.unusedVariables false
set_option linter.unusedSimpArgs false
/-- Sectors as an image. -/
def imgOf (secs : List Str) : Img := fun i => (secs[i]?).getD []

theorem flat_body (secs : List Str) (h : Nat) (hl : secs.length = 400) (hh : h ≤ 1) : ((secs.drop (40 * h + 1)).take 39).flatten = bodyOf (imgOf secs) h := by
  unfold bodyOf
  congr 1
  refine List.ext_getElem (by simp; omega) (fun i h1 h2 => ?_)
  simp at h2
  simp [imgOf]
  rw [List.getElem?_eq_getElem (by omega)]
  rfl

/-- What readBody answers. -/
def bodyTo (img : Img) (h : Nat) (m : Mark) : Str × Bool :=
  if m.len < 0 ∨ ((bodyOf img h).length : Int) < m.len then ([], false) else ((bodyOf img h).take m.len.toNat, decide (crc ((bodyOf img h).take m.len.toNat) = m.sum))

theorem StrsAt.drop {w : World} {b o : Nat} {l : List Str} (h : StrsAt w b o l) (k : Nat) : StrsAt w b (o + k) (l.drop k) := fun j s hs => by
  rw [List.getElem?_drop] at hs
  have := h (k + j) s hs
  rwa [← Nat.add_assoc] at this
theorem StrsAt.take {w : World} {b o : Nat} {l : List Str} (h : StrsAt w b o l) (k : Nat) : StrsAt w b o (l.take k) := fun j s hs => by
  rw [List.getElem?_take] at hs
  split at hs
  · exact h j s hs
  · cases hs

theorem flatten_length {l : List Str} {n : Nat} (h : ∀ s ∈ l, s.length = n) : l.flatten.length = n * l.length := by
  induction l with
  | nil => rfl
  | cons a l ih => simp [h a (by simp), ih (fun s hs => h s (by simp [hs])), Nat.mul_add]; omega

end Go.Proofs.Ytdpfohgkikjeaaa
/- A scope with several labels; isText; Find. -/
namespace Go.Proofs.Ytdpfohgkikjeaaa
set_option linter.unusedVariables false
set_option linter.unusedSimpArgs false
open Go.RowKit
set_option linter.unusedVariables false
set_option linter.unusedSimpArgs false
/-- As Q; by a goto to a label: what is asked there. -/
def jumpsTo (J : Nat → Act → World → Prop) (Q : Exit → Act → World → Prop) : Exit → Act → World → Prop
  | .goto l, a, w => J l a w
  | e, a, w => Q e a w

section
variable {P : Program} {a : Act} {w : World} {Q : Exit → Act → World → Prop}
theorem wp_scope_all {c : Code} (J : Nat → Act → World → Prop) (μ : Nat → Act → Nat)
    (first : c.wp P (jumpsTo J Q) a w)
    (pass : ∀ l a w, J l a w → ∃ rest, findLabel c l = some rest ∧ rest.wp P (jumpsTo (fun l' a' w' => J l' a' w' ∧ μ l' a' < μ l a) Q) a w) : (Code.scope c).wp P Q a w := by
  intro b k cs
  have key : ∀ n l a w, μ l a = n → J l a w → ∃ rest, findLabel c l = some rest ∧ ∃ e a' w', Q e a' w' ∧ Arrives P (lone (b.at a (.code rest :: .inScope c :: k)) cs w) b k cs e a' w' := by
    intro n
    induction n using Nat.strongRecOn with
    | _ n ih =>
      intro l a w hn hJ
      obtain ⟨rest, hf, hrest⟩ := pass l a w hJ
      refine ⟨rest, hf, ?_⟩
      obtain ⟨e, a₁, w₁, hq, harr⟩ := hrest b (.inScope c :: k) cs
      cases e with
      | normal => exact ⟨.normal, a₁, w₁, hq, Steps.trans harr (.one step_inScope)⟩
      | exit id => exact ⟨.exit id, a₁, w₁, hq, fun k' hk => harr k' (by simp [exitTo, hk])⟩
      | goto l' =>
        obtain ⟨hJ', hlt⟩ := hq
        obtain ⟨rest', hf', e₂, a₂, w₂, hq₂, harr₂⟩ := ih _ (by omega) l' a₁ w₁ rfl hJ'
        have hg : gotoIn l' (.inScope c :: k) = some (.code rest' :: .inScope c :: k) := by simp [gotoIn, hf']
        exact ⟨e₂, a₂, w₂, hq₂, .of_steps (harr _ hg) harr₂⟩
      | ret => exact ⟨_, a₁, w₁, hq, harr⟩
      | panic ch => exact ⟨_, a₁, w₁, hq, harr⟩
      | outgrown => exact ⟨_, a₁, w₁, hq, harr⟩
  obtain ⟨e, a₁, w₁, hq, harr⟩ := first b (.inScope c :: k) cs
  cases e with
  | normal => exact ⟨.normal, a₁, w₁, hq, .head step_scope (Steps.trans harr (.one step_inScope))⟩
  | exit id => exact ⟨.exit id, a₁, w₁, hq, fun k' hk => .head step_scope (harr k' (by simp [exitTo, hk]))⟩
  | goto l' =>
    obtain ⟨rest', hf', e₂, a₂, w₂, hq₂, harr₂⟩ := key _ l' a₁ w₁ rfl hq
    have hg : gotoIn l' (.inScope c :: k) = some (.code rest' :: .inScope c :: k) := by simp [gotoIn, hf']
    exact ⟨e₂, a₂, w₂, hq₂, .of_steps (.head step_scope (harr _ hg)) harr₂⟩
  | ret => exact ⟨_, a₁, w₁, hq, .of_steps (.one step_scope) harr⟩
  | panic ch => exact ⟨_, a₁, w₁, hq, .of_steps (.one step_scope) harr⟩
  | outgrown => exact ⟨_, a₁, w₁, hq, .of_steps (.one step_scope) harr⟩
end
end Go.Proofs.Ytdpfohgkikjeaaa
/- Find: the walk. -/
namespace Go.Proofs.Ytdpfohgkikjeaaa
set_option linter.unusedVariables false
set_option linter.unusedSimpArgs false
open Go.RowKit
set_option linter.unusedVariables false
set_option linter.unusedSimpArgs false
/-- The cells of what Find answers. -/
def foundCells (hd : Head) (h : Nat) (t : Str) : List Value := [sv t, .int .i64 hd.file.len, .int .u32 (hd.file.sum : Int), .bool true, .bool true, .int .i64 (h : Int), .int .u64 (hd.number : Int)]
def foundVal (hd : Head) (h : Nat) (t : Str) : Value := .agg #[sv t, .int .i64 hd.file.len, .int .u32 (hd.file.sum : Int), .bool true, .bool true, .int .i64 (h : Int), .int .u64 (hd.number : Int)]

/-- No text is read of a half. -/
def NoText (img : Img) (h : Nat) : Prop := ∀ hd t, ¬ ReadsHalf img h hd t

def findMu (l : Nat) (a : Act) : Nat := if l = 1 then 2 else if intOf (a.tmps.getD 9 undef) = intOf (a.tmps.getD 10 undef) then 1 else 3

/-- A body that was read, and is a text. -/
theorem reads_of {img : Img} {h : Nat} {hd : Head} {t : Str} (h1 : readHead (img (40 * h)) = some hd) (h2 : bodyTo img h hd.text = (t, true)) (h3 : IsText t) : ReadsHalf img h hd t := by
  unfold bodyTo at h2
  split at h2
  · cases h2
  · rename_i hn
    simp only [Prod.mk.injEq, decide_eq_true_iff] at h2
    exact ⟨h1, by omega, by omega, h2.1.symm, by rw [← h2.1]; exact h2.2, h3⟩
theorem noText_head {img : Img} {h : Nat} (h1 : readHead (img (40 * h)) = none) : NoText img h := fun hd t r => by
  have := r.head; rw [h1] at this; cases this
theorem noText_body {img : Img} {h : Nat} {hd : Head} {t : Str} (h1 : readHead (img (40 * h)) = some hd) (h2 : bodyTo img h hd.text = (t, false)) : NoText img h := fun hd' t' r => by
  obtain rfl : hd = hd' := Option.some.inj (h1.symm.trans r.head)
  unfold bodyTo at h2
  rw [if_neg (by have := r.len0; have := r.len1; omega)] at h2
  simp only [Prod.mk.injEq, decide_eq_false_iff_not] at h2
  have e := r.text
  rw [h2.1] at e
  exact h2.2 (by rw [h2.1, ← e]; exact r.sum)
theorem noText_fits {img : Img} {h : Nat} {hd : Head} {t : Str} {ok : Bool} (h1 : readHead (img (40 * h)) = some hd) (h2 : bodyTo img h hd.text = (t, ok)) (h3 : ¬ IsText t) : NoText img h := fun hd' t' r => by
  obtain rfl : hd = hd' := Option.some.inj (h1.symm.trans r.head)
  unfold bodyTo at h2
  rw [if_neg (by have := r.len0; have := r.len1; omega)] at h2
  simp only [Prod.mk.injEq] at h2
  have e := r.text
  rw [h2.1] at e
  exact h3 (e ▸ r.fits)
theorem bodyTo_length {img : Img} {h : Nat} {m : Mark} {t : Str} {ok : Bool} (h2 : bodyTo img h m = (t, ok)) (hl : (bodyOf img h).length ≤ 2496) : t.length ≤ 2496 := by
  unfold bodyTo at h2
  split at h2
  · cases h2; simp
  · simp only [Prod.mk.injEq] at h2
    rw [← h2.1, List.length_take]; omega

theorem jumpsTo_ret {J : Nat → Act → World → Prop} {Q : Exit → Act → World → Prop} {a : Act} {w : World} (h : Q .ret a w) : jumpsTo J Q .ret a w := h

theorem found_stored {W : World} {Hb : Nat} {T : TypeId} {c0 c1 c2 c3 c4 c5 c6 v0 v1 v2 v3 v4 v5 v6 : Value} (h : W.heap[Hb]? = some (.cells #[c0, c1, c2, c3, c4, c5, c6] T (0, 0))) :
    (((((((W.setCell ⟨Hb, 0, none⟩ v0).setCell ⟨Hb, 1, none⟩ v1).setCell ⟨Hb, 2, none⟩ v2).setCell ⟨Hb, 3, none⟩ v3).setCell ⟨Hb, 4, none⟩ v4).setCell ⟨Hb, 5, none⟩ v5).setCell ⟨Hb, 6, none⟩ v6).heap[Hb]? = some (.cells #[v0, v1, v2, v3, v4, v5, v6] T (0, 0)) ∧
    Kept (fun x => x = Hb) W (((((((W.setCell ⟨Hb, 0, none⟩ v0).setCell ⟨Hb, 1, none⟩ v1).setCell ⟨Hb, 2, none⟩ v2).setCell ⟨Hb, 3, none⟩ v3).setCell ⟨Hb, 4, none⟩ v4).setCell ⟨Hb, 5, none⟩ v5).setCell ⟨Hb, 6, none⟩ v6) := by
  have e1 := heap_set_same (o := 0) (v := v0) h
  have e2 := heap_set_same (o := 1) (v := v1) e1
  have e3 := heap_set_same (o := 2) (v := v2) e2
  have e4 := heap_set_same (o := 3) (v := v3) e3
  have e5 := heap_set_same (o := 4) (v := v4) e4
  have e6 := heap_set_same (o := 5) (v := v5) e5
  have e7 := heap_set_same (o := 6) (v := v6) e6
  exact ⟨by rw [e7]; simp, (((((Kept.cell1.step Kept.cell1).step Kept.cell1).step Kept.cell1).step Kept.cell1).step Kept.cell1).step Kept.cell1⟩

end Go.Proofs.Ytdpfohgkikjeaaa
/- readBack. -/
namespace Go.Proofs.Ytdpfohgkikjeaaa
set_option linter.unusedVariables false
set_option linter.unusedSimpArgs false
open Go.RowKit
set_option linter.unusedVariables false
set_option linter.unusedSimpArgs false
theorem mark_ext {a b : Mark} (h1 : a.len = b.len) (h2 : a.sum = b.sum) : a = b := by
  cases a; cases b
  cases h1; cases h2; rfl

/-- A document as it is read back. -/
def DocS.readBack (ls : List Str) (file : Str) (every h num : Nat) : DocS := { DocS.fresh ls file every with wr := ⟨true, true, h, num⟩ }

end Go.Proofs.Ytdpfohgkikjeaaa
/- readBack of nothing; Recover. -/
namespace Go.Proofs.Ytdpfohgkikjeaaa
set_option linter.unusedVariables false
set_option linter.unusedSimpArgs false
open Go.RowKit
set_option linter.unusedVariables false
set_option linter.unusedSimpArgs false
theorem readHead_num {s : Str} {hd : Head} (h : readHead s = some hd) : hd.number < 18446744073709551616 := by
  unfold readHead at h
  split at h
  · cases h
    have h2 := unle_lt' (l := (s.drop 8).take 8) (n := 8) (by rw [List.length_take]; omega)
    exact Nat.lt_of_lt_of_le h2 (by decide)
  · cases h

end Go.Proofs.Ytdpfohgkikjeaaa
/- A disk in memory; Of. -/
namespace Go.Proofs.Ytdpfohgkikjeaaa
set_option linter.unusedVariables false
set_option linter.unusedSimpArgs false
open Go.RowKit
set_option linter.unusedVariables false
set_option linter.unusedSimpArgs false
abbrev diskT : TypeId := 28
abbrev rowT : TypeId := 31
theorem tyRow : SliceTy Try.prog 26 31 1 24 := SliceTy.mk' (z := .slice none 0 0) (by kernel_rfl) (by kernel_rfl) rfl (by decide)

/-- A sector: all that it may be, in a row that is only read. -/
def SecAt (w : World) (v : Value) (l : List Str) (bl : List Nat) : Prop := ∃ g o c, v = .slice (some ⟨g, o, none⟩) l.length c ∧ g ∈ bl ∧ l.length ≤ c ∧ c ≤ maxLen ∧ StrsAt w g o l

theorem SecAt.kept {S : Blocks} {w w' : World} {v l bl} (h : SecAt w v l bl) (k : Kept S w w') (hl : ∀ x ∈ bl, x < w.heap.size) (hn : ∀ x ∈ bl, ¬ S x) : SecAt w' v l bl := by
  obtain ⟨g, o, c, hv, hg, h1, h2, hc⟩ := h
  refine ⟨g, o, c, hv, hg, h1, h2, fun j s hs => ?_⟩
  rw [World.cell?_of_block (w := w) (k.block g (hl g hg) (hn g hg))]
  exact hc j s hs

theorem SecAt.mono {w : World} {v l bl bl'} (h : SecAt w v l bl) (hs : ∀ x ∈ bl, x ∈ bl') : SecAt w v l bl' := by
  obtain ⟨g, o, c, hv, hg, hr⟩ := h
  exact ⟨g, o, c, hv, hs g hg, hr⟩

abbrev diskCells (d : DiskS) (vs : Value) : Array Value := #[vs, sv d.file, sv d.before, .bool d.renamed, .int .i64 (d.safe : Int), sv d.new, .int .i64 (d.newSafe : Int)]

structure DiskAt (w : World) (b : Nat) (d : DiskS) (vs : Value) (vals : List Value) (bl : List Nat) : Prop where
  cells : w.heap[b]? = some (.cells (diskCells d vs) diskT (0, 0))
  row : Row w rowT 1 vs vals.length vals
  len : vals.length = d.sw.length
  secs : ∀ (i : Nat) (v : Value) (l : List Str), vals[i]? = some v → d.sw[i]? = some l → SecAt w v l bl
  low : ∀ x ∈ bl, x < w.heap.size
  b_vs : b ∉ fpv vs
  b_bl : b ∉ bl
  vs_bl : ∀ x ∈ fpv vs, x ∉ bl

/-- The disk d lies at b; its blocks are fp. -/
def DiskR (w : World) (b : Nat) (d : DiskS) (fp : List Nat) : Prop := ∃ vs vals bl, DiskAt w b d vs vals bl ∧ fp = b :: (fpv vs ++ bl)

theorem DiskAt.kept {S : Blocks} {w w' : World} {b d vs vals bl} (h : DiskAt w b d vs vals bl) (k : Kept S w w') (hn : ∀ x ∈ b :: (fpv vs ++ bl), ¬ S x) : DiskAt w' b d vs vals bl := by
  have hb : ∀ x ∈ bl, ¬ S x := fun x hx => hn x (by simp [hx])
  exact ⟨k.get h.cells (hn b (by simp)), h.row.kept k (fun x hx => hn x (by simp [hx])), h.len, fun i v l hv hl => (h.secs i v l hv hl).kept k h.low hb, fun x hx => Nat.lt_of_lt_of_le (h.low x hx) k.size, h.b_vs, h.b_bl, h.vs_bl⟩

theorem DiskR.kept {S : Blocks} {w w' : World} {b d fp} (h : DiskR w b d fp) (k : Kept S w w') (hn : ∀ x ∈ fp, ¬ S x) : DiskR w' b d fp := by
  obtain ⟨vs, vals, bl, h, rfl⟩ := h
  exact ⟨vs, vals, bl, h.kept k hn, rfl⟩

theorem DiskR.lt {w : World} {b d fp} (h : DiskR w b d fp) : ∀ x ∈ fp, x < w.heap.size := fun x hx => by
  obtain ⟨vs, vals, bl, h, rfl⟩ := h
  simp only [List.mem_cons, List.mem_append] at hx
  rcases hx with rfl | hx | hx
  · exact lt_of_heap h.cells
  · exact h.row.lt x hx
  · exact h.low x hx

theorem DiskR.mem {w : World} {b d fp} (h : DiskR w b d fp) : b ∈ fp := by
  obtain ⟨vs, vals, bl, h, rfl⟩ := h
  simp

/-- What a call leaves of a disk. -/
structure DiskTo (w w' : World) (b : Nat) (fp : List Nat) (d' : DiskS) : Prop where
  ex : ∃ fp', DiskR w' b d' fp' ∧ ∀ x ∈ fp', x ∈ fp ∨ w.heap.size ≤ x
  kept : Kept (fun x => x ∈ fp) w w'

theorem strs_one {w : World} {g : Nat} {s : Str} {T : TypeId} {f : Nat × Nat} (h : w.heap[g]? = some (.cells #[sv s] T f)) : StrsAt w g 0 [s] := fun j x hx => by
  rw [cells_of' h]
  match j, hx with
  | 0, hx => simp at hx; subst hx; rfl

/-- One sector more. -/
theorem DiskAt.push {w w1 w2 : World} {b : Nat} {d d' : DiskS} {vs vs' : Value} {vals : List Value} {bl : List Nat} {g : Nat} {s : Str} (h : DiskAt w b d vs vals bl)
    (hg : w1.heap[g]? = some (.cells #[sv s] 9 (0, 0))) (hgn : w.heap.size ≤ g) (hk1 : Kept no w w1)
    (hr : Row w2 rowT 1 vs' (vals.length + 1) (vals ++ [.slice (some ⟨g, 0, none⟩) 1 1])) (hG : Grew w1 w2 vs vs')
    (hsw : d'.sw = d.sw ++ [[s]]) (he : d' = { d with sw := d'.sw }) : DiskAt (w2.setCell ⟨b, 0, none⟩ vs') b d' vs' (vals ++ [.slice (some ⟨g, 0, none⟩) 1 1]) (g :: bl) := by
  have hs1 := hk1.size
  have hs2 := hG.1.size
  have hbl : b < w.heap.size := lt_of_heap h.cells
  have hvl := h.row.lt
  have hbvs' : b ∉ fpv vs' := fun hx => by
    rcases hG.2 b hx with hx | hx
    · exact h.b_vs hx
    · omega
  have hg1 : g < w1.heap.size := lt_of_heap hg
  have hgv : g ∉ fpv vs := fun hx => by have := hvl g hx; omega
  have hgb : g ≠ b := by omega
  have hg2 := hG.1.get hg hgv
  have hc2 : w2.heap[b]? = some (.cells (diskCells d vs) diskT (0, 0)) := hG.1.get (hk1.get h.cells (fun h => h)) h.b_vs
  have hset := heap_set_same (o := 0) (v := vs') hc2
  have hk : Kept (fun x => x = b) w2 (w2.setCell ⟨b, 0, none⟩ vs') := Kept.cell1
  have hg3 := hk.get hg2 hgb
  have hlow : ∀ x ∈ bl, x < w1.heap.size := fun x hx => by have := h.low x hx; omega
  refine ⟨?_, ?_, ?_, ?_, ?_, hbvs', ?_, ?_⟩
  · rw [hset, he]; simp [diskCells]
  · have e : (vals ++ [Value.slice (some ⟨g, 0, none⟩) 1 1]).length = vals.length + 1 := by simp
    rw [e]
    exact hr.kept hk (fun x hx e => hbvs' (e ▸ hx))
  · rw [hsw]; simp [h.len]
  · intro i v l hv hl
    rw [hsw] at hl
    have hlen := h.len
    by_cases hi : i < vals.length
    · rw [List.getElem?_append_left hi] at hv
      rw [List.getElem?_append_left (by omega)] at hl
      have h1 := (h.secs i v l hv hl).kept hk1 h.low (fun _ _ h => h)
      have h2 := h1.kept hG.1 hlow (fun x hx hx2 => h.vs_bl x hx2 hx)
      have h3 := h2.kept hk (fun x hx => by have := hlow x hx; omega) (fun x hx e => h.b_bl (e ▸ hx))
      exact h3.mono (fun x hx => List.mem_cons_of_mem _ hx)
    · have hi' : i = vals.length := by
        have := (List.getElem?_eq_some_iff.1 hv).1
        simp at this; omega
      subst hi'
      rw [List.getElem?_append_right (Nat.le_refl _)] at hv
      rw [List.getElem?_append_right (by omega)] at hl
      simp [hlen] at hv hl
      subst hv; subst hl
      exact ⟨g, 0, 1, rfl, by simp, Nat.le_refl _, by simp [maxLen], strs_one hg3⟩
  · intro x hx
    have := hk.size
    rcases List.mem_cons.1 hx with rfl | hx
    · omega
    · have := hlow x hx; omega
  · intro hx
    rcases List.mem_cons.1 hx with hx | hx
    · exact hgb hx.symm
    · exact h.b_bl hx
  · intro x hx hx2
    rcases List.mem_cons.1 hx2 with rfl | hx2
    · rcases hG.2 x hx with hx | hx
      · exact hgv hx
      · omega
    · rcases hG.2 x hx with hx | hx
      · exact h.vs_bl x hx hx2
      · have := hlow x hx2; omega
end Go.Proofs.Ytdpfohgkikjeaaa
/- Of, Fresh. -/
namespace Go.Proofs.Ytdpfohgkikjeaaa
set_option linter.unusedVariables false
set_option linter.unusedSimpArgs false
open Go.RowKit
set_option linter.unusedVariables false
set_option linter.unusedSimpArgs false
theorem of_take (secs : List Str) (file : Str) {k : Nat} (h : k < secs.length) : (DiskS.of (secs.take (k + 1)) file).sw = (DiskS.of (secs.take k) file).sw ++ [[secs[k]]] := by
  show (secs.take (k + 1)).map _ = (secs.take k).map _ ++ _
  rw [List.take_succ_eq_append_getElem h, List.map_append]; rfl

set_option maxRecDepth 100000 in
set_option maxHeartbeats 1000000 in
theorem of_any {w : World} {v : Value} {secs : List Str} (hr : Row w 9 1 v secs.length (secs.map sv)) (hl : secs.length = 400) (file : Str) :
    Calls Try.prog 34 #[v, sv file] w fun e w' => ∃ b fp, e = .returned (.pointer (some ⟨b, 0, none⟩)) ∧ DiskR w' b (DiskS.of secs file) fp ∧ (∀ x ∈ fp, w.heap.size ≤ x) ∧ Kept no w w' := by
  obtain ⟨g, c, rfl, hc1, hcell⟩ : ∃ g c, v = .slice (some ⟨g, 0, none⟩) 400 c ∧ g < w.heap.size ∧ ∀ k (h : k < secs.length), w.cell? ⟨g, k, none⟩ = some (sv secs[k]) := by
    have hlt := hr.lt
    rcases hr.shape with ⟨_, h1, _⟩ | ⟨g, c, hv, _, _⟩
    · omega
    · subst hv
      have hh := hr.cell
      refine ⟨g, c, by rw [hl], hlt g (by simp [fpv_some]), fun k h => ?_⟩
      exact hh.2.2.2 k (sv secs[k]) (by simp [h])
  clear hr
  go_enter Try.func34, Try.ntmps34
  go_wp2_with fail
  obtain ⟨hn1, hsz1, hk1⟩ := new1 w (Obj.cells #[.slice none 0 0, .string ⟨file.toArray⟩, .string ⟨#[]⟩, .bool false, .int .i64 0, .string ⟨#[]⟩, .int .i64 0] 28)
  generalize hB : w.heap.size = B at hn1 hsz1 ⊢
  generalize w.alloc (Obj.cells #[.slice none 0 0, .string ⟨file.toArray⟩, .string ⟨#[]⟩, .bool false, .int .i64 0, .string ⟨#[]⟩, .int .i64 0] 28) = w1 at hn1 hsz1 hk1 ⊢
  have hd0 : DiskAt w1 B (DiskS.of (secs.take 0) file) (.slice none 0 0) [] [] := ⟨by rw [hn1]; rfl, ⟨rfl, .inl ⟨rfl, rfl⟩⟩, by simp [DiskS.of], by simp, by simp, by simp [fpv_nil], by simp, by simp⟩
  go_loopw [6, 7] (fun s6 s7 wr => ∃ (k : Nat) (vs : Value) (vals : List Value) (bl : List Nat), k ≤ 400 ∧ s6 = .int .i64 ((k : Nat) : Int) ∧ DiskAt wr B (DiskS.of (secs.take k) file) vs vals bl ∧ (∀ x ∈ fpv vs ++ bl, B ≤ x) ∧ Kept no w wr) (fun s6 _ _ => 400 - (intOf s6).toNat)
  case atStart => exact ⟨0, _, _, _, by omega, rfl, hd0, by simp [fpv_nil], hk1⟩
  case round =>
    obtain ⟨k, vs, vals, bl, hk, rfl, hd, hge, hkw⟩ := hrel
    by_cases hlt : k < 400
    · have hk2 : k < secs.length := by omega
      have hcl := hcell k hk2
      rw [← World.cell?_of_block (w' := wr) (a := ⟨g, k, none⟩) (hkw.block g (by omega) (fun h => h))] at hcl
      have hot := of_take secs file hk2
      have HOT : Hid ((DiskS.of (secs.take (k + 1)) file).sw = (DiskS.of (secs.take k) file).sw ++ [[secs[k]]]) := hot
      clear hot hcell
      generalize secs[k] = s at hcl HOT
      go_wp2_with fail
      refine (nought_any wr).mono ?_
      rintro e w2 ⟨rfl, hk2w⟩
      have hd2 := hd.kept hk2w (fun _ _ h => h)
      have hcl2 : w2.cell? ⟨g, k, none⟩ = some (sv s) := by
        rw [World.cell?_of_block (w := wr) (hk2w.block g (by have := hkw.size; omega) (fun h => h))]; exact hcl
      obtain ⟨hcB, hfB⟩ := cells_of hd2.cells
      have hsz2 := hk2w.size
      have hvl : vals.length ≤ 400 := by rw [hd2.len]; simp [DiskS.of]; omega
      have hrow2 := hd2.row
      generalize hn : vals.length = n at hrow2 hvl
      go_wp2_with (at_builtin; apply hold)
      delta Hid
      obtain ⟨hg1, hz1, hkk1⟩ := new1 w2 (Obj.cells #[sv s] 9)
      generalize hG : w2.heap.size = G at hg1 hz1 ⊢
      generalize w2.alloc (Obj.cells #[sv s] 9) = w3 at hg1 hz1 hkk1 ⊢
      obtain ⟨hg2, hz2, hkk2⟩ := new1 w3 (Obj.cells #[.slice (some ⟨G, 0, none⟩) 1 1] 31)
      have hg1' := hkk2.get hg1 (fun h => h)
      have hkk := hkk1.step hkk2
      rw [hz1] at hg2
      generalize w3.alloc (Obj.cells #[.slice (some ⟨G, 0, none⟩) 1 1] 31) = w4 at hg2 hz2 hkk2 hg1' hkk ⊢
      refine wpList_push rfl _ _ 26 rfl tyRow vs _ _ rfl (hrow2.kept hkk (fun _ _ h => h)) (G + 1) 1 (.slice (some ⟨G, 0, none⟩) 1 1) rfl (by rw [(cells_of hg2).1]; rfl) rfl (by decide) (by omega) ?_
      intro v' w5 hown' hgrow
      subst hn
      have hd5 := hd2.push hg1' (by omega) hkk hown' hgrow HOT.out rfl
      obtain ⟨pv, cv, rfl⟩ := hown'.slice
      have hB5 := hgrow.1.get (hkk.get hd2.cells (fun h => h)) hd2.b_vs
      have hbl2 := hd2.low
      have hvl2 := hrow2.lt
      obtain ⟨hc5, hf5⟩ := cells_of hB5
      clear hcB hfB hB5
      go_wp2
      refine ⟨⟨k + 1, _, _, _, by omega, by go_num, hd5, fun x hx => ?_, ?_⟩, by simp [intOf]; omega⟩
      · simp only [List.mem_append, List.mem_cons] at hx
        have hs2 := hkw.size
        have hbn : ∀ y ∈ fpv vs ++ bl, B ≤ y := hge
        rcases hx with hx | rfl | hx
        · rcases hgrow.2 x hx with hx | hx
          · exact hge x (by simp [hx])
          · omega
        · omega
        · exact hge x (by simp [hx])
      · refine (((hkw.step hk2w).step hkk).step' hgrow.1 (fun x hx hlt => ?_)).setNew (by show w.heap.size ≤ B; omega) _
        have := hge x (by simp [hx])
        omega
    · obtain rfl : k = 400 := by omega
      go_wp2
      go_ret
      refine ⟨B, _, rfl, ⟨vs, vals, bl, ?_, rfl⟩, fun x hx => ?_, hkw⟩
      · rw [List.take_of_length_le (by omega)] at hd; exact hd
      · rcases List.mem_cons.1 hx with rfl | hx
        · omega
        · have := hge x hx; omega
end Go.Proofs.Ytdpfohgkikjeaaa
/- Fresh. -/
namespace Go.Proofs.Ytdpfohgkikjeaaa
set_option linter.unusedVariables false
set_option linter.unusedSimpArgs false
open Go.RowKit
set_option linter.unusedVariables false
set_option linter.unusedSimpArgs false
/-- What is read in a world that has grown. -/
theorem Kept.read {S : Blocks} {w W : World} (h : Kept S w W) {b o : Nat} {v : Value} (hc : w.cell? ⟨b, o, none⟩ = some v) (hn : ¬ S b) : W.cell? ⟨b, o, none⟩ = some v := by
  rw [World.cell?_of_block (w := w) (h.block b (World.block_lt_of_cell? w _ hc) hn)]
  exact hc

theorem wp_push {P : Program} {w : World} {o : Oper} {a : Act} {Q : Exit → Act → World → Prop} {K : Act → World → Prop} (s x : Operand) (t : TypeId) (ho : o.op = .call { callee := .builtin .append, args := #[s, x], argTypes := #[t, t] })
    {e : TypeId} {bytes : Nat} (T : SliceTy P t e 1 bytes) (v : Value) (n : Nat) (xs : List Value) (hs : a.eval s = v) (hown : Row w e 1 v n xs)
    (g c : Nat) (u : Value) (hx : a.eval x = .slice (some ⟨g, 0, none⟩) 1 c) (hu : w.cell? ⟨g, 0, none⟩ = some u) (h1 : u.oneCell' = true) (hb : bytes ≤ 64) (hn : n ≤ 1099511627776)
    (h : ∀ v' w', Row w' e 1 v' (n + 1) (xs ++ [u]) → Grew w w' v v' → K (a.put o.dst v') w') : o.wp P a w K Q := by
  obtain ⟨v', w', hr, h2, h3, _⟩ := run_app T o.type w v n xs hown g 0 1 c [u] rfl (fun j u' hj => by
    match j, hj with
    | 0, hj => simp at hj; subst hj; simpa using hu) (fun u' hu' => by simp at hu'; subst hu'; exact h1) (by
    have : (n + 1) * bytes ≤ 1099511627777 * 64 := Nat.mul_le_mul (by omega) hb
    omega) (by omega)
  unfold Oper.wp execOp
  simp only [ho, resolve, invoke, builtin, Sem.run_bind, Sem.run_pure, Result.andThen_ok, List.map_toArray, List.map_cons, List.map_nil, hs, hx, hr]
  exact h v' w' h2 h3

set_option maxRecDepth 100000 in
set_option maxHeartbeats 1000000 in
theorem fresh_disk (w : World) (file : Str) :
    Calls Try.prog 16 #[sv file] w fun e w' => ∃ b fp, e = .returned (.pointer (some ⟨b, 0, none⟩)) ∧ DiskR w' b (DiskS.of (List.replicate 400 blank) file) fp ∧ (∀ x ∈ fp, w.heap.size ≤ x) ∧ Kept no w w' := by
  go_enter Try.func16, Try.ntmps16
  go_wp2_with fail
  obtain ⟨hn1, hsz1, hk1⟩ := new1 w (Obj.cells #[.slice none 0 0, .string ⟨file.toArray⟩, .string ⟨#[]⟩, .bool false, .int .i64 0, .string ⟨#[]⟩, .int .i64 0] 28)
  generalize hB : w.heap.size = B at hn1 hsz1 ⊢
  generalize w.alloc (Obj.cells #[.slice none 0 0, .string ⟨file.toArray⟩, .string ⟨#[]⟩, .bool false, .int .i64 0, .string ⟨#[]⟩, .int .i64 0] 28) = w1 at hn1 hsz1 hk1 ⊢
  have hd0 : DiskAt w1 B (DiskS.of (List.replicate 0 blank) file) (.slice none 0 0) [] [] := ⟨by rw [hn1]; rfl, ⟨rfl, .inl ⟨rfl, rfl⟩⟩, by simp [DiskS.of], by simp, by simp, by simp [fpv_nil], by simp, by simp⟩
  have hot : ∀ k, (DiskS.of (List.replicate (k + 1) blank) file).sw = (DiskS.of (List.replicate k blank) file).sw ++ [[blank]] := fun k => by simp [DiskS.of, List.replicate_succ']
  have HOT : Hid (∀ k, (DiskS.of (List.replicate (k + 1) blank) file).sw = (DiskS.of (List.replicate k blank) file).sw ++ [[blank]]) := hot
  clear hot
  go_loopw [4] (fun s4 wr => ∃ (k : Nat) (vs : Value) (vals : List Value) (bl : List Nat), k ≤ 400 ∧ s4 = .int .i64 ((k : Nat) : Int) ∧ DiskAt wr B (DiskS.of (List.replicate k blank) file) vs vals bl ∧ (∀ x ∈ fpv vs ++ bl, B ≤ x) ∧ Kept no w wr) (fun s4 _ => 400 - (intOf s4).toNat)
  case atStart => exact ⟨0, _, _, _, by omega, rfl, hd0, by simp [fpv_nil], hk1⟩
  case round =>
    obtain ⟨k, vs, vals, bl, hk, rfl, hd, hge, hkw⟩ := hrel
    by_cases hlt : k < 400
    · have hot := HOT.out k
      have HOT1 : Hid ((DiskS.of (List.replicate (k + 1) blank) file).sw = (DiskS.of (List.replicate k blank) file).sw ++ [[blank]]) := hot
      clear hot
      have hB0 : ∀ W, Kept no wr W → W.cell? ⟨B, 0, none⟩ = some vs := fun W hW => hW.read (by rw [(cells_of hd.cells).1]; rfl) (fun h => h)
      go_wp2_with fail
      refine wp_region3 (fun W => Kept no wr W) [(0, true), (1, true), (2, true), (3, true), (4, false)] [5, 6, 7, 8, 9, 10, 11] (by kernel_rfl) (by kernel_rfl) (fun _ _ d _ _ h => by cases d <;> exact h) ((Kept.refl _ _).drew) ?_
      repeat ((first | refine wpPre3_pure rfl rfl (fun W => (by go_simp; rfl)) ?_ | refine wpPre3_read rfl rfl (fun W hW => (by have h1 := hB0 W hW; go_simp; rfl)) ?_); simp only [Act.put, List.setIfInBounds_toArray, List.set])
      refine wpPre3_nil ?_
      refine wpTail3_cons rfl rfl (fun K hK => ?_)
      go_wp2_with fail
      refine (nought_any _).mono ?_
      rintro e w2 ⟨rfl, hk2w⟩
      refine hK _ _ ⟨fun h => h.step hk2w, ?_⟩
      clear hK
      replace hk2w : Kept no wr w2 := hk2w.of_drew
      have hsz2 := hk2w.size
      have hd2 := hd.kept hk2w (fun _ _ h => h)
      have hvl : vals.length ≤ 400 := by rw [hd2.len]; simp [DiskS.of]; omega
      have hrow2 := hd2.row
      generalize hn : vals.length = n at hrow2 hvl
      generalize hbl : blank = s at *
      have HBL : Hid (blank = s) := hbl
      clear hbl
      refine wpTail3_cons rfl rfl (fun K hK => ?_)
      go_wp2_with fail
      refine ⟨fun h => h.alloc _, ?_⟩
      obtain ⟨hg1, hz1, hkk1⟩ := new1 w2 (Obj.cells #[sv s] 9)
      generalize hG : w2.heap.size = G at hg1 hz1 ⊢
      generalize w2.alloc (Obj.cells #[sv s] 9) = w3 at hg1 hz1 hkk1 ⊢
      refine wpTail3_cons rfl rfl (fun K hK => ?_)
      go_wp2_with fail
      refine ⟨fun h => h.alloc _, ?_⟩
      obtain ⟨hg2, hz2, hkk2⟩ := new1 w3 (Obj.cells #[.slice (some ⟨G, 0, none⟩) 1 1] 31)
      have hg1' := hkk2.get hg1 (fun h => h)
      have hkk := hkk1.step hkk2
      rw [hz1] at hg2
      generalize w3.alloc (Obj.cells #[.slice (some ⟨G, 0, none⟩) 1 1] 31) = w4 at hg2 hz2 hkk2 hg1' hkk ⊢
      refine wpTail3_last (by kernel_rfl) rfl rfl (fun K hK => ?_)
      refine wp_push _ _ 26 rfl tyRow vs _ _ rfl (hrow2.kept hkk (fun _ _ h => h)) (G + 1) 1 (.slice (some ⟨G, 0, none⟩) 1 1) rfl (by rw [(cells_of hg2).1]; rfl) rfl (by decide) (by omega) ?_
      intro v' w5 hown' hgrow
      refine hK _ _ ?_
      clear hK
      subst hn
      have hd5 := hd2.push hg1' (by omega) hkk hown' hgrow HOT1.out rfl
      obtain ⟨pv, cv, rfl⟩ := hown'.slice
      have hB5 := hgrow.1.get (hkk.get hd2.cells (fun h => h)) hd2.b_vs
      have hbl2 := hd2.low
      have hvl2 := hrow2.lt
      obtain ⟨hc5, hf5⟩ := cells_of hB5
      clear hB5
      refine wpTail3_last (by kernel_rfl) rfl rfl (fun K hK => ?_)
      go_wp2_with fail
      refine wpTail3_last (by kernel_rfl) rfl rfl (fun K hK => ?_)
      go_wp2_with fail
      refine wpTail3_last (by kernel_rfl) rfl rfl (fun K hK => ?_)
      go_wp2_with fail
      refine wpTail3_nil ?_
      go_wp2
      rw [HBL.out]
      refine ⟨⟨k + 1, _, _, _, by omega, by go_num, hd5, fun x hx => ?_, ?_⟩, by simp [intOf]; omega⟩
      · simp only [List.mem_append, List.mem_cons] at hx
        have hs2 := hkw.size
        rcases hx with hx | rfl | hx
        · rcases hgrow.2 x hx with hx | hx
          · exact hge x (by simp [hx])
          · omega
        · omega
        · exact hge x (by simp [hx])
      · refine (((hkw.step hk2w).step hkk).step' hgrow.1 (fun x hx hlt => ?_)).setNew (by show w.heap.size ≤ B; omega) _
        have := hge x (by simp [hx])
        omega
    · obtain rfl : k = 400 := by omega
      go_wp2
      go_ret
      refine ⟨B, _, rfl, ⟨vs, vals, bl, hd, rfl⟩, fun x hx => ?_, hkw⟩
      rcases List.mem_cons.1 hx with rfl | hx
      · omega
      · have := hge x hx; omega
end Go.Proofs.Ytdpfohgkikjeaaa
/- Right; Do. -/
namespace Go.Proofs.Ytdpfohgkikjeaaa
set_option linter.unusedVariables false
set_option linter.unusedSimpArgs false
open Go.RowKit
set_option linter.unusedVariables false
set_option linter.unusedSimpArgs false
set_option maxRecDepth 100000 in
set_option maxHeartbeats 1000000 in
theorem right_any (a : PAct) (h : RightA a) (w : World) : Calls Try.prog 29 #[a.val] w fun e w' => e = .returned (.bool true) ∧ Kept no w w' := by
  obtain ⟨kind, at_, data⟩ := a
  rcases h with ⟨hk, h1, h2⟩ | ⟨hk, h1⟩ | ⟨hk, h1, h2⟩
  · simp only at hk h1 h2
    subst hk
    have h2' : (data.length : Int) = 64 := by omega
    clear h2
    go_enter Try.func29, Try.ntmps29
    go_wp2
    go_ret
    exact ⟨by simp, (Kept.refl _ _).alloc _⟩
  · simp only at hk h1
    subst hk
    subst h1
    go_enter Try.func29, Try.ntmps29
    go_wp2
    go_ret
    exact ⟨by simp, (Kept.refl _ _).alloc _⟩
  · simp only at hk h1 h2
    subst h1
    subst h2
    rcases hk with rfl | rfl | rfl | rfl | rfl
    all_goals
      go_enter Try.func29, Try.ntmps29
      go_wp2
      go_ret
      exact ⟨by simp, (Kept.refl _ _).alloc _⟩
end Go.Proofs.Ytdpfohgkikjeaaa
/- Do: a Write. -/
namespace Go.Proofs.Ytdpfohgkikjeaaa
set_option linter.unusedVariables false
set_option linter.unusedSimpArgs false
open Go.RowKit
set_option linter.unusedVariables false
set_option linter.unusedSimpArgs false
/-- What is known of a sector in memory. -/
theorem DiskAt.sec {w b d vs vals bl} (h : DiskAt w b d vs vals bl) {p : Nat} {l : List Str} (hl : d.sw[p]? = some l) : ∃ g c g2 o2 c2, vs = .slice (some ⟨g, 0, none⟩) vals.length c ∧ p < vals.length ∧ vals.length ≤ c ∧ c ≤ 9223372036854775807 ∧ g ≠ b ∧ g < w.heap.size ∧ w.cell? ⟨g, p, none⟩ = some (.slice (some ⟨g2, o2, none⟩) l.length c2) ∧ g2 ∈ bl ∧ g2 < w.heap.size ∧ l.length ≤ c2 ∧ c2 ≤ 9223372036854775807 ∧ StrsAt w g2 o2 l := by
  have hlen := h.len
  have hp : p < d.sw.length := (List.getElem?_eq_some_iff.1 hl).1
  obtain ⟨g, c, hvs, hc1, hc2⟩ : ∃ g c, vs = .slice (some ⟨g, 0, none⟩) vals.length c ∧ vals.length ≤ c ∧ c ≤ maxLen := by
    rcases h.row.shape with ⟨_, h1, _⟩ | ⟨g, c, hv, h1, h2⟩
    · omega
    · exact ⟨g, c, hv, h1, h2⟩
  have hv : vals[p]? = some (vals[p]'(by omega)) := by simp [show p < vals.length by omega]
  obtain ⟨g2, o2, c2, hv2, hg2, h21, h22, hs2⟩ := h.secs p _ l hv hl
  rw [hv2] at hv
  have hrow := h.row
  rw [hvs] at hrow
  have hcell := hrow.cell
  refine ⟨g, c, g2, o2, c2, hvs, by omega, hc1, by unfold maxLen at hc2; omega, fun e => h.b_vs (by rw [hvs, fpv_some, ← e]; simp), h.row.lt g (by rw [hvs, fpv_some]; simp), hcell.2.2.2 p _ hv, hg2, h.low g2 hg2, h21, by unfold maxLen at h22; omega, hs2⟩

/-- A row one cell of which is turned. -/
theorem Row.put {w : World} {e : TypeId} {g n c : Nat} {xs : List Value} (h : Row w e 1 (.slice (some ⟨g, 0, none⟩) n c) n xs) {p : Nat} (hp : p < n) (u : Value) : Row (w.setCell ⟨g, p, none⟩ u) e 1 (.slice (some ⟨g, 0, none⟩) n c) n (xs.set p u) := by
  have hl := h.len
  rcases h.2 with ⟨h0, _⟩ | ⟨g', cap, cur, hv, hg0, hh, h1, h2, h3, h4⟩
  · cases h0
  · simp only [Value.slice.injEq, Option.some.injEq, Addr.mk.injEq, and_true, true_and] at hv
    obtain ⟨rfl, rfl⟩ := hv
    refine ⟨by simp [hl], .inr ⟨g, c, cur.setIfInBounds p u, rfl, hg0, heap_set_same hh, h1, h2, by simpa using h3, ?_⟩⟩
    rw [← h4, Array.toList_setIfInBounds, Nat.mul_one]
    rw [List.take_set]

theorem Row.heap {w : World} {e : TypeId} {g n c : Nat} {xs : List Value} (h : Row w e 1 (.slice (some ⟨g, 0, none⟩) n c) n xs) : ∃ cur : Array Value, w.heap[g]? = some (.cells cur e (0, 0)) ∧ n ≤ cur.size := by
  rcases h.2 with ⟨h0, _⟩ | ⟨g', cap, cur, hv, hg0, hh, h1, h2, h3, h4⟩
  · cases h0
  · simp only [Value.slice.injEq, Option.some.injEq, Addr.mk.injEq, and_true, true_and] at hv
    obtain ⟨rfl, rfl⟩ := hv
    exact ⟨cur, hh, by omega⟩

theorem DiskAt.put {w w4 : World} {b d vs vals bl} (h : DiskAt w b d vs vals bl) (hk : Kept no w w4) {p g c : Nat} (hvs : vs = .slice (some ⟨g, 0, none⟩) vals.length c) (hp : p < vals.length) {v2 : Value} {l2 : List Str} {bl2 : List Nat}
    (hs : SecAt w4 v2 l2 bl2) (hsub : ∀ x ∈ bl, x ∈ bl2) (hlow : ∀ x ∈ bl2, x < w4.heap.size) (hap : ∀ x ∈ bl2, x ≠ b ∧ x ≠ g) :
    DiskAt (w4.setCell ⟨g, p, none⟩ v2) b { d with sw := d.sw.set p l2 } vs (vals.set p v2) bl2 := by
  have hf : fpv vs = [g] := by rw [hvs]; exact fpv_some
  have hbg : b ≠ g := fun e => h.b_vs (by rw [hf, e]; simp)
  have h4 := h.kept hk (fun _ _ h => h)
  have hks : Kept (fun x => x = g) w4 (w4.setCell ⟨g, p, none⟩ v2) := Kept.cell1
  have hlen := h.len
  refine ⟨?_, ?_, by simp [hlen], ?_, fun x hx => Nat.lt_of_lt_of_le (hlow x hx) hks.size, h.b_vs, fun hx => (hap b hx).1 rfl, fun x hx hx2 => ?_⟩
  · exact hks.get h4.cells hbg
  · have hrow := h4.row
    rw [hvs] at hrow ⊢
    have := hrow.put hp v2
    rw [List.length_set]
    exact this
  · intro i v l hv hl
    by_cases e : i = p
    · subst e
      have h1 : v2 = v := by
        rw [List.getElem?_set_self hp] at hv; exact Option.some.inj hv
      have h2 : l2 = l := by
        rw [List.getElem?_set_self (by omega)] at hl; exact Option.some.inj hl
      subst h1; subst h2
      exact hs.kept hks hlow (fun x hx => (hap x hx).2)
    · rw [List.getElem?_set_ne (Ne.symm e)] at hv
      rw [List.getElem?_set_ne (Ne.symm e)] at hl
      exact ((h4.secs i v l hv hl).mono hsub).kept hks hlow (fun x hx => (hap x hx).2)
  · rw [hf] at hx
    simp only [List.mem_cons, List.not_mem_nil, or_false] at hx
    exact (hap x hx2).2 hx

theorem wp_app1 {P : Program} {w : World} {o : Oper} {a : Act} {Q : Exit → Act → World → Prop} {K : Act → World → Prop} (s x : Operand) (t : TypeId) (ho : o.op = .call { callee := .builtin .append, args := #[s, x], argTypes := #[t, t] })
    {e : TypeId} {bytes : Nat} (T : SliceTy P t e 1 bytes) (v : Value) (n : Nat) (xs : List Value) (hs : a.eval s = v) (hown : Row w e 1 v n xs)
    (g off m c : Nat) (news : List Value) (hx : a.eval x = .slice (some ⟨g, off, none⟩) m c) (hl : news.length = m) (hu : ∀ j u, news[j]? = some u → w.cell? ⟨g, off + j, none⟩ = some u) (h1 : ∀ u ∈ news, u.oneCell' = true) (hb : bytes ≤ 64) (hn : n + m ≤ 1099511627776)
    (h : ∀ v' w', Row w' e 1 v' (n + m) (xs ++ news) → Grew w w' v v' → K (a.put o.dst v') w') : o.wp P a w K Q := by
  obtain ⟨v', w', hr, h2, h3, _⟩ := run_app T o.type w v n xs hown g off m c news (by omega) hu h1 (by
    have : (n + m) * bytes ≤ 1099511627776 * 64 := Nat.mul_le_mul (by omega) hb
    omega) (by omega)
  unfold Oper.wp execOp
  simp only [ho, resolve, invoke, builtin, Sem.run_bind, Sem.run_pure, Result.andThen_ok, List.map_toArray, List.map_cons, List.map_nil, hs, hx, hr]
  exact h v' w' h2 h3

theorem tyStr : SliceTy Try.prog 31 9 1 16 := SliceTy.mk' (z := .string ⟨#[]⟩) (by kernel_rfl) (by kernel_rfl) rfl (by decide)

set_option maxRecDepth 100000 in
set_option maxHeartbeats 2000000 in
theorem do_write {w b d vs vals bl} (h : DiskAt w b d vs vals bl) (p : Nat) (s : Str) (l : List Str) (hl : d.sw[p]? = some l) (hN : l.length ≤ 1000000000000) (hne : l ≠ []) :
    Calls Try.prog 30 #[.pointer (some ⟨b, 0, none⟩), .agg #[.int .i64 1, .int .i64 (p : Int), sv s]] w fun e w' => e = .returned (.tuple #[]) ∧ DiskTo w w' b (b :: (fpv vs ++ bl)) { d with sw := d.sw.set p (l ++ [s]) } := by
  obtain ⟨g, c, g2, o2, c2, hvs, hpv, hc1, hc2, hgb, hgl, hcp, hg2, hg2l, h21, h22, hs2⟩ := h.sec hl
  have hbw : b < w.heap.size := lt_of_heap h.cells
  have hln : 0 < l.length := List.length_pos_iff.2 hne
  generalize hn : vals.length = n at *
  go_enter Try.func30, Try.ntmps30
  go_wp2_with fail
  obtain ⟨hn1, hsz1, hk1⟩ := new1 w (Obj.cells #[.int .i64 1, .int .i64 (p : Int), sv s] 85)
  have hb1 := hk1.get h.cells (fun h => h)
  have hcp1 := hk1.read hcp (fun h => h)
  have hs21 := hs2.kept hk1 (fun h => h)
  generalize hA : w.heap.size = A at *
  generalize w.alloc (Obj.cells #[.int .i64 1, .int .i64 (p : Int), sv s] 85) = w1 at *
  obtain ⟨hcb, hfb⟩ := cells_of hb1
  obtain ⟨hca, hfa⟩ := cells_of hn1
  rw [hvs] at hcb
  have h0 : (0 : Int) ≤ (p : Int) := by omega
  go_quiet (fail)
  go_wp2_with fail
  have hkn : Kept no w1 (w1.drewN nq) := (Kept.refl _ _).drewN _
  have hB0 : ∀ W, Kept no w1 W → W.cell? ⟨b, 0, none⟩ = some (.slice (some ⟨g, 0, none⟩) n c) := fun W hW => hW.read (by rw [hcb]; rfl) (fun h => h)
  have hA1 : ∀ W, Kept no w1 W → W.cell? ⟨A, 1, none⟩ = some (.int .i64 (p : Int)) := fun W hW => hW.read (by rw [hca]; rfl) (fun h => h)
  have hgp : ∀ W, Kept no w1 W → W.cell? ⟨g, p, none⟩ = some (.slice (some ⟨g2, o2, none⟩) l.length c2) := fun W hW => hW.read hcp1 (fun h => h)
  refine wp_region3 (fun W => Kept no w1 W) [(0, true), (1, true), (2, true), (3, true), (4, false), (5, true), (6, false), (7, true), (8, false)] [9, 10] (by kernel_rfl) (by kernel_rfl) (fun _ _ d _ _ h => by cases d <;> exact h) hkn.drew ?_
  repeat ((first | refine wpPre3_pure rfl rfl (fun W => (by go_simp; rfl)) ?_ | refine wpPre3_read rfl rfl (fun W hW => (by have h1 := hB0 W hW; have h2 := hA1 W hW; have h3 := hgp W hW; go_simp; rfl)) ?_); simp only [Act.put, List.setIfInBounds_toArray, List.set])
  refine wpPre3_nil ?_
  have hk12 : Kept no w1 (w1.drewN nq).drew := hkn.drew
  generalize (w1.drewN nq).drew = w2 at hk12 ⊢
  clear hkn hca hfa hcb hfb
  have hs22 := hs21.kept hk12 (fun h => h)
  refine wpTail3_last (by kernel_rfl) rfl rfl (fun K hK => ?_)
  refine wp_app1 _ _ 31 rfl tyStr (.slice none 0 0) 0 [] rfl ⟨rfl, .inl ⟨rfl, rfl⟩⟩ g2 o2 l.length c2 (l.map sv) rfl (by simp) (fun j u hu => ?_) (fun u hu => ?_) (by decide) (by omega) ?_
  · simp only [List.getElem?_map, Option.map_eq_some_iff] at hu
    obtain ⟨x, hx, rfl⟩ := hu
    exact hs22 j x hx
  · simp only [List.mem_map] at hu
    obtain ⟨x, _, rfl⟩ := hu
    rfl
  intro v3 w3 hr3 hG3
  rw [Nat.zero_add, List.nil_append] at hr3
  refine hK _ _ ?_
  clear hK
  have hk23 : Kept no w2 w3 := hG3.1.mono (fun i hi _ => by simp [fpv_nil] at hi)
  have hk13 := hk12.step hk23
  have hv3 : ∀ x ∈ fpv v3, w2.heap.size ≤ x := fun x hx => by
    rcases hG3.2 x hx with hx | hx
    · simp [fpv_nil] at hx
    · exact hx
  have hs12 := hk12.size
  obtain ⟨g3, c3, rfl, hc31, hc32⟩ : ∃ g3 c3, v3 = .slice (some ⟨g3, 0, none⟩) l.length c3 ∧ l.length ≤ c3 ∧ c3 ≤ maxLen := by
    rcases hr3.shape with ⟨_, h1, _⟩ | ⟨g, c, hv, h1, h2⟩
    · omega
    · exact ⟨g, c, hv, h1, h2⟩
  have hg3 := hv3 g3 (by simp [fpv_some])
  refine wpTail3_last (by kernel_rfl) rfl rfl (fun K hK => ?_)
  go_wp2_with fail
  refine wpTail3_nil ?_
  go_wp2_with fail
  have hB0 : ∀ W, Kept (fun x => x = g3) w3 W → W.cell? ⟨b, 0, none⟩ = some (.slice (some ⟨g, 0, none⟩) n c) := fun W hW => hW.read (hB0 w3 hk13) (fun e => by omega)
  have hA1 : ∀ W, Kept (fun x => x = g3) w3 W → W.cell? ⟨A, 1, none⟩ = some (.int .i64 (p : Int)) := fun W hW => hW.read (hA1 w3 hk13) (fun e => by omega)
  have hA2 : ∀ W, Kept (fun x => x = g3) w3 W → W.cell? ⟨A, 2, none⟩ = some (sv s) := fun W hW => hW.read (hk13.read (v := sv s) (by rw [(cells_of hn1).1]; rfl) (fun h => h)) (fun e => by omega)
  refine wp_region3 (fun W => Kept (fun x => x = g3) w3 W) [(0, true), (1, true), (2, true), (3, false), (4, true), (5, false), (6, true), (7, true), (8, false)] [9, 10, 11, 12] (by kernel_rfl) (by kernel_rfl) (fun _ _ d _ _ h => by cases d <;> exact h) ((Kept.refl _ _).drew) ?_
  repeat ((first | refine wpPre3_pure rfl rfl (fun W => (by go_simp; rfl)) ?_ | refine wpPre3_read rfl rfl (fun W hW => (by have h1 := hB0 W hW; have h2 := hA1 W hW; have h3 := hA2 W hW; go_simp; rfl)) ?_); simp only [Act.put, List.setIfInBounds_toArray, List.set])
  refine wpPre3_nil ?_
  have hk34 : Kept no w3 w3.drew := (Kept.refl _ _).drew
  have hr4 : Row w3.drew 9 1 (.slice (some ⟨g3, 0, none⟩) l.length c3) l.length (l.map sv) := hr3.drew
  generalize w3.drew = w4 at hk34 hr4 ⊢
  have hs34 := hk34.size
  have hs23 := hk23.size
  refine wpTail3_cons rfl rfl (fun K hK => ?_)
  go_wp2_with fail
  obtain ⟨hn5, hsz5, hk5⟩ := new1 w4 (Obj.cells #[sv s] 9)
  refine ⟨fun h => h.alloc _, ?_⟩
  generalize hG5 : w4.heap.size = G5 at hn5 hsz5 ⊢
  generalize w4.alloc (Obj.cells #[sv s] 9) = w5 at hn5 hsz5 hk5 ⊢
  refine wpTail3_cons rfl rfl (fun K hK => ?_)
  refine wp_push _ _ 31 rfl tyStr (.slice (some ⟨g3, 0, none⟩) l.length c3) _ _ rfl (hr4.kept hk5 (fun _ _ h => h)) G5 1 (sv s) rfl (by rw [(cells_of hn5).1]; rfl) rfl (by decide) (by omega) ?_
  intro v6 w6 hr6 hG6
  refine hK _ _ ⟨fun hh => hh.step (hG6.1.mono (fun i hi _ => by rw [fpv_some] at hi; simpa using hi)), ?_⟩
  clear hK
  have hk15 : Kept no w1 w5 := (hk13.step hk34).step hk5
  have hk16 : Kept no w1 w6 := hk15.step' hG6.1 (fun i hi hlt => by rw [fpv_some] at hi; simp at hi; omega)
  have hk06 : Kept no w w6 := hk1.step hk16
  have hrow6 := (h.kept hk06 (fun _ _ h => h)).row
  have hput := fun v2 l2 bl2 hs h1 h2 h3 => h.put (v2 := v2) (l2 := l2) (bl2 := bl2) hk06 (p := p) (g := g) (c := c) (by rw [hn]; exact hvs) (by omega) hs h1 h2 h3
  rw [hn, hvs] at hrow6
  obtain ⟨cur, hcur, hcs⟩ := hrow6.heap
  obtain ⟨hcg, hfg⟩ := cells_of hcur
  have hcg2 : w6.cell? ⟨g, p, none⟩ = some (cur[p]'(by omega)) := by rw [hcg]; simp [show p < cur.size by omega]
  have hfg2 := hfg p
  have hv6 := hr6.lt
  have hr6s := hr6.shape
  obtain ⟨g6, c6, rfl, hc61, hc62⟩ : ∃ g6 c6, v6 = .slice (some ⟨g6, 0, none⟩) (l.length + 1) c6 ∧ l.length + 1 ≤ c6 ∧ c6 ≤ maxLen := by
    rcases hr6s with ⟨_, h1, _⟩ | ⟨g, c, hv, h1, h2⟩
    · omega
    · exact ⟨g, c, hv, h1, h2⟩
  have hg6 : A + 1 ≤ g6 := by
    have hs5 := hk5.size
    rcases hG6.2 g6 (by simp [fpv_some]) with hx | hx
    · rw [fpv_some] at hx; simp at hx; omega
    · omega
  have hg6l := hv6 g6 (by simp [fpv_some])
  clear hcg hfg hcur hr6s
  refine wpTail3_last (by kernel_rfl) rfl rfl (fun K hK => ?_)
  go_wp2_with fail
  refine wpTail3_last (by kernel_rfl) rfl rfl (fun K hK => ?_)
  go_wp2_with fail
  refine wpTail3_nil ?_
  go_wp2
  have hbl := h.low
  go_end0
  refine ⟨rfl, ⟨_, ⟨_, _, _, hput _ (l ++ [s]) (g6 :: bl) ⟨g6, 0, c6, by simp, by simp, by simpa using hc61, hc62, ?_⟩ (fun x hx => List.mem_cons_of_mem _ hx) ?_ ?_, rfl⟩, ?_⟩, ?_⟩
  · intro j x hx
    have hh := hr6.cell.2.2.2 j (sv x) (by
      have e : l.map sv ++ [sv s] = (l ++ [s]).map sv := by simp
      rw [e, List.getElem?_map, hx]; rfl)
    simpa using hh
  · intro x hx
    rcases List.mem_cons.1 hx with rfl | hx
    · exact hg6l
    · have := hbl x hx; have := hk06.size; omega
  · intro x hx
    rcases List.mem_cons.1 hx with rfl | hx
    · exact ⟨by omega, by omega⟩
    · exact ⟨fun e => h.b_bl (e ▸ hx), fun e => h.vs_bl g (by rw [hvs, fpv_some]; simp) (e ▸ hx)⟩
  · intro x hx
    simp only [List.mem_cons, List.mem_append] at hx ⊢
    rcases hx with rfl | hx | rfl | hx
    · exact .inl (.inl rfl)
    · exact .inl (.inr (.inl hx))
    · exact .inr (by omega)
    · exact .inl (.inr (.inr hx))
  · exact (hk06.mono (fun _ h _ => h.elim)).setCell (p := ⟨g, p, none⟩) (fun _ => by rw [hvs, fpv_some]; simp) _
end Go.Proofs.Ytdpfohgkikjeaaa

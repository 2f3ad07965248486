/- Part 17 of the proof: see its parts. -/
import Derived.Test.YtdpfohgkikjeaaaGreatU16
/- Done. -/
namespace Go.Proofs.YtdpfohgkikjeaaaGreat
open Go.RowKit
set_option linter.unusedVariables false
set_option linter.unusedSimpArgs false

theorem done_idle {w b d va tfp afp} (h : DocAt w b d va tfp afp) (hk : d.kind = 0) (t : Bool) : Calls Tryz.prog 45 #[.pointer (some ⟨b, 0, none⟩), .bool t] w fun e w' => e = .returned (.int .i64 6) ∧ w' = w := by
  have hb := busy_any h
  rw [decide_eq_false (by omega : ¬ d.kind ≠ 0)] at hb
  go_enter Tryz.func45, Tryz.ntmps45
  go_wp2_with (go_at_call 52; refine hb.mono ?_; rintro e w ⟨rfl, rfl⟩)
  go_ret
  exact ⟨rfl, rfl⟩

set_option maxHeartbeats 1000000 in
theorem done_on {w b d va tfp afp} (h : DocAt w b d va tfp afp) (a a2 : PAct) (r : List PAct) (hk : d.kind ≠ 0) (ha : d.acts = a :: a2 :: r) (hr : r.length ≤ 1000) : Calls Tryz.prog 45 #[.pointer (some ⟨b, 0, none⟩), .bool true] w fun e w' => e = .returned (.int .i64 0) ∧ DocTo w w' b (tfp ++ afp) { d with acts := a2 :: r } := by
  have hb := busy_any h
  rw [decide_eq_true hk] at hb
  obtain ⟨vi, vk, hb0⟩ := h.cells
  have ok := h.ok
  have hbm := h.tree.mem
  have hT := h.tree
  have hap := h.apart
  rcases h.acts with ⟨_, h0, _⟩ | ⟨g, o, c, hva, hf, hg, hn, hcm, hcell⟩
  · rw [h0] at ha; cases ha
  rw [ha] at hva hcell hn
  have hlen : (a :: a2 :: r).length = r.length + 2 := rfl
  rw [hlen] at hva hn
  subst hva
  simp only [maxLen] at hcm
  have hc1 : ¬ (c = 1) := by omega
  have hi1 : (1 : Int) ≤ ((r.length : Int) + 2) := by omega
  have hi2 : 1 ≤ r.length + 2 := by omega
  obtain ⟨hc0, hf0⟩ := cells_of hb0
  have hgb : g ∉ tfp := hap g (by simp [hf])
  have HAP : Hid (∀ x ∈ afp, x ∉ tfp) := hap
  have HA : Hid (d.acts = a :: a2 :: r) := ha
  clear ha hlen
  go_enter Tryz.func45, Tryz.ntmps45
  go_wp2_with fail
  refine hb.mono ?_
  rintro e w1 ⟨rfl, hw⟩
  rw [hw]
  clear hw
  go_wp2
  go_ret
  have hkk : Kept (fun x => x = b) w (w.setCell ⟨b, 13, none⟩ (.slice (some ⟨g, o + 3, none⟩) (r.length + 1) (c - 1))) := Kept.cell1
  refine ⟨rfl, DocIn.doc (w := w) (w1 := w) ⟨⟨.slice (some ⟨g, o + 3, none⟩) (r.length + 1) (c - 1), afp, hT.store hkk (fun vi vk cnt hh => by rw [heap_set_same hh]; simp), ?_, fun x hx => .inl hx⟩, hkk⟩ ⟨⟨ok.text, ok.every1, ok.every2, ok.half, ok.number, ok.sum, ok.len0, ok.len1⟩, ok.counted, ok.kind, by simp [hk]⟩ hbm (Nat.le_refl _) (Kept.refl _ _) hT.lt HAP.out⟩
  refine .inr ⟨g, o + 3, c - 1, rfl, hf, by simpa using hg, by simp only [List.length_cons]; omega, by simp only [maxLen]; omega, fun j u hj => ?_⟩
  have hne : b ≠ g := fun e => hgb (e ▸ hbm)
  rw [World.cell?_of_block (w := w) (hkk.block g hg (fun e => hne e.symm))]
  have := hcell (3 + j) u (by
    have e : actsCells (a :: a2 :: r) = actCells a ++ actsCells (a2 :: r) := rfl
    rw [e, List.getElem?_append_right (by simp [actCells])]
    simpa [actCells] using hj)
  rw [← Nat.add_assoc] at this
  exact this

theorem heap_set3 {W : World} {Hb : Nat} {T : TypeId} {cs : Array Value} {i j k : Nat} {v0 v1 v2 : Value} (h : W.heap[Hb]? = some (.cells cs T (0, 0))) :
    (((W.setCell ⟨Hb, i, none⟩ v0).setCell ⟨Hb, j, none⟩ v1).setCell ⟨Hb, k, none⟩ v2).heap[Hb]? = some (.cells (((cs.setIfInBounds i v0).setIfInBounds j v1).setIfInBounds k v2) T (0, 0)) ∧
    Kept (fun x => x = Hb) W (((W.setCell ⟨Hb, i, none⟩ v0).setCell ⟨Hb, j, none⟩ v1).setCell ⟨Hb, k, none⟩ v2) :=
  ⟨heap_set_same (heap_set_same (heap_set_same h)), (Kept.cell1.step Kept.cell1).step Kept.cell1⟩

set_option maxHeartbeats 1000000 in
theorem done_fail {w b d va tfp afp} (h : DocAt w b d va tfp afp) (hk : d.kind ≠ 0) (hr : d.acts.length ≤ 1000) : Calls Tryz.prog 45 #[.pointer (some ⟨b, 0, none⟩), .bool false] w fun e w' => e = .returned (.int .i64 0) ∧ DocTo w w' b (tfp ++ afp) d.over := by
  have hb := busy_any h
  rw [decide_eq_true hk] at hb
  obtain ⟨vi, vk, hb0⟩ := h.cells
  have ok := h.ok
  have hbm := h.tree.mem
  have hT := h.tree
  have HAP : Hid (∀ x ∈ afp, x ∉ tfp) := h.apart
  have hne := ok.acts.1 hk
  have fin : ∀ w', TreeR w' b (docRest d.over (.slice none 0 0)) docT d.lines tfp → Kept (fun x => x = b) w w' → DocTo w w' b (tfp ++ afp) d.over := fun w' h1 h2 =>
    DocIn.doc (w := w) (w1 := w) ⟨⟨.slice none 0 0, [], h1, .inl ⟨rfl, rfl, rfl⟩, fun x hx => by cases hx⟩, h2⟩ ⟨⟨ok.text, ok.every1, ok.every2, ok.half, ok.number, ok.sum, ok.len0, ok.len1⟩, ok.counted, Nat.zero_le _, by simp⟩ hbm (Nat.le_refl _) (Kept.refl _ _) hT.lt HAP.out
  rcases h.acts with ⟨_, h0, _⟩ | ⟨g, o, c, hva, hf, hg, hn, hcm, hcell⟩
  · exact absurd h0 hne
  obtain ⟨n, hn0⟩ : ∃ n, d.acts.length = n + 1 := ⟨d.acts.length - 1, by have := List.length_pos_iff.2 hne; omega⟩
  rw [hn0] at hva hn
  subst hva
  simp only [maxLen] at hcm
  have hi1 : (1 : Int) ≤ ((n : Int) + 1) := by omega
  have hi2 : 1 ≤ n + 1 := by omega
  obtain ⟨hc0, hf0⟩ := cells_of hb0
  clear hcell hne
  by_cases hc1 : c = 1
  all_goals
    clear hn0
    go_enter Tryz.func45, Tryz.ntmps45
    go_wp2_with fail
    refine hb.mono ?_
    rintro e w1 ⟨rfl, hw⟩
    rw [hw]
    clear hw
    go_wp2
    go_ret
    refine ⟨rfl, fin _ (hT.store ?_ (fun vi vk cnt hh => ?_)) ?_⟩
    · exact (Kept.cell1.step Kept.cell1).step Kept.cell1
    · rw [(heap_set3 hh).1]; simp
    · exact (Kept.cell1.step Kept.cell1).step Kept.cell1

set_option maxHeartbeats 1000000 in
/-- What becomes of a document whose last act was done. -/
theorem done_last {w b d va tfp afp} (h : DocAt w b d va tfp afp) (a : PAct) (hk : d.kind ≠ 0) (ha : d.acts = [a]) : Calls Tryz.prog 45 #[.pointer (some ⟨b, 0, none⟩), .bool true] w fun e w' => e = .returned (.int .i64 0) ∧ DocTo w w' b (tfp ++ afp) d.succeeded := by
  have hb := busy_any h
  rw [decide_eq_true hk] at hb
  obtain ⟨vi, vk, hb0⟩ := h.cells
  have ok := h.ok
  have hbm := h.tree.mem
  have hT := h.tree
  have HAP : Hid (∀ x ∈ afp, x ∉ tfp) := h.apart
  have hk2 := ok.kind
  rcases h.acts with ⟨_, h0, _⟩ | ⟨g, o, c, hva, hf, hg, hn, hcm, hcell⟩
  · rw [h0] at ha; cases ha
  rw [ha] at hva hn
  have hlen : [a].length = 1 := rfl
  rw [hlen] at hva hn
  subst hva
  simp only [maxLen] at hcm
  obtain ⟨hc0, hf0⟩ := cells_of hb0
  have HA : Hid (d.acts = [a]) := ha
  clear hcell ha hlen
  have fin : ∀ w1 w', DocAt w b d (.slice (some ⟨g, o, none⟩) 1 c) tfp afp → Kept (fun x => x = b) w w1 → TreeR w' b (docRest d.succeeded (.slice none 0 0)) docT d.lines tfp → Kept (fun x => x = b) w1 w' → DocTo w w' b (tfp ++ afp) d.succeeded := fun w1 w' _ hk1 h1 h2 => by
    have hs : d.succeeded.lines = d.lines ∧ d.succeeded.acts = [] ∧ d.succeeded.Ok := by
      unfold DocS.succeeded
      split
      · exact ⟨rfl, rfl, ⟨⟨ok.text, ok.every1, ok.every2, ok.half, ok.number, crc_lt _, by simp only [markOf]; omega, by have := ok.text.length; simp only [markOf, DocS.text]; omega⟩, ok.counted, Nat.zero_le _, by simp⟩⟩
      · refine ⟨rfl, rfl, ⟨⟨ok.text, ok.every1, ok.every2, ?_, fits_next _, ok.sum, ok.len0, ok.len1⟩, ok.counted, Nat.zero_le _, by simp⟩⟩
        show 1 - d.wr.half ≤ 1; omega
    refine DocIn.doc (w := w) (w1 := w) ⟨⟨.slice none 0 0, [], hs.1 ▸ h1, .inl ⟨rfl, hs.2.1, rfl⟩, fun x hx => by cases hx⟩, hk1.step h2⟩ hs.2.2 hbm (Nat.le_refl _) (Kept.refl _ _) hT.lt HAP.out
  have hover : ∀ v', TreeR (((w.setCell ⟨b, 13, none⟩ v').setCell ⟨b, 12, none⟩ (.int .i64 0)).setCell ⟨b, 13, none⟩ (.slice none 0 0)) b (docRest d.over (.slice none 0 0)) docT d.lines tfp ∧ Kept (fun x => x = b) w (((w.setCell ⟨b, 13, none⟩ v').setCell ⟨b, 12, none⟩ (.int .i64 0)).setCell ⟨b, 13, none⟩ (.slice none 0 0)) := fun v' => by
    have k : Kept (fun x => x = b) w (((w.setCell ⟨b, 13, none⟩ v').setCell ⟨b, 12, none⟩ (.int .i64 0)).setCell ⟨b, 13, none⟩ (.slice none 0 0)) := (Kept.cell1.step Kept.cell1).step Kept.cell1
    exact ⟨hT.store k (fun vi vk cnt hh => by rw [(heap_set3 hh).1]; simp), k⟩
  by_cases h2 : d.kind = 2
  · have hsd : d.succeeded = { d.over with file := markOf d.text } := by simp [DocS.succeeded, h2, DocS.text]
    rw [hsd] at fin ⊢
    have hki : (d.kind : Int) = 2 := by omega
    clear h2 hk
    by_cases hc1 : c = 1
    all_goals
      go_enter Tryz.func45, Tryz.ntmps45
      go_wp2_with fail
      refine hb.mono ?_
      rintro e w1 ⟨rfl, hw⟩
      rw [hw]
      clear hw
      go_wp2_with fail
      refine (succ_save (hover _).1 ok.toBase).mono ?_
      rintro e w2 ⟨rfl, hT2, hk2'⟩
      go_wp2
      go_ret
      exact ⟨rfl, fin _ _ h (hover _).2 hT2 hk2'⟩
  · have h1 : d.kind = 1 := by omega
    have hsd : d.succeeded = { d.over with wr := d.wr.written, edits := 0 } := by simp [DocS.succeeded, h2]
    rw [hsd] at fin ⊢
    have hki : (d.kind : Int) = 1 := by omega
    clear h2 hk h1
    by_cases hc1 : c = 1
    all_goals
      go_enter Tryz.func45, Tryz.ntmps45
      go_wp2_with fail
      refine hb.mono ?_
      rintro e w1 ⟨rfl, hw⟩
      rw [hw]
      clear hw
      go_wp2_with fail
      refine (succ_sync (hover _).1 ok.toBase).mono ?_
      rintro e w2 ⟨rfl, hT2, hk2'⟩
      go_wp2
      go_ret
      exact ⟨rfl, fin _ _ h (hover _).2 hT2 hk2'⟩
end Go.Proofs.YtdpfohgkikjeaaaGreat
/- Insert, Delete, Replace. -/
namespace Go.Proofs.YtdpfohgkikjeaaaGreat
open Go.RowKit
set_option linter.unusedVariables false
set_option linter.unusedSimpArgs false

theorem DocAt.same {w b d va tfp afp} (h : DocAt w b d va tfp afp) : DocTo w w b (tfp ++ afp) d := ⟨⟨_, ⟨_, _, _, h, rfl⟩, fun x hx => .inl hx⟩, Kept.refl _ _⟩

theorem DocS.Ok.edited_ok {d : DocS} (ok : d.Ok) (hk : d.kind = 0) : d.edited.Ok := by
  unfold DocS.edited
  split
  · exact DocS.Base.sync_ok (d := { d with edits := d.edits + 1, counted := d.counted + 1 }) ⟨ok.text, ok.every1, ok.every2, ok.half, ok.number, ok.sum, ok.len0, ok.len1⟩
  · refine ⟨⟨ok.text, ok.every1, ok.every2, ok.half, ok.number, ok.sum, ok.len0, ok.len1⟩, ?_, ok.kind, ok.acts⟩
    have := ok.counted
    show d.counted + 1 < d.every
    omega

theorem DocS.Ok.setLines {d : DocS} (ok : d.Ok) {ls : List Str} (h : TextOk ls) : (d.setLines ls).Ok := ⟨⟨h, ok.every1, ok.every2, ok.half, ok.number, ok.sum, ok.len0, ok.len1⟩, ok.counted, ok.kind, ok.acts⟩

theorem TextOk.insert {ls : List Str} {l : Str} (h : TextOk ls) (p : Nat) (hl : LineOk l) (hn : ls.length < 60) : TextOk (ls.take p ++ l :: ls.drop p) := by
  refine ⟨?_, fun x hx => ?_⟩
  · simp only [List.length_append, List.length_cons, List.length_take, List.length_drop]; omega
  · rcases List.mem_append.1 hx with hx | hx
    · exact h.lines x (List.mem_of_mem_take hx)
    · rcases List.mem_cons.1 hx with rfl | hx
      · exact hl
      · exact h.lines x (List.mem_of_mem_drop hx)
theorem TextOk.delete {ls : List Str} (h : TextOk ls) (p : Nat) : TextOk (ls.take p ++ ls.drop (p + 1)) := by
  refine ⟨?_, fun x hx => ?_⟩
  · have := h.few
    simp only [List.length_append, List.length_take, List.length_drop]; omega
  · rcases List.mem_append.1 hx with hx | hx
    · exact h.lines x (List.mem_of_mem_take hx)
    · exact h.lines x (List.mem_of_mem_drop hx)
theorem TextOk.replace {ls : List Str} {l : Str} (h : TextOk ls) (p : Nat) (hl : LineOk l) (hp : p < ls.length) : TextOk (ls.take p ++ l :: ls.drop (p + 1)) := by
  refine ⟨?_, fun x hx => ?_⟩
  · have := h.few
    simp only [List.length_append, List.length_cons, List.length_take, List.length_drop]; omega
  · rcases List.mem_append.1 hx with hx | hx
    · exact h.lines x (List.mem_of_mem_take hx)
    · rcases List.mem_cons.1 hx with rfl | hx
      · exact hl
      · exact h.lines x (List.mem_of_mem_drop hx)

/-- A tree was turned, then the edit counted. -/
theorem tree_edited {w w1 : World} {b : Nat} {d : DocS} {va : Value} {tfp afp tfp1 : List Nat} {ls : List Str} (h : DocAt w b d va tfp afp) (hk : d.kind = 0) (hT : TreeTo w w1 b (docRest d va) docT tfp ls tfp1) (hok : TextOk ls) (he : d.edits ≤ 8000000000000) :
    Calls Tryz.prog 54 #[.pointer (some ⟨b, 0, none⟩)] w1 fun e w' => e = .returned (.tuple #[]) ∧ DocTo w w' b (tfp ++ afp) (d.setLines ls).edited := by
  have ok := h.ok.setLines hok
  have hbm := hT.tree.mem
  have hA1 := h.acts.kept hT.kept h.apart
  have hap1 : ∀ x ∈ afp, x ∉ tfp1 := fun x hx hx2 => by
    rcases hT.sub x hx2 with h1 | h1
    · exact h.apart x hx h1
    · have := h.acts.lt x hx; omega
  refine (edited_any (d := d.setLines ls) (va := va) (tfp := tfp1) (afp := afp) hT.tree hA1 (fun hb => hap1 b hb hbm) ok.toBase he ok.counted).mono ?_
  rintro e w' ⟨rfl, hI⟩
  have hl : ((d.setLines ls).edited).lines = ls := by unfold DocS.edited; split <;> rfl
  have hD := DocIn.doc (w := w1) (w1 := w1) hI (ok.edited_ok hk) hbm (Nat.le_refl _) (Kept.refl _ _) hT.tree.lt hap1
  obtain ⟨⟨fp', hD', hs⟩, hk'⟩ := hD
  refine ⟨rfl, ⟨fp', hD', fun x hx => ?_⟩, (hT.kept.mono (fun x hx _ => List.mem_append.2 (.inl hx))).step' hk' (fun x hx hlt => ?_)⟩
  · rcases hs x hx with h1 | h1
    · rcases List.mem_append.1 h1 with h2 | h2
      · exact (hT.sub x h2).imp (fun h => List.mem_append.2 (.inl h)) id
      · exact .inl (List.mem_append.2 (.inr h2))
    · exact .inr (Nat.le_trans hT.kept.size h1)
  · rcases List.mem_append.1 hx with h2 | h2
    · rcases hT.sub x h2 with h3 | h3
      · exact List.mem_append.2 (.inl h3)
      · omega
    · exact List.mem_append.2 (.inr h2)

set_option maxHeartbeats 1000000 in
theorem insert_doc {w b d va tfp afp} (h : DocAt w b d va tfp afp) (at_ : Int) (l : Str) (hl : l.length ≤ 140737488355328) (he : d.edits ≤ 8000000000000) :
    Calls Tryz.prog 25 #[.pointer (some ⟨b, 0, none⟩), .int .i64 at_, sv l] w fun e w' => e = .returned (.int .i64 ((d.insert at_ l).1 : Int)) ∧ DocTo w w' b (tfp ++ afp) (d.insert at_ l).2 := by
  have hb := busy_any h
  obtain ⟨vi, vk, hb0⟩ := h.cells
  have ok := h.ok
  by_cases hk : d.kind = 0
  rotate_left
  · have hd : d.insert at_ l = (5, d) := by simp [DocS.insert, hk]
    rw [hd]
    rw [decide_eq_true hk] at hb
    have hsame := h.same
    go_enter Tryz.func25, Tryz.ntmps25
    go_wp2_with (go_at_call 52; refine hb.mono ?_; rintro e w ⟨rfl, rfl⟩)
    go_ret
    exact ⟨rfl, hsame⟩
  rw [decide_eq_false (by omega : ¬ d.kind ≠ 0)] at hb
  by_cases hat : at_ < 0 ∨ at_ > (d.lines.length : Int)
  · have hd : d.insert at_ l = (1, d) := by simp [DocS.insert, hk, hat]
    rw [hd]
    have hsame := h.same
    by_cases h0 : at_ < 0
    · have h0' : decide (at_ < 0) = true := by simpa using h0
      go_enter Tryz.func25, Tryz.ntmps25
      go_wp2_with (go_at_call 52; refine hb.mono ?_; rintro e w ⟨rfl, rfl⟩)
      go_ret
      exact ⟨rfl, hsame⟩
    · have h0' : decide (at_ < 0) = false := by simpa using h0
      have h1 : (d.lines.length : Int) < at_ := by omega
      go_enter Tryz.func25, Tryz.ntmps25
      go_wp2_with (first | (go_at_call 52; refine hb.mono ?_; rintro e w ⟨rfl, rfl⟩) | (go_at_call 46; refine (len_any hb0).mono ?_; rintro e w ⟨rfl, rfl⟩))
      go_ret
      exact ⟨rfl, hsame⟩
  have h0' : decide (at_ < 0) = false := by simp; omega
  have h1 : ¬ (d.lines.length : Int) < at_ := by omega
  have hil := fun w => isLine_any l w hl
  by_cases hline : LineOk l
  rotate_left
  · have hd : d.insert at_ l = (3, d) := by unfold DocS.insert; rw [if_neg (by omega), if_neg hat, if_pos hline]
    rw [hd]
    have hsame := h.same
    rw [decide_eq_false hline] at hil
    go_enter Tryz.func25, Tryz.ntmps25
    go_wp2_with (first | (go_at_call 52; refine hb.mono ?_; rintro e w ⟨rfl, rfl⟩) | (go_at_call 46; refine (len_any hb0).mono ?_; rintro e w ⟨rfl, rfl⟩) | (go_at_call 55; refine (hil _).mono ?_; rintro e w ⟨rfl, rfl⟩))
    go_ret
    exact ⟨rfl, hsame⟩
  rw [decide_eq_true hline] at hil
  by_cases hfull : d.lines.length = 60
  · have hd : d.insert at_ l = (4, d) := by unfold DocS.insert; rw [if_neg (by omega), if_neg hat, if_neg (fun hh => hh hline), if_pos hfull]
    rw [hd]
    have hsame := h.same
    have hf : ((d.lines.length : Int) == 60) = true := by rw [beq_iff_eq]; omega
    have hf2 : (d.lines.length : Int) = 60 := by omega
    go_enter Tryz.func25, Tryz.ntmps25
    go_wp2_with (first | (go_at_call 52; refine hb.mono ?_; rintro e w ⟨rfl, rfl⟩) | (go_at_call 46; refine (len_any hb0).mono ?_; rintro e w ⟨rfl, rfl⟩) | (go_at_call 55; refine (hil _).mono ?_; rintro e w ⟨rfl, rfl⟩))
    go_ret
    exact ⟨rfl, hsame⟩
  · obtain ⟨p, hp⟩ := Int.eq_ofNat_of_zero_le (by omega : 0 ≤ at_)
    subst hp
    have hpl : p ≤ d.lines.length := by omega
    have hfew := ok.text.few
    have hd : d.insert (p : Int) l = (0, (d.setLines (d.lines.take p ++ l :: d.lines.drop p)).edited) := by
      unfold DocS.insert; rw [if_neg (by omega), if_neg hat, if_neg (fun hh => hh hline), if_neg hfull, Int.toNat_natCast]
    rw [hd]
    have hf : ((d.lines.length : Int) == 60) = false := by rw [beq_eq_false_iff_ne]; omega
    have hf2 : ¬ (d.lines.length : Int) = 60 := by omega
    have hput := put_any h.tree p _ rfl hpl (by omega) l hl
    have hed := fun w1 tfp1 (hT : TreeTo w w1 b (docRest d va) docT tfp (d.lines.take p ++ l :: d.lines.drop p) tfp1) => tree_edited h hk hT (ok.text.insert p hline (by omega)) he
    clear hat h0' hd hk hline hfull
    have h0' : decide ((p : Int) < 0) = false := by simp
    go_enter Tryz.func25, Tryz.ntmps25
    go_wp2_with fail
    refine hb.mono ?_
    rintro e w1 ⟨rfl, hw⟩
    rw [hw]
    clear hw
    go_wp2_with fail
    refine (len_any hb0).mono ?_
    rintro e w1 ⟨rfl, hw⟩
    rw [hw]
    clear hw
    go_wp2_with fail
    refine (hil _).mono ?_
    rintro e w1 ⟨rfl, hw⟩
    rw [hw]
    clear hw
    go_wp2_with fail
    refine (len_any hb0).mono ?_
    rintro e w1 ⟨rfl, hw⟩
    rw [hw]
    clear hw
    go_wp2_with fail
    refine hput.mono ?_
    rintro e w1 ⟨rfl, tfp1, hT⟩
    go_wp2_with fail
    refine (hed _ _ hT).mono ?_
    rintro e w2 ⟨rfl, hD⟩
    go_wp2
    go_ret
    exact ⟨rfl, hD⟩

set_option maxHeartbeats 1000000 in
theorem delete_doc {w b d va tfp afp} (h : DocAt w b d va tfp afp) (at_ : Int) (he : d.edits ≤ 8000000000000) :
    Calls Tryz.prog 24 #[.pointer (some ⟨b, 0, none⟩), .int .i64 at_] w fun e w' => e = .returned (.int .i64 ((d.delete at_).1 : Int)) ∧ DocTo w w' b (tfp ++ afp) (d.delete at_).2 := by
  have hb := busy_any h
  have ok := h.ok
  have hfew := ok.text.few
  by_cases hk : d.kind = 0
  rotate_left
  · have hd : d.delete at_ = (5, d) := by simp [DocS.delete, hk]
    rw [hd]
    rw [decide_eq_true hk] at hb
    have hsame := h.same
    go_enter Tryz.func24, Tryz.ntmps24
    go_wp2_with (go_at_call 52; refine hb.mono ?_; rintro e w ⟨rfl, rfl⟩)
    go_ret
    exact ⟨rfl, hsame⟩
  rw [decide_eq_false (by omega : ¬ d.kind ≠ 0)] at hb
  by_cases hat : at_ < 0 ∨ at_ ≥ (d.lines.length : Int)
  · have hd : d.delete at_ = (1, d) := by unfold DocS.delete; rw [if_neg (by omega), if_pos hat]
    rw [hd]
    have hsame := h.same
    have hno := tdelete_no h.tree at_ hat
    clear hat
    go_enter Tryz.func24, Tryz.ntmps24
    go_wp2_with (first | (go_at_call 52; refine hb.mono ?_; rintro e w ⟨rfl, rfl⟩) | (go_at_call 53; refine hno.mono ?_; rintro e w ⟨rfl, rfl⟩))
    go_ret
    exact ⟨rfl, hsame⟩
  · obtain ⟨p, hp⟩ := Int.eq_ofNat_of_zero_le (by omega : 0 ≤ at_)
    subst hp
    have hpl : p < d.lines.length := by omega
    have hd : d.delete (p : Int) = (0, (d.setLines (d.lines.take p ++ d.lines.drop (p + 1))).edited) := by
      unfold DocS.delete; rw [if_neg (by omega), if_neg hat, Int.toNat_natCast]
    rw [hd]
    have hput := tdelete_yes h.tree p _ rfl hpl (by omega)
    have hed := fun w1 tfp1 (hT : TreeTo w w1 b (docRest d va) docT tfp (d.lines.take p ++ d.lines.drop (p + 1)) tfp1) => tree_edited h hk hT (ok.text.delete p) he
    clear hat hd hk
    go_enter Tryz.func24, Tryz.ntmps24
    go_wp2_with fail
    refine hb.mono ?_
    rintro e w1 ⟨rfl, hw⟩
    rw [hw]
    clear hw
    go_wp2_with fail
    refine hput.mono ?_
    rintro e w1 ⟨rfl, tfp1, hT⟩
    go_wp2_with fail
    refine (hed _ _ hT).mono ?_
    rintro e w2 ⟨rfl, hD⟩
    go_wp2
    go_ret
    exact ⟨rfl, hD⟩
end Go.Proofs.YtdpfohgkikjeaaaGreat
/- Replace, Line. -/
namespace Go.Proofs.YtdpfohgkikjeaaaGreat
open Go.RowKit
set_option linter.unusedVariables false
set_option linter.unusedSimpArgs false

theorem set_split {ls : List Str} {p : Nat} (l : Str) (h : p < ls.length) : ls.set p l = ls.take p ++ l :: ls.drop (p + 1) := by
  rw [List.set_eq_take_append_cons_drop, if_pos h]

set_option maxRecDepth 100000 in
set_option maxHeartbeats 1000000 in
theorem replace_doc {w b d va tfp afp} (h : DocAt w b d va tfp afp) (at_ : Int) (l : Str) (hl : l.length ≤ 140737488355328) (he : d.edits ≤ 8000000000000) :
    Calls Tryz.prog 40 #[.pointer (some ⟨b, 0, none⟩), .int .i64 at_, sv l] w fun e w' => e = .returned (.int .i64 ((d.replace at_ l).1 : Int)) ∧ DocTo w w' b (tfp ++ afp) (d.replace at_ l).2 := by
  have hb := busy_any h
  obtain ⟨vi, vk, hb0⟩ := h.cells
  have ok := h.ok
  by_cases hk : d.kind = 0
  rotate_left
  · have hd : d.replace at_ l = (5, d) := by simp [DocS.replace, hk]
    rw [hd]
    rw [decide_eq_true hk] at hb
    have hsame := h.same
    go_enter Tryz.func40, Tryz.ntmps40
    go_wp2_with (go_at_call 52; refine hb.mono ?_; rintro e w ⟨rfl, rfl⟩)
    go_ret
    exact ⟨rfl, hsame⟩
  rw [decide_eq_false (by omega : ¬ d.kind ≠ 0)] at hb
  by_cases hat : at_ < 0 ∨ at_ ≥ (d.lines.length : Int)
  · have hd : d.replace at_ l = (1, d) := by unfold DocS.replace; rw [if_neg (by omega), if_pos hat]
    rw [hd]
    have hsame := h.same
    by_cases h0 : at_ < 0
    · have h0' : decide (at_ < 0) = true := by simpa using h0
      go_enter Tryz.func40, Tryz.ntmps40
      go_wp2_with (go_at_call 52; refine hb.mono ?_; rintro e w ⟨rfl, rfl⟩)
      go_ret
      exact ⟨rfl, hsame⟩
    · have h0' : decide (at_ < 0) = false := by simpa using h0
      have h1 : (d.lines.length : Int) ≤ at_ := by omega
      go_enter Tryz.func40, Tryz.ntmps40
      go_wp2_with (first | (go_at_call 52; refine hb.mono ?_; rintro e w ⟨rfl, rfl⟩) | (go_at_call 46; refine (len_any hb0).mono ?_; rintro e w ⟨rfl, rfl⟩))
      go_ret
      exact ⟨rfl, hsame⟩
  have h0' : decide (at_ < 0) = false := by simp; omega
  have h1 : ¬ (d.lines.length : Int) ≤ at_ := by omega
  have hil := fun w => isLine_any l w hl
  by_cases hline : LineOk l
  rotate_left
  · have hd : d.replace at_ l = (3, d) := by unfold DocS.replace; rw [if_neg (by omega), if_neg hat, if_pos hline]
    rw [hd]
    have hsame := h.same
    rw [decide_eq_false hline] at hil
    go_enter Tryz.func40, Tryz.ntmps40
    go_wp2_with (first | (go_at_call 52; refine hb.mono ?_; rintro e w ⟨rfl, rfl⟩) | (go_at_call 46; refine (len_any hb0).mono ?_; rintro e w ⟨rfl, rfl⟩) | (go_at_call 55; refine (hil _).mono ?_; rintro e w ⟨rfl, rfl⟩))
    go_ret
    exact ⟨rfl, hsame⟩
  rw [decide_eq_true hline] at hil
  obtain ⟨p, hp⟩ := Int.eq_ofNat_of_zero_le (by omega : 0 ≤ at_)
  subst hp
  have hpl : p < d.lines.length := by omega
  have hfew := ok.text.few
  have hd : d.replace (p : Int) l = (0, (d.setLines (d.lines.take p ++ l :: d.lines.drop (p + 1))).edited) := by
    unfold DocS.replace; rw [if_neg (by omega), if_neg hat, if_neg (fun hh => hh hline), Int.toNat_natCast]
  rw [hd]
  have hsz : (⟨l.toArray⟩ : ByteArray).size ≤ 281474976710656 := by rw [size_mk]; omega
  have hed := fun w1 tfp1 (hT : TreeTo w w1 b (docRest d va) docT tfp (d.lines.take p ++ l :: d.lines.drop (p + 1)) tfp1) => tree_edited h hk hT (ok.text.replace p hline hpl) he
  clear hat h0' hd hk hline
  have h0' : decide ((p : Int) < 0) = false := by simp
  have hT0 := h.tree
  go_enter Tryz.func40, Tryz.ntmps40
  go_wp2_with fail
  refine hb.mono ?_
  rintro e w1 ⟨rfl, hw⟩
  rw [hw]
  clear hw
  go_wp2_with fail
  refine (len_any hb0).mono ?_
  rintro e w1 ⟨rfl, hw⟩
  rw [hw]
  clear hw
  go_wp2_with fail
  refine (hil _).mono ?_
  rintro e w1 ⟨rfl, hw⟩
  rw [hw]
  clear hw
  go_wp2_with fail
  refine wp_region3 (fun _ => True) [(0, true), (1, true), (2, true), (3, true), (4, true)] [5, 6] (by kernel_rfl) (by kernel_rfl) (fun _ _ d _ _ h => by cases d <;> exact h) trivial ?_
  repeat (refine wpPre3_pure rfl rfl (fun W => (by go_simp; rfl)) ?_; simp only [Act.put, List.setIfInBounds_toArray, List.set])
  refine wpPre3_nil ?_
  refine wpTail3_cons rfl rfl (fun K hK => ?_)
  go_wp2_with fail
  refine (clone_any ⟨l.toArray⟩ _ hsz).mono ?_
  rintro e w1 ⟨rfl, hk1'⟩
  have hk1 : Kept no w w1 := hk1'.of_drew
  refine hK _ _ ⟨fun _ => trivial, ?_⟩
  clear hK
  have hT1 := hT0.kept hk1 (fun _ _ h => h)
  refine wpTail3_cons rfl rfl (fun K hK => ?_)
  go_wp2_with fail
  refine (tset_any hT1 p _ rfl hpl (by omega) l).mono ?_
  rintro e w2 ⟨rfl, fp', hT2, hsub, hk2⟩
  refine hK _ _ ⟨fun _ => trivial, ?_⟩
  clear hK
  refine wpTail3_nil ?_
  rw [set_split l hpl] at hT2
  have hTT : TreeTo w w2 b (docRest d va) docT tfp (d.lines.take p ++ l :: d.lines.drop (p + 1)) fp' := ⟨hT2, fun x hx => (hsub x hx).imp id (fun h => Nat.le_trans hk1.size h), (hk1.mono (fun _ h _ => h.elim)).step hk2⟩
  go_wp2_with fail
  refine (hed _ _ hTT).mono ?_
  rintro e w3 ⟨rfl, hD⟩
  go_wp2
  go_ret
  exact ⟨rfl, hD⟩

theorem line_no {w b d va tfp afp} (h : DocAt w b d va tfp afp) (p : Int) (hp : p < 0 ∨ (d.lines.length : Int) ≤ p) : Calls Tryz.prog 92 #[.pointer (some ⟨b, 0, none⟩), .int .i64 p] w fun e w' => e = .returned (.tuple #[.string ⟨#[]⟩, .int .i64 1]) ∧ w' = w := by
  have hno := at_no h.tree p hp
  clear hp
  go_enter Tryz.func92, Tryz.ntmps92
  go_wp2_with (go_at_call 126; refine hno.mono ?_; rintro e w ⟨rfl, rfl⟩)
  go_ret2
  exact ⟨rfl, rfl⟩

theorem line_yes {w b d va tfp afp} (h : DocAt w b d va tfp afp) (p : Nat) (hp : p < d.lines.length) : Calls Tryz.prog 92 #[.pointer (some ⟨b, 0, none⟩), .int .i64 (p : Int)] w fun e w' => e = .returned (.tuple #[sv d.lines[p], .int .i64 0]) ∧ w' = w := by
  have hy := at_yes h.tree p hp (by have := h.ok.text.few; omega)
  generalize d.lines[p] = x at hy
  go_enter Tryz.func92, Tryz.ntmps92
  go_wp2_with (go_at_call 126; refine hy.mono ?_; rintro e w ⟨rfl, rfl⟩)
  go_ret2
  exact ⟨rfl, rfl⟩
end Go.Proofs.YtdpfohgkikjeaaaGreat
/- cut: the bytes of a text into its lines. -/
namespace Go.Proofs.YtdpfohgkikjeaaaGreat
open Go.RowKit
set_option linter.unusedVariables false
set_option linter.unusedSimpArgs false

theorem textOf_prefix {done ls : List Str} {rest : Str} (hd : ∀ l ∈ done, (10 : UInt8) ∉ l) (hl : ∀ l ∈ ls, (10 : UInt8) ∉ l) (h : textOf done ++ rest = textOf ls) : ∃ ls', ls = done ++ ls' ∧ rest = textOf ls' := by
  induction done generalizing ls with
  | nil => exact ⟨ls, rfl, by simpa [textOf_nil] using h⟩
  | cons x done ih =>
    cases ls with
    | nil => rw [textOf_cons, textOf_nil] at h; simp at h
    | cons y ls =>
      rw [textOf_cons, textOf_cons, List.append_assoc, List.cons_append] at h
      obtain ⟨h1, h2⟩ := split_unique h (hd x (by simp)) (hl y (by simp))
      obtain ⟨ls', h3, h4⟩ := ih (fun l hh => hd l (by simp [hh])) (fun l hh => hl l (by simp [hh])) h2
      exact ⟨ls', by rw [h1, h3]; rfl, h4⟩

/-- What is left of a text behind some of its lines. -/
theorem rest_of {s rest : Str} {done : List Str} (hd : ∀ l ∈ done, LineOk l) (h : textOf done ++ rest = s) (hs : IsText s) (hne : rest ≠ []) : ∃ x r, rest = x ++ 10 :: r ∧ LineOk x ∧ done.length < 60 := by
  obtain ⟨ls, hok, hls⟩ := hs
  obtain ⟨ls', h1, h2⟩ := textOf_prefix (fun l hl => (hd l hl).2) (fun l hl => (hok.lines l hl).2) (h.trans hls.symm)
  cases ls' with
  | nil => exact absurd h2 hne
  | cons x r =>
    refine ⟨x, textOf r, by rw [h2, textOf_cons], hok.lines x (by rw [h1]; simp), ?_⟩
    have := hok.few
    rw [h1] at this
    simp at this
    omega

/-- What cut answers. -/
def CutTo (w w' : World) (s : Str) (e : Ending) : Prop :=
  (∃ ls v, TextOk ls ∧ textOf ls = s ∧ e = .returned (.tuple #[v, .bool true]) ∧ Row w' 9 1 v ls.length (ls.map sv) ∧ (∀ x ∈ fpv v, w.heap.size ≤ x)) ∨ (¬ IsText s ∧ e = .returned (.tuple #[.slice none 0 0, .bool false]))

set_option maxHeartbeats 2000000 in
set_option maxRecDepth 100000 in
theorem cut_any (s : Str) (w : World) (hs : s.length ≤ 1099511627776) : Calls Tryz.prog 73 #[.string ⟨s.toArray⟩] w fun e w' => CutTo w w' s e ∧ Kept no w w' := by
  go_enter Tryz.func73, Tryz.ntmps73
  go_wp2
  go_loopw [0, 4] (fun s0 s4 wr => ∃ done rest, s0 = sv rest ∧ textOf done ++ rest = s ∧ (∀ l ∈ done, LineOk l) ∧ done.length ≤ 60 ∧ Row wr 9 1 s4 done.length (done.map sv) ∧ (∀ x ∈ fpv s4, w.heap.size ≤ x) ∧ Kept no w wr) (fun s0 _ _ => match s0 with | .string b => b.size | _ => 0)
  case atStart => exact ⟨[], s, rfl, rfl, by simp, by simp, Row.nilrow _ _, by simp [fpv_nil], Kept.refl _ _⟩
  case round =>
    obtain ⟨done, rest, rfl, hsp, hdl, h60, hrow, hfr, hkw⟩ := hrel
    obtain ⟨p4, c4, rfl⟩ := hrow.slice
    have HSP : Hid (textOf done ++ rest = s) := hsp
    have hrl : rest.length ≤ s.length := by rw [← hsp, List.length_append]; omega
    clear hsp
    by_cases h0 : rest = []
    · subst h0
      go_wp2
      go_ret2
      have := HSP.out
      rw [List.append_nil] at this
      exact ⟨.inl ⟨done, _, ⟨h60, hdl⟩, this, rfl, hrow, hfr⟩, hkw⟩
    · have hb : rest.isEmpty = false := by cases rest with
        | nil => exact absurd rfl h0
        | cons => rfl
      have hcut := cutstr_any ⟨rest.toArray⟩ wr (by rw [size_mk]; omega)
      by_cases hm : (10 : UInt8) ∈ rest
      · have hcut2 := hcut.mono (R' := fun e w1 => ∃ a b', rest = a ++ 10 :: b' ∧ 10 ∉ a ∧ e = .returned (.tuple #[sv a, sv b', .bool true]) ∧ Kept no wr w1) (fun e w1 ⟨hh, j, hw⟩ => by
          rcases hh with ⟨a, b', h1, h2, h3⟩ | ⟨h1, _⟩
          · exact ⟨a, b', h1, h2, h3, by rw [hw]; exact (Kept.refl _ _).drewN j⟩
          · exact absurd hm h1)
        clear hcut
        go_wp2_with fail
        refine hcut2.mono ?_
        rintro e w1 ⟨a, b', hab, hna, rfl, hk1⟩
        have HAB : Hid (rest = a ++ 10 :: b') := hab
        have hal : a.length < rest.length ∧ b'.length < rest.length := by rw [hab]; simp; omega
        clear hab hcut2
        have hrow1 := hrow.kept hk1 (fun _ _ h => h)
        have hkw1 := hkw.step hk1
        have hil := isLine_any a w1 (by omega)
        by_cases hline : LineOk a
        · rw [decide_eq_true hline] at hil
          by_cases hfull : done.length = 60
          · have hf : ((done.length : Int) == 60) = true := by rw [beq_iff_eq]; omega
            have hf2 : (done.length : Int) = 60 := by omega
            have hnot : ¬ IsText s := fun ht => by obtain ⟨_, _, _, _, h⟩ := rest_of hdl HSP.out ht h0; omega
            clear hfull
            go_wp2_with fail
            refine hil.mono ?_
            rintro e w2 ⟨rfl, hw⟩
            rw [hw]
            clear hw
            go_wp2
            go_ret2
            exact ⟨.inr ⟨hnot, rfl⟩, hkw1⟩
          · have hf : ((done.length : Int) == 60) = false := by rw [beq_eq_false_iff_ne]; omega
            have hf2 : ¬ (done.length : Int) = 60 := by omega
            go_wp2_with fail
            refine hil.mono ?_
            rintro e w2 ⟨rfl, hw⟩
            rw [hw]
            clear hw
            go_wp2_with (at_builtin; apply hold)
            delta Hid
            refine wpList_push rfl _ _ 34 rfl tyS _ _ _ rfl (hrow1.alloc _) _ 1 (sv a) rfl (by rw [(cells_of heap_alloc_same).1]; rfl) rfl (by decide) (by omega) (fun v5 w5 hr hg => ?_)
            go_wp2
            go_roundw
            case rel =>
              refine ⟨done ++ [a], b', rfl, ?_, ?_, by simp; omega, ?_, fun x hx => ?_, ?_⟩
              · have := HSP.out
                rw [HAB.out] at this
                rw [← this, textOf_append]
                simp [textOf]
              · intro l hl
                rcases List.mem_append.1 hl with hl | hl
                · exact hdl l hl
                · simp at hl; subst hl; exact hline
              · have e : (done ++ [a]).map sv = done.map sv ++ [sv a] := by simp
                rw [e, List.length_append]
                exact hr
              · rcases hg.2 x hx with h1 | h1
                · exact hfr x h1
                · have := hkw1.size; simp at h1; omega
              · exact (hkw1.step ((Kept.refl _ _).alloc _)).step' hg.1 (fun x hx hlt => by have := hfr x hx; omega)
            case measure =>
              simp only [size_mk]
              omega
        · rw [decide_eq_false hline] at hil
          have hnot : ¬ IsText s := fun ht => by
            obtain ⟨x, r, h1, h2, _⟩ := rest_of hdl HSP.out ht h0
            have := split_unique (HAB.out.symm.trans h1) hna h2.2
            exact hline (this.1 ▸ h2)
          go_wp2_with fail
          refine hil.mono ?_
          rintro e w2 ⟨rfl, hw⟩
          rw [hw]
          clear hw
          go_wp2
          go_ret2
          exact ⟨.inr ⟨hnot, rfl⟩, hkw1⟩
      · have hcut2 := hcut.mono (R' := fun e w1 => e = .returned (.tuple #[.string ⟨rest.toArray⟩, .string ⟨#[]⟩, .bool false]) ∧ Kept no wr w1) (fun e w1 ⟨hh, j, hw⟩ => by
          rcases hh with ⟨a, b', h1, h2, h3⟩ | ⟨_, h1⟩
          · exact absurd (by have h1' : rest = a ++ 10 :: b' := h1; rw [h1']; simp) hm
          · exact ⟨h1, by rw [hw]; exact (Kept.refl _ _).drewN j⟩)
        clear hcut
        have hnot : ¬ IsText s := fun ht => by
          obtain ⟨x, r, h1, _⟩ := rest_of hdl HSP.out ht h0
          exact hm (by rw [h1]; simp)
        go_wp2_with fail
        refine hcut2.mono ?_
        rintro e w1 ⟨rfl, hk1⟩
        go_wp2
        go_ret2
        exact ⟨.inr ⟨hnot, rfl⟩, hkw.step hk1⟩
end Go.Proofs.YtdpfohgkikjeaaaGreat

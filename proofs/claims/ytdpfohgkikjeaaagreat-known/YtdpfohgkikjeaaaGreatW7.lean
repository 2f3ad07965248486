/- Part W 7 of the proof: see its parts. -/
import Derived.Scope
import Derived.ScopeJumps
import Derived.WalkMore
import Derived.Test.YtdpfohgkikjeaaaGreatW6
/- edited, saveActs, succeeded. -/
namespace Go.Proofs.YtdpfohgkikjeaaaGreat
open Go.RowKit
set_option linter.unusedVariables false
set_option linter.unusedSimpArgs false

/-- What is left of a document whose tree stays. -/
structure DocIn (w w' : World) (b : Nat) (d' : DocS) (tfp afp : List Nat) : Prop where
  ex : ∃ va' afp', TreeR w' b (docRest d' va') docT d'.lines tfp ∧ ActsAt w' va' d'.acts afp' ∧ ∀ x ∈ afp', x ∈ afp ∨ w.heap.size ≤ x
  kept : Kept (fun x => x = b) w w'

set_option maxHeartbeats 1000000 in
set_option maxRecDepth 100000 in
theorem edited_any {w b d va tfp afp} (hT : TreeR w b (docRest d va) docT d.lines tfp) (hA : ActsAt w va d.acts afp) (hba : b ∉ afp) (ok : d.Base) (he : d.edits ≤ 1000000000000) (hcn : d.counted < d.every) :
    Calls Tryz.prog 54 #[.pointer (some ⟨b, 0, none⟩)] w fun e w' => e = .returned (.tuple #[]) ∧ DocIn w w' b d.edited tfp afp := by
  obtain ⟨vi, vk, hb⟩ := hT.count
  obtain ⟨hc, hf⟩ := cells_of hb
  have h20 := ok.every2
  have hw1 : IntKind.i64.wrap ((d.edits : Int) + 1) = (d.edits : Int) + 1 := by rw [IntKind.wrap_i64]; omega
  have hw2 : IntKind.i64.wrap ((d.counted : Int) + 1) = (d.counted : Int) + 1 := by rw [IntKind.wrap_i64]; omega
  go_enter Tryz.func54, Tryz.ntmps54
  go_wp2_with fail
  obtain ⟨d1, hd1⟩ : ∃ d1 : DocS, d1 = { d with edits := d.edits + 1, counted := d.counted + 1 } := ⟨_, rfl⟩
  have hkk : Kept (fun x => x = b) w ((w.setCell ⟨b, 6, none⟩ (.int .i64 ((d.edits : Int) + 1))).setCell ⟨b, 7, none⟩ (.int .i64 ((d.counted : Int) + 1))) := Kept.cell1.step Kept.cell1
  have hT1 : TreeR ((w.setCell ⟨b, 6, none⟩ (.int .i64 ((d.edits : Int) + 1))).setCell ⟨b, 7, none⟩ (.int .i64 ((d.counted : Int) + 1))) b (docRest d1 va) docT d1.lines tfp := by
    rw [hd1]
    exact hT.store hkk (fun vi vk cnt hh => by rw [(heap_set2 hh).1]; simp)
  have hA1 := hA.kept hkk (fun x hx e => hba (e ▸ hx))
  have hb1 : ((w.setCell ⟨b, 6, none⟩ (.int .i64 ((d.edits : Int) + 1))).setCell ⟨b, 7, none⟩ (.int .i64 ((d.counted : Int) + 1))).heap[b]? = some (.cells (vi :: vk :: .int .i64 (d.lines.length : Int) :: docRest { d with edits := d.edits + 1, counted := d.counted + 1 } va).toArray docT (0, 0)) := by
    rw [(heap_set2 hb).1]; simp
  generalize (w.setCell ⟨b, 6, none⟩ (.int .i64 ((d.edits : Int) + 1))).setCell ⟨b, 7, none⟩ (.int .i64 ((d.counted : Int) + 1)) = w1 at hT1 hA1 hb1 hkk ⊢
  clear hc hf
  refine wp_region3 (fun W => W.heap[b]? = some (.cells (vi :: vk :: .int .i64 (d.lines.length : Int) :: docRest { d with edits := d.edits + 1, counted := d.counted + 1 } va).toArray docT (0, 0))) [(0, true), (1, true), (2, true), (3, false), (4, true), (5, true), (6, true), (7, false), (8, true)] [] (by kernel_rfl) (by kernel_rfl) (fun _ _ d _ _ h => by cases d <;> exact h) hb1 ?_
  have hnum : (((d.counted : Int) + 1) == (d.every : Int)) = decide (d.counted + 1 = d.every) := by rw [Bool.eq_iff_iff]; simp; omega
  by_cases hsync : d.counted + 1 = d.every
  · have hed : d.edited = d1.beginSync := by rw [hd1, DocS.edited, if_pos hsync]
    have hbs := beginSync_any (w := w1.drew) (d := d1) (va := va) (tfp := tfp) (hT1.kept (S := no) (Kept.refl _ _).drew (fun _ _ h => h)) (by rw [hd1]; exact ⟨ok.text, ok.every1, ok.every2, ok.half, ok.number, ok.sum, ok.len0, ok.len1⟩)
    rw [decide_eq_true hsync] at hnum
    have hl1 : d1.lines = d.lines := by rw [hd1]
    clear hd1 hsync
    repeat ((first | refine wpPre3_pure rfl rfl (fun W => (by go_simp; rfl)) ?_ | refine wpPre3_read rfl rfl (fun W hW => (by obtain ⟨hc, _⟩ := cells_of hW; go_simp; rfl)) ?_); simp only [Act.put, List.setIfInBounds_toArray, List.set])
    refine wpPre3_nil ?_
    refine wpTail3_nil ?_
    go_wp2_with fail
    refine hbs.mono ?_
    rintro e w2 ⟨rfl, v, afp', hT2, hA2, hf2, hk2'⟩
    have hk2 : Kept (fun x => x = b) w1 w2 := hk2'.of_drew
    go_wp2
    go_end0
    refine ⟨rfl, ⟨v, afp', ?_, by rw [hed]; exact hA2, fun x hx => .inr (Nat.le_trans hkk.size (hf2 x hx))⟩, hkk.step hk2⟩
    rw [hed]
    exact hT2
  · have hed : d.edited = d1 := by rw [hd1, DocS.edited, if_neg hsync]
    rw [decide_eq_false hsync] at hnum
    repeat ((first | refine wpPre3_pure rfl rfl (fun W => (by go_simp; rfl)) ?_ | refine wpPre3_read rfl rfl (fun W hW => (by obtain ⟨hc, _⟩ := cells_of hW; go_simp; rfl)) ?_); simp only [Act.put, List.setIfInBounds_toArray, List.set])
    refine wpPre3_nil ?_
    refine wpTail3_nil ?_
    clear hed
    go_wp2
    go_end0
    have hed : d.edited = d1 := by rw [hd1, DocS.edited, if_neg hsync]
    refine ⟨rfl, ⟨va, afp, ?_, ?_, fun x hx => .inl hx⟩, hkk.drew⟩
    · rw [hed]; exact hT1.kept (S := no) (Kept.refl _ _).drew (fun _ _ h => h)
    · rw [hed, hd1]; exact hA1

/-- Acts that are laid in a row. -/
theorem acts_block {w : World} {g : Nat} {l : List PAct} (h : w.heap[g]? = some (.cells (actsCells l).toArray actT (0, 0))) (hl : l.length ≤ 1000) : ActsRow w (.slice (some ⟨g, 0, none⟩) l.length l.length) l :=
  ⟨actsCells_length l, .inr ⟨g, l.length, (actsCells l).toArray, rfl, Nat.zero_le _, h, Nat.le_refl _, by simp only [maxLen]; omega, by simp [actsCells_length], by rw [← actsCells_length]; simp⟩⟩

end Go.Proofs.YtdpfohgkikjeaaaGreat
/- saveActs, Save, Sync. -/
namespace Go.Proofs.YtdpfohgkikjeaaaGreat
open Go.RowKit
set_option linter.unusedVariables false
set_option linter.unusedSimpArgs false

set_option maxHeartbeats 1000000 in
theorem saveActs_any (t : Str) (w : World) (ht : t.length ≤ 1000000) : Calls Tryz.prog 57 #[.string ⟨t.toArray⟩] w fun e w' => ∃ v, e = .returned v ∧ ActsRow w' v (saveActs t) ∧ Kept no w w' ∧ ∀ x ∈ fpv v, w.heap.size ≤ x := by
  have hA0 : AS w (w.alloc (Obj.cells #[.int .i64 3, .int .i64 0, .string ⟨#[]⟩] actT)) (.slice (some ⟨w.heap.size, 0, none⟩) 1 1) [⟨3, 0, []⟩] :=
    ⟨(Kept.refl _ _).alloc _, acts_block (l := [⟨3, 0, []⟩]) heap_alloc_same (by simp), fun x hx => by rw [fpv_some] at hx; simp at hx; omega⟩
  by_cases h0 : t = []
  · subst h0
    go_enter Tryz.func57, Tryz.ntmps57
    go_upto_if 7 with fail
    generalize Value.slice (some ⟨w.heap.size, 0, none⟩) 1 1 = v1 at hA0 ⊢
    generalize w.alloc (Obj.cells #[.int .i64 3, .int .i64 0, .string ⟨#[]⟩] actT) = w1 at hA0 ⊢
    go_wp2_with (at_builtin; apply hold)
    delta Hid
    refine wpList_acts rfl _ _ rfl _ _ rfl (hA0.alloc _).row _ 3 3 [⟨5, 0, []⟩, ⟨6, 0, []⟩, ⟨7, 0, []⟩] rfl rfl (by rw [heap_alloc_same]; rfl) (by simp) (fun v' w' hr hg => ?_)
    have hA4 := (hA0.alloc _).app hr hg
    go_wp2
    go_ret
    exact ⟨v', rfl, hA4.row, hA4.kept, hA4.fresh⟩
  · have hb : t.isEmpty = false := by cases t with
      | nil => exact absurd rfl h0
      | cons => rfl
    go_enter Tryz.func57, Tryz.ntmps57
    go_upto_if 7 with fail
    generalize Value.slice (some ⟨w.heap.size, 0, none⟩) 1 1 = v1 at hA0 ⊢
    generalize w.alloc (Obj.cells #[.int .i64 3, .int .i64 0, .string ⟨#[]⟩] actT) = w1 at hA0 ⊢
    go_wp2_with (at_builtin; apply hold)
    delta Hid
    refine wpList_acts rfl _ _ rfl _ _ rfl (hA0.alloc _).row _ 1 1 [⟨4, 0, t⟩] rfl rfl (by rw [heap_alloc_same]; rfl) (by simp) (fun v2 w2 hr hg => ?_)
    have hA2 := (hA0.alloc _).app hr hg
    clear hr hg
    go_wp2_with (at_builtin; apply hold)
    delta Hid
    refine wpList_acts rfl _ _ rfl _ _ rfl (hA2.alloc _).row _ 3 3 [⟨5, 0, []⟩, ⟨6, 0, []⟩, ⟨7, 0, []⟩] rfl rfl (by rw [heap_alloc_same]; rfl) (by simp) (fun v' w' hr hg => ?_)
    have hA4 := (hA2.alloc _).app hr hg
    go_wp2
    go_ret
    refine ⟨v', rfl, ?_, hA4.kept, hA4.fresh⟩
    have e : saveActs t = [⟨3, 0, []⟩] ++ [⟨4, 0, t⟩] ++ [⟨5, 0, []⟩, ⟨6, 0, []⟩, ⟨7, 0, []⟩] := by simp [saveActs, h0]
    rw [e]
    exact hA4.row

theorem save_busy {w b d va tfp afp} (h : DocAt w b d va tfp afp) (hk : d.kind ≠ 0) : Calls Tryz.prog 27 #[.pointer (some ⟨b, 0, none⟩)] w fun e w' => e = .returned (.int .i64 5) ∧ w' = w := by
  have hb := busy_any h
  rw [decide_eq_true hk] at hb
  go_enter Tryz.func27, Tryz.ntmps27
  go_wp2_with (go_at_call 52; refine hb.mono ?_; rintro e w ⟨rfl, rfl⟩)
  go_ret
  exact ⟨rfl, rfl⟩

set_option maxHeartbeats 1000000 in
theorem save_yes {w b d va tfp afp} (h : DocAt w b d va tfp afp) (hk : d.kind = 0) : Calls Tryz.prog 27 #[.pointer (some ⟨b, 0, none⟩)] w fun e w' => e = .returned (.int .i64 0) ∧ DocTo w w' b (tfp ++ afp) d.save.2 := by
  have hb := busy_any h
  rw [decide_eq_false (by omega : ¬ d.kind ≠ 0)] at hb
  have ok := h.ok
  have htx := text_any h.tree (by have := ok.text.few; omega) (fun l hl => by have := (ok.text.lines l hl).1; omega)
  go_enter Tryz.func27, Tryz.ntmps27
  go_wp2_with fail
  refine hb.mono ?_
  rintro e w1 ⟨rfl, hw⟩
  rw [hw]
  clear hw
  go_wp2_with fail
  refine htx.mono ?_
  rintro e w1 ⟨rfl, hk1⟩
  go_wp2_with fail
  refine (saveActs_any (textOf d.lines) w1 (by have := ok.text.length; omega)).mono ?_
  rintro e w2 ⟨v, rfl, hr, hk2, hf⟩
  obtain ⟨p3, c3, rfl⟩ := Row.slice hr
  obtain ⟨vi, vk, hb0⟩ := h.cells
  have hb2 := (hk1.step hk2).get hb0 (fun h => h)
  obtain ⟨hc2, hf2⟩ := cells_of hb2
  have hT2 := h.tree.kept (hk1.step hk2) (fun _ _ h => h)
  go_wp2
  go_ret
  have hkk : Kept (fun x => x = b) w2 ((w2.setCell ⟨b, 12, none⟩ (.int .i64 2)).setCell ⟨b, 13, none⟩ (.slice p3 (saveActs (textOf d.lines)).length c3)) := Kept.cell1.step Kept.cell1
  have hbl := lt_of_heap hb0
  have hs1 := hk1.size
  have hbm := h.tree.mem
  have hd : d.save.2 = { d with kind := 2, acts := saveActs d.text } := by simp [DocS.save, hk]
  rw [hd]
  refine ⟨rfl, ⟨_, ⟨_, tfp, _, ⟨hT2.store hkk (fun vi vk cnt hh => ?_), (ActsRow.acts hr).kept hkk (fun x hx e => ?_), fun x hx hx2 => ?_, ?_⟩, rfl⟩, fun x hx => ?_⟩, ((hk1.step hk2).mono (fun _ h _ => h.elim)).step' hkk (fun x hx _ => by rw [hx]; exact List.mem_append.2 (.inl hbm))⟩
  · rw [(heap_set2 hh).1]; simp
  · have := hf x hx; omega
  · have h1 := hf x hx
    have h2 := h.tree.lt x hx2
    omega
  · exact ⟨⟨ok.text, ok.every1, ok.every2, ok.half, ok.number, ok.sum, ok.len0, ok.len1⟩, ok.counted, Nat.le_refl 2, by simp [saveActs]⟩
  · rcases List.mem_append.1 hx with hx | hx
    · exact .inl (List.mem_append.2 (.inl hx))
    · have := hf x hx; exact .inr (by omega)
end Go.Proofs.YtdpfohgkikjeaaaGreat
/- Sync, Act. -/
namespace Go.Proofs.YtdpfohgkikjeaaaGreat
open Go.RowKit
set_option linter.unusedVariables false
set_option linter.unusedSimpArgs false

theorem DocIn.doc {w w1 w' : World} {b : Nat} {d' : DocS} {tfp afp : List Nat} (h : DocIn w1 w' b d' tfp afp) (ok : d'.Ok) (hb : b ∈ tfp) (hs : w.heap.size ≤ w1.heap.size) (hk : Kept (fun x => x ∈ tfp ++ afp) w w1) (hlt : ∀ x ∈ tfp, x < w1.heap.size) (hap : ∀ x ∈ afp, x ∉ tfp) : DocTo w w' b (tfp ++ afp) d' := by
  obtain ⟨⟨va', afp', hT, hA, hs2⟩, hk2⟩ := h
  refine ⟨⟨tfp ++ afp', ⟨va', tfp, afp', ⟨hT, hA, fun x hx hx2 => ?_, ok⟩, rfl⟩, fun x hx => ?_⟩, hk.step' hk2 (fun x hx _ => by rw [hx]; exact List.mem_append.2 (.inl hb))⟩
  · rcases hs2 x hx with h1 | h1
    · exact hap x h1 hx2
    · have := hlt x hx2; omega
  · rcases List.mem_append.1 hx with hx | hx
    · exact .inl (List.mem_append.2 (.inl hx))
    · rcases hs2 x hx with h1 | h1
      · exact .inl (List.mem_append.2 (.inr h1))
      · exact .inr (by omega)

theorem DocS.Base.sync_ok {d : DocS} (ok : d.Base) : d.beginSync.Ok :=
  ⟨⟨ok.text, ok.every1, ok.every2, ok.half, ok.number, ok.sum, ok.len0, ok.len1⟩, by show 0 < d.every; have := ok.every1; omega, by show 1 ≤ 2; omega, by show 1 ≠ 0 ↔ d.wr.acts d.text d.file ≠ []; simp [acts_ne]⟩

theorem sync_busy {w b d va tfp afp} (h : DocAt w b d va tfp afp) (hk : d.kind ≠ 0) : Calls Tryz.prog 28 #[.pointer (some ⟨b, 0, none⟩)] w fun e w' => e = .returned (.int .i64 5) ∧ w' = w := by
  have hb := busy_any h
  rw [decide_eq_true hk] at hb
  go_enter Tryz.func28, Tryz.ntmps28
  go_wp2_with (go_at_call 52; refine hb.mono ?_; rintro e w ⟨rfl, rfl⟩)
  go_ret
  exact ⟨rfl, rfl⟩

theorem sync_idle {w b d va tfp afp} (h : DocAt w b d va tfp afp) (hk : d.kind = 0) (he : d.edits = 0) (hn : d.wr.known = true) : Calls Tryz.prog 28 #[.pointer (some ⟨b, 0, none⟩)] w fun e w' => e = .returned (.int .i64 6) ∧ w' = w := by
  have hb := busy_any h
  rw [decide_eq_false (by omega : ¬ d.kind ≠ 0)] at hb
  obtain ⟨vi, vk, hb0⟩ := h.cells
  obtain ⟨hc, hf⟩ := cells_of hb0
  have hfr := fresh_any b 8 true w (by rw [hc, ← hn]; rfl)
  have he' : ((d.edits : Int) == 0) = true := by rw [he]; rfl
  clear he hn hk
  go_enter Tryz.func28, Tryz.ntmps28
  go_wp2_with (first | (go_at_call 52; refine hb.mono ?_; rintro e w ⟨rfl, rfl⟩) | (go_at_call 58; refine hfr.mono ?_; rintro e w ⟨rfl, rfl⟩))
  go_ret
  exact ⟨rfl, rfl⟩

theorem sync_yes {w b d va tfp afp} (h : DocAt w b d va tfp afp) (hk : d.kind = 0) (he : ¬ (d.edits = 0 ∧ d.wr.known = true)) : Calls Tryz.prog 28 #[.pointer (some ⟨b, 0, none⟩)] w fun e w' => e = .returned (.int .i64 0) ∧ DocTo w w' b (tfp ++ afp) d.beginSync := by
  have hb := busy_any h
  rw [decide_eq_false (by omega : ¬ d.kind ≠ 0)] at hb
  have ok := h.ok
  obtain ⟨vi, vk, hb0⟩ := h.cells
  obtain ⟨hc, hf⟩ := cells_of hb0
  have hbs := beginSync_any h.tree ok.toBase
  have hbm := h.tree.mem
  have hlt := h.tree.lt
  have hap := h.apart
  have fin : ∀ w', (∃ v afp', TreeR w' b (docRest d.beginSync v) docT d.lines tfp ∧ ActsAt w' v d.beginSync.acts afp' ∧ (∀ x ∈ afp', w.heap.size ≤ x) ∧ Kept (fun x => x = b) w w') → DocTo w w' b (tfp ++ afp) d.beginSync := fun w' ⟨v, afp', h1, h2, h3, h4⟩ =>
    DocIn.doc (w := w) (w1 := w) ⟨⟨v, afp', h1, h2, fun x hx => .inr (h3 x hx)⟩, h4⟩ ok.toBase.sync_ok hbm (Nat.le_refl _) (Kept.refl _ _) hlt hap
  by_cases h0 : d.edits = 0
  · have hkn : d.wr.known = false := by cases hh : d.wr.known with
      | false => rfl
      | true => exact absurd ⟨h0, hh⟩ he
    have hfr := fresh_any b 8 false w (by rw [hc, ← hkn]; rfl)
    have he' : ((d.edits : Int) == 0) = true := by rw [h0]; rfl
    clear h0 hkn hk he
    go_enter Tryz.func28, Tryz.ntmps28
    go_wp2_with fail
    refine hb.mono ?_
    rintro e w1 ⟨rfl, hw⟩
    rw [hw]
    clear hw
    go_wp2_with fail
    refine hfr.mono ?_
    rintro e w1 ⟨rfl, hw⟩
    rw [hw]
    clear hw
    go_wp2_with fail
    refine hbs.mono ?_
    rintro e w1 ⟨rfl, hx⟩
    go_wp2
    go_ret
    exact ⟨rfl, fin _ hx⟩
  · have he' : ((d.edits : Int) == 0) = false := by rw [beq_eq_false_iff_ne]; omega
    clear hk he
    go_enter Tryz.func28, Tryz.ntmps28
    go_wp2_with fail
    refine hb.mono ?_
    rintro e w1 ⟨rfl, hw⟩
    rw [hw]
    clear hw
    go_wp2_with fail
    refine hbs.mono ?_
    rintro e w1 ⟨rfl, hx⟩
    go_wp2
    go_ret
    exact ⟨rfl, fin _ hx⟩

theorem stored3a {W : World} {Hb : Nat} {T : TypeId} {c0 c1 c2 v0 v1 v2 : Value} (h : W.heap[Hb]? = some (.cells #[c0, c1, c2] T (0, 0))) : ∀ k, ((((W.setCell ⟨Hb, 0, none⟩ v0).setCell ⟨Hb, 1, none⟩ v1).setCell ⟨Hb, 2, none⟩ v2)).cell? ⟨Hb, k, none⟩ = #[v0, v1, v2][k]? := (cells_of (stored3 h).1).1

theorem act_no {w b d va tfp afp} (h : DocAt w b d va tfp afp) (hk : d.kind = 0) : Calls Tryz.prog 42 #[.pointer (some ⟨b, 0, none⟩)] w fun e w' => e = .returned (.tuple #[.agg #[.int .i64 0, .int .i64 0, .string ⟨#[]⟩], .bool false]) ∧ Kept no w w' := by
  obtain ⟨hn1, hsz1, hk1⟩ := new1 w (Obj.cells #[.int .i64 0, .int .i64 0, .string ⟨#[]⟩] actT)
  have h1 : DocAt (w.alloc (Obj.cells #[.int .i64 0, .int .i64 0, .string ⟨#[]⟩] actT)) b d va tfp afp := ⟨h.tree.kept hk1 (fun _ _ h => h), h.acts.kept hk1 (fun _ _ h => h), h.apart, h.ok⟩
  have hb := busy_any h1
  rw [decide_eq_false (by omega : ¬ d.kind ≠ 0)] at hb
  go_enter Tryz.func42, Tryz.ntmps42
  go_wp2_with fail
  refine hb.mono ?_
  rintro e w1 ⟨rfl, hw⟩
  rw [hw]
  clear hw
  obtain ⟨hcz, hfz⟩ := cells_of hn1
  go_wp2
  refine bodyPost_ret (v := .tuple #[.agg #[.int .i64 0, .int .i64 0, .string ⟨#[]⟩], .bool false]) (by simp [results, Tryz.results42, go_sem]) rfl ⟨rfl, ?_⟩
  exact (Kept.refl _ _).alloc _
end Go.Proofs.YtdpfohgkikjeaaaGreat
/- Act of a job; succeeded. -/
namespace Go.Proofs.YtdpfohgkikjeaaaGreat
open Go.RowKit
set_option linter.unusedVariables false
set_option linter.unusedSimpArgs false

theorem act_yes {w b d va tfp afp} (h : DocAt w b d va tfp afp) (a : PAct) (r : List PAct) (hk : d.kind ≠ 0) (ha : d.acts = a :: r) : Calls Tryz.prog 42 #[.pointer (some ⟨b, 0, none⟩)] w fun e w' => e = .returned (.tuple #[a.val, .bool true]) ∧ Kept no w w' := by
  obtain ⟨hn1, hsz1, hk1⟩ := new1 w (Obj.cells #[.int .i64 0, .int .i64 0, .string ⟨#[]⟩] actT)
  have h1 : DocAt (w.alloc (Obj.cells #[.int .i64 0, .int .i64 0, .string ⟨#[]⟩] actT)) b d va tfp afp := ⟨h.tree.kept hk1 (fun _ _ h => h), h.acts.kept hk1 (fun _ _ h => h), h.apart, h.ok⟩
  have hb := busy_any h1
  rw [decide_eq_true hk] at hb
  obtain ⟨vi, vk, hb0⟩ := h1.cells
  rcases h1.acts with ⟨_, h0, _⟩ | ⟨g, o, c, rfl, hf, hg, hn, hcm, hcell⟩
  · rw [h0] at ha; cases ha
  rw [ha] at hb0 hcell hn
  have e0 := hcell 0 (.int .i64 (a.kind : Int)) (by simp [actsCells, actCells])
  have e1 := hcell 1 (.int .i64 (a.at_ : Int)) (by simp [actsCells, actCells])
  have e2 := hcell 2 (.string ⟨a.data.toArray⟩) (by simp [actsCells, actCells])
  rw [Nat.add_zero] at e0
  have hlen : Hid ((a :: r).length = r.length + 1) := rfl
  rw [hlen.out] at hb0
  have hpos : (0 : Int) < ((r.length : Int) + 1) := by omega
  clear hcell ha
  obtain ⟨hc0, _⟩ := cells_of hb0
  obtain ⟨hcz, hfz⟩ := cells_of hn1
  go_enter Tryz.func42, Tryz.ntmps42
  go_wp2_with fail
  generalize hB : w.heap.size = B at hn1 hsz1 hcz hfz ⊢
  generalize w.alloc (Obj.cells #[.int .i64 0, .int .i64 0, .string ⟨#[]⟩] actT) = w1 at hn1 hsz1 hk1 h1 hb hb0 e0 e1 e2 hc0 hcz hfz ⊢
  refine hb.mono ?_
  rintro e w2 ⟨rfl, hw⟩
  rw [hw]
  clear hw
  go_wp2
  obtain ⟨hs1, hs2⟩ := stored3 (v0 := .int .i64 (a.kind : Int)) (v1 := .int .i64 (a.at_ : Int)) (v2 := .string ⟨a.data.toArray⟩) hn1
  have hk3 : Kept no w (((w1.setCell ⟨B, 0, none⟩ (.int .i64 (a.kind : Int))).setCell ⟨B, 1, none⟩ (.int .i64 (a.at_ : Int))).setCell ⟨B, 2, none⟩ (.string ⟨a.data.toArray⟩)) := hk1.step' hs2 (fun x hx hlt => by omega)
  generalize ((w1.setCell ⟨B, 0, none⟩ (.int .i64 (a.kind : Int))).setCell ⟨B, 1, none⟩ (.int .i64 (a.at_ : Int))).setCell ⟨B, 2, none⟩ (.string ⟨a.data.toArray⟩) = w3 at hs1 hk3 ⊢
  clear hcz hfz
  obtain ⟨hcr, _⟩ := cells_of hs1
  exact bodyPost_ret (v := .tuple #[a.val, .bool true]) (by simp [results, Tryz.results42, go_sem, hcr]) rfl ⟨rfl, hk3⟩

/-- A job is over: what stands in its cells is nothing. -/
abbrev DocS.over (d : DocS) : DocS := { d with kind := 0, acts := [] }

theorem heap_set4 {W : World} {Hb : Nat} {T : TypeId} {cs : Array Value} {i j k l : Nat} {v0 v1 v2 v3 : Value} (h : W.heap[Hb]? = some (.cells cs T (0, 0))) :
    ((((W.setCell ⟨Hb, i, none⟩ v0).setCell ⟨Hb, j, none⟩ v1).setCell ⟨Hb, k, none⟩ v2).setCell ⟨Hb, l, none⟩ v3).heap[Hb]? = some (.cells ((((cs.setIfInBounds i v0).setIfInBounds j v1).setIfInBounds k v2).setIfInBounds l v3) T (0, 0)) ∧
    Kept (fun x => x = Hb) W ((((W.setCell ⟨Hb, i, none⟩ v0).setCell ⟨Hb, j, none⟩ v1).setCell ⟨Hb, k, none⟩ v2).setCell ⟨Hb, l, none⟩ v3) :=
  ⟨heap_set_same (heap_set_same (heap_set_same (heap_set_same h))), ((Kept.cell1.step Kept.cell1).step Kept.cell1).step Kept.cell1⟩

set_option maxHeartbeats 1000000 in
set_option maxRecDepth 100000 in
theorem succ_save {w : World} {b : Nat} {d : DocS} {tfp : List Nat} (hT : TreeR w b (docRest d.over (.slice none 0 0)) docT d.lines tfp) (ok : d.Base) :
    Calls Tryz.prog 77 #[.pointer (some ⟨b, 0, none⟩), .int .i64 2] w fun e w' => e = .returned (.tuple #[]) ∧ TreeR w' b (docRest { d.over with file := markOf d.text } (.slice none 0 0)) docT d.lines tfp ∧ Kept (fun x => x = b) w w' := by
  have htx := text_any hT (by have := ok.text.few; omega) (fun l hl => by have := (ok.text.lines l hl).1; omega)
  go_enter Tryz.func77, Tryz.ntmps77
  go_wp2_with fail
  refine htx.mono ?_
  rintro e w1 ⟨rfl, hk1⟩
  go_wp2_with fail
  refine (markOf_any ⟨(textOf d.lines).toArray⟩ w1 (by rw [size_mk]; have := ok.text.length; omega)).mono ?_
  rintro e w2 ⟨rfl, hk2⟩
  have hT2 := (hT.kept hk1 (fun _ _ h => h)).kept hk2 (fun _ _ h => h)
  obtain ⟨vi, vk, hb2⟩ := hT2.count
  obtain ⟨hc2, hf2⟩ := cells_of hb2
  go_wp2
  refine bodyPost_ret (results_none rfl _ _ _) rfl ?_
  have hkk := (heap_set2 (i := 3) (j := 4) (v0 := .int .i64 ((textOf d.lines).length : Int)) (v1 := .int .u32 (crc (textOf d.lines) : Int)) hb2).2
  refine ⟨rfl, hT2.store hkk (fun vi vk cnt hh => ?_), ((hk1.step hk2).mono (fun _ h _ => h.elim)).step hkk⟩
  rw [(heap_set2 hh).1]
  simp [markOf, DocS.text]

set_option maxHeartbeats 1000000 in
set_option maxRecDepth 100000 in
theorem succ_sync {w : World} {b : Nat} {d : DocS} {tfp : List Nat} (hT : TreeR w b (docRest d.over (.slice none 0 0)) docT d.lines tfp) (ok : d.Base) :
    Calls Tryz.prog 77 #[.pointer (some ⟨b, 0, none⟩), .int .i64 1] w fun e w' => e = .returned (.tuple #[]) ∧ TreeR w' b (docRest { d.over with wr := d.wr.written, edits := 0 } (.slice none 0 0)) docT d.lines tfp ∧ Kept (fun x => x = b) w w' := by
  obtain ⟨vi, vk, hb⟩ := hT.count
  obtain ⟨hc, hf⟩ := cells_of hb
  have hh := ok.half
  have hwr := written_any b 8 (d.wr.half : Int) d.wr.number w _ _ (by rw [hc]; rfl) (by rw [hc]; rfl) (by rw [hc]; rfl) (by rw [hc]; rfl) hf (by omega) (by omega) ok.number
  go_enter Tryz.func77, Tryz.ntmps77
  go_wp2_with fail
  refine hwr.mono ?_
  rintro e w1 ⟨rfl, j, hw1⟩
  have hb0 : (w.drewN j).heap[b]? = some (.cells (vi :: vk :: .int .i64 (d.lines.length : Int) :: docRest d.over (.slice none 0 0)).toArray docT (0, 0)) := hb
  obtain ⟨h4, k4⟩ := heap_set4 (i := 8) (j := 8 + 1) (k := 8 + 2) (l := 8 + 3) (v0 := .bool true) (v1 := .bool false) (v2 := .int .i64 (1 - (d.wr.half : Int))) (v3 := .int .u64 (((d.wr.number + 1) % 18446744073709551616 : Nat) : Int)) hb0
  have hT1 : TreeR w1 b (docRest { d.over with wr := d.wr.written } (.slice none 0 0)) docT d.lines tfp := by
    have hk : Kept (fun x => x = b) w w1 := by rw [hw1]; exact ((Kept.refl _ w).drewN j).step k4
    refine hT.store hk (fun vi vk cnt hh => ?_)
    have hh' : (w.drewN j).heap[b]? = _ := hh
    rw [hw1, (heap_set4 hh').1]
    have e : (1 : Int) - (d.wr.half : Int) = ((1 - d.wr.half : Nat) : Int) := by have := ok.half; omega
    simp [Wr.written, Wr.next, e]
  have hk : Kept (fun x => x = b) w w1 := by rw [hw1]; exact ((Kept.refl _ w).drewN j).step k4
  clear hw1 h4 k4 hb0 hc hf
  obtain ⟨vi, vk, hb1⟩ := hT1.count
  obtain ⟨hc1, hf1⟩ := cells_of hb1
  go_wp2
  go_end0
  refine ⟨rfl, hT1.store Kept.cell1 (fun vi vk cnt hh => ?_), hk.step Kept.cell1⟩
  rw [heap_set_same hh]
  simp
end Go.Proofs.YtdpfohgkikjeaaaGreat
/- Done. -/
namespace Go.Proofs.YtdpfohgkikjeaaaGreat
open Go.RowKit
set_option linter.unusedVariables false
set_option linter.unusedSimpArgs false

theorem done_idle {w b d va tfp afp} (h : DocAt w b d va tfp afp) (hk : d.kind = 0) (t : Bool) : Calls Tryz.prog 45 #[.pointer (some ⟨b, 0, none⟩), .bool t] w fun e w' => e = .returned (.int .i64 6) ∧ w' = w := by
  have hb := busy_any h
  rw [decide_eq_false (by omega : ¬ d.kind ≠ 0)] at hb
  go_enter Tryz.func45, Tryz.ntmps45
  go_wp2_with (go_at_call 52; refine hb.mono ?_; rintro e w ⟨rfl, rfl⟩)
  go_ret
  exact ⟨rfl, rfl⟩

set_option maxHeartbeats 1000000 in
theorem done_on {w b d va tfp afp} (h : DocAt w b d va tfp afp) (a a2 : PAct) (r : List PAct) (hk : d.kind ≠ 0) (ha : d.acts = a :: a2 :: r) (hr : r.length ≤ 1000) : Calls Tryz.prog 45 #[.pointer (some ⟨b, 0, none⟩), .bool true] w fun e w' => e = .returned (.int .i64 0) ∧ DocTo w w' b (tfp ++ afp) { d with acts := a2 :: r } := by
  have hb := busy_any h
  rw [decide_eq_true hk] at hb
  obtain ⟨vi, vk, hb0⟩ := h.cells
  have ok := h.ok
  have hbm := h.tree.mem
  have hT := h.tree
  have hap := h.apart
  rcases h.acts with ⟨_, h0, _⟩ | ⟨g, o, c, hva, hf, hg, hn, hcm, hcell⟩
  · rw [h0] at ha; cases ha
  rw [ha] at hva hcell hn
  have hlen : (a :: a2 :: r).length = r.length + 2 := rfl
  rw [hlen] at hva hn
  subst hva
  simp only [maxLen] at hcm
  have hc1 : ¬ (c = 1) := by omega
  have hi1 : (1 : Int) ≤ ((r.length : Int) + 2) := by omega
  have hi2 : 1 ≤ r.length + 2 := by omega
  obtain ⟨hc0, hf0⟩ := cells_of hb0
  have hgb : g ∉ tfp := hap g (by simp [hf])
  have HAP : Hid (∀ x ∈ afp, x ∉ tfp) := hap
  have HA : Hid (d.acts = a :: a2 :: r) := ha
  clear ha hlen
  go_enter Tryz.func45, Tryz.ntmps45
  go_wp2_with fail
  refine hb.mono ?_
  rintro e w1 ⟨rfl, hw⟩
  rw [hw]
  clear hw
  go_wp2
  go_ret
  have hkk : Kept (fun x => x = b) w (w.setCell ⟨b, 13, none⟩ (.slice (some ⟨g, o + 3, none⟩) (r.length + 1) (c - 1))) := Kept.cell1
  refine ⟨rfl, DocIn.doc (w := w) (w1 := w) ⟨⟨.slice (some ⟨g, o + 3, none⟩) (r.length + 1) (c - 1), afp, hT.store hkk (fun vi vk cnt hh => by rw [heap_set_same hh]; simp), ?_, fun x hx => .inl hx⟩, hkk⟩ ⟨⟨ok.text, ok.every1, ok.every2, ok.half, ok.number, ok.sum, ok.len0, ok.len1⟩, ok.counted, ok.kind, by simp [hk]⟩ hbm (Nat.le_refl _) (Kept.refl _ _) hT.lt HAP.out⟩
  refine .inr ⟨g, o + 3, c - 1, rfl, hf, by simpa using hg, by simp only [List.length_cons]; omega, by simp only [maxLen]; omega, fun j u hj => ?_⟩
  have hne : b ≠ g := fun e => hgb (e ▸ hbm)
  rw [World.cell?_of_block (w := w) (hkk.block g hg (fun e => hne e.symm))]
  have := hcell (3 + j) u (by
    have e : actsCells (a :: a2 :: r) = actCells a ++ actsCells (a2 :: r) := rfl
    rw [e, List.getElem?_append_right (by simp [actCells])]
    simpa [actCells] using hj)
  rw [← Nat.add_assoc] at this
  exact this

theorem heap_set3 {W : World} {Hb : Nat} {T : TypeId} {cs : Array Value} {i j k : Nat} {v0 v1 v2 : Value} (h : W.heap[Hb]? = some (.cells cs T (0, 0))) :
    (((W.setCell ⟨Hb, i, none⟩ v0).setCell ⟨Hb, j, none⟩ v1).setCell ⟨Hb, k, none⟩ v2).heap[Hb]? = some (.cells (((cs.setIfInBounds i v0).setIfInBounds j v1).setIfInBounds k v2) T (0, 0)) ∧
    Kept (fun x => x = Hb) W (((W.setCell ⟨Hb, i, none⟩ v0).setCell ⟨Hb, j, none⟩ v1).setCell ⟨Hb, k, none⟩ v2) :=
  ⟨heap_set_same (heap_set_same (heap_set_same h)), (Kept.cell1.step Kept.cell1).step Kept.cell1⟩

set_option maxHeartbeats 1000000 in
theorem done_fail {w b d va tfp afp} (h : DocAt w b d va tfp afp) (hk : d.kind ≠ 0) (hr : d.acts.length ≤ 1000) : Calls Tryz.prog 45 #[.pointer (some ⟨b, 0, none⟩), .bool false] w fun e w' => e = .returned (.int .i64 0) ∧ DocTo w w' b (tfp ++ afp) d.over := by
  have hb := busy_any h
  rw [decide_eq_true hk] at hb
  obtain ⟨vi, vk, hb0⟩ := h.cells
  have ok := h.ok
  have hbm := h.tree.mem
  have hT := h.tree
  have HAP : Hid (∀ x ∈ afp, x ∉ tfp) := h.apart
  have hne := ok.acts.1 hk
  have fin : ∀ w', TreeR w' b (docRest d.over (.slice none 0 0)) docT d.lines tfp → Kept (fun x => x = b) w w' → DocTo w w' b (tfp ++ afp) d.over := fun w' h1 h2 =>
    DocIn.doc (w := w) (w1 := w) ⟨⟨.slice none 0 0, [], h1, .inl ⟨rfl, rfl, rfl⟩, fun x hx => by cases hx⟩, h2⟩ ⟨⟨ok.text, ok.every1, ok.every2, ok.half, ok.number, ok.sum, ok.len0, ok.len1⟩, ok.counted, Nat.zero_le _, by simp⟩ hbm (Nat.le_refl _) (Kept.refl _ _) hT.lt HAP.out
  rcases h.acts with ⟨_, h0, _⟩ | ⟨g, o, c, hva, hf, hg, hn, hcm, hcell⟩
  · exact absurd h0 hne
  obtain ⟨n, hn0⟩ : ∃ n, d.acts.length = n + 1 := ⟨d.acts.length - 1, by have := List.length_pos_iff.2 hne; omega⟩
  rw [hn0] at hva hn
  subst hva
  simp only [maxLen] at hcm
  have hi1 : (1 : Int) ≤ ((n : Int) + 1) := by omega
  have hi2 : 1 ≤ n + 1 := by omega
  obtain ⟨hc0, hf0⟩ := cells_of hb0
  clear hcell hne
  by_cases hc1 : c = 1
  all_goals
    clear hn0
    go_enter Tryz.func45, Tryz.ntmps45
    go_wp2_with fail
    refine hb.mono ?_
    rintro e w1 ⟨rfl, hw⟩
    rw [hw]
    clear hw
    go_wp2
    go_ret
    refine ⟨rfl, fin _ (hT.store ?_ (fun vi vk cnt hh => ?_)) ?_⟩
    · exact (Kept.cell1.step Kept.cell1).step Kept.cell1
    · rw [(heap_set3 hh).1]; simp
    · exact (Kept.cell1.step Kept.cell1).step Kept.cell1

set_option maxHeartbeats 1000000 in
/-- What becomes of a document whose last act was done. -/
theorem done_last {w b d va tfp afp} (h : DocAt w b d va tfp afp) (a : PAct) (hk : d.kind ≠ 0) (ha : d.acts = [a]) : Calls Tryz.prog 45 #[.pointer (some ⟨b, 0, none⟩), .bool true] w fun e w' => e = .returned (.int .i64 0) ∧ DocTo w w' b (tfp ++ afp) d.succeeded := by
  have hb := busy_any h
  rw [decide_eq_true hk] at hb
  obtain ⟨vi, vk, hb0⟩ := h.cells
  have ok := h.ok
  have hbm := h.tree.mem
  have hT := h.tree
  have HAP : Hid (∀ x ∈ afp, x ∉ tfp) := h.apart
  have hk2 := ok.kind
  rcases h.acts with ⟨_, h0, _⟩ | ⟨g, o, c, hva, hf, hg, hn, hcm, hcell⟩
  · rw [h0] at ha; cases ha
  rw [ha] at hva hn
  have hlen : [a].length = 1 := rfl
  rw [hlen] at hva hn
  subst hva
  simp only [maxLen] at hcm
  obtain ⟨hc0, hf0⟩ := cells_of hb0
  have HA : Hid (d.acts = [a]) := ha
  clear hcell ha hlen
  have fin : ∀ w1 w', DocAt w b d (.slice (some ⟨g, o, none⟩) 1 c) tfp afp → Kept (fun x => x = b) w w1 → TreeR w' b (docRest d.succeeded (.slice none 0 0)) docT d.lines tfp → Kept (fun x => x = b) w1 w' → DocTo w w' b (tfp ++ afp) d.succeeded := fun w1 w' _ hk1 h1 h2 => by
    have hs : d.succeeded.lines = d.lines ∧ d.succeeded.acts = [] ∧ d.succeeded.Ok := by
      unfold DocS.succeeded
      split
      · exact ⟨rfl, rfl, ⟨⟨ok.text, ok.every1, ok.every2, ok.half, ok.number, crc_lt _, by simp only [markOf]; omega, by have := ok.text.length; simp only [markOf, DocS.text]; omega⟩, ok.counted, Nat.zero_le _, by simp⟩⟩
      · refine ⟨rfl, rfl, ⟨⟨ok.text, ok.every1, ok.every2, ?_, fits_next _, ok.sum, ok.len0, ok.len1⟩, ok.counted, Nat.zero_le _, by simp⟩⟩
        show 1 - d.wr.half ≤ 1; omega
    refine DocIn.doc (w := w) (w1 := w) ⟨⟨.slice none 0 0, [], hs.1 ▸ h1, .inl ⟨rfl, hs.2.1, rfl⟩, fun x hx => by cases hx⟩, hk1.step h2⟩ hs.2.2 hbm (Nat.le_refl _) (Kept.refl _ _) hT.lt HAP.out
  have hover : ∀ v', TreeR (((w.setCell ⟨b, 13, none⟩ v').setCell ⟨b, 12, none⟩ (.int .i64 0)).setCell ⟨b, 13, none⟩ (.slice none 0 0)) b (docRest d.over (.slice none 0 0)) docT d.lines tfp ∧ Kept (fun x => x = b) w (((w.setCell ⟨b, 13, none⟩ v').setCell ⟨b, 12, none⟩ (.int .i64 0)).setCell ⟨b, 13, none⟩ (.slice none 0 0)) := fun v' => by
    have k : Kept (fun x => x = b) w (((w.setCell ⟨b, 13, none⟩ v').setCell ⟨b, 12, none⟩ (.int .i64 0)).setCell ⟨b, 13, none⟩ (.slice none 0 0)) := (Kept.cell1.step Kept.cell1).step Kept.cell1
    exact ⟨hT.store k (fun vi vk cnt hh => by rw [(heap_set3 hh).1]; simp), k⟩
  by_cases h2 : d.kind = 2
  · have hsd : d.succeeded = { d.over with file := markOf d.text } := by simp [DocS.succeeded, h2, DocS.text]
    rw [hsd] at fin ⊢
    have hki : (d.kind : Int) = 2 := by omega
    clear h2 hk
    by_cases hc1 : c = 1
    all_goals
      go_enter Tryz.func45, Tryz.ntmps45
      go_wp2_with fail
      refine hb.mono ?_
      rintro e w1 ⟨rfl, hw⟩
      rw [hw]
      clear hw
      go_wp2_with fail
      refine (succ_save (hover _).1 ok.toBase).mono ?_
      rintro e w2 ⟨rfl, hT2, hk2'⟩
      go_wp2
      go_ret
      exact ⟨rfl, fin _ _ h (hover _).2 hT2 hk2'⟩
  · have h1 : d.kind = 1 := by omega
    have hsd : d.succeeded = { d.over with wr := d.wr.written, edits := 0 } := by simp [DocS.succeeded, h2]
    rw [hsd] at fin ⊢
    have hki : (d.kind : Int) = 1 := by omega
    clear h2 hk h1
    by_cases hc1 : c = 1
    all_goals
      go_enter Tryz.func45, Tryz.ntmps45
      go_wp2_with fail
      refine hb.mono ?_
      rintro e w1 ⟨rfl, hw⟩
      rw [hw]
      clear hw
      go_wp2_with fail
      refine (succ_sync (hover _).1 ok.toBase).mono ?_
      rintro e w2 ⟨rfl, hT2, hk2'⟩
      go_wp2
      go_ret
      exact ⟨rfl, fin _ _ h (hover _).2 hT2 hk2'⟩
end Go.Proofs.YtdpfohgkikjeaaaGreat
/- Insert, Delete, Replace. -/
namespace Go.Proofs.YtdpfohgkikjeaaaGreat
open Go.RowKit
set_option linter.unusedVariables false
set_option linter.unusedSimpArgs false

theorem DocAt.same {w b d va tfp afp} (h : DocAt w b d va tfp afp) : DocTo w w b (tfp ++ afp) d := ⟨⟨_, ⟨_, _, _, h, rfl⟩, fun x hx => .inl hx⟩, Kept.refl _ _⟩

theorem DocS.Ok.edited_ok {d : DocS} (ok : d.Ok) (hk : d.kind = 0) : d.edited.Ok := by
  unfold DocS.edited
  split
  · exact DocS.Base.sync_ok (d := { d with edits := d.edits + 1, counted := d.counted + 1 }) ⟨ok.text, ok.every1, ok.every2, ok.half, ok.number, ok.sum, ok.len0, ok.len1⟩
  · refine ⟨⟨ok.text, ok.every1, ok.every2, ok.half, ok.number, ok.sum, ok.len0, ok.len1⟩, ?_, ok.kind, ok.acts⟩
    have := ok.counted
    show d.counted + 1 < d.every
    omega

theorem DocS.Ok.setLines {d : DocS} (ok : d.Ok) {ls : List Str} (h : TextOk ls) : (d.setLines ls).Ok := ⟨⟨h, ok.every1, ok.every2, ok.half, ok.number, ok.sum, ok.len0, ok.len1⟩, ok.counted, ok.kind, ok.acts⟩

theorem TextOk.insert {ls : List Str} {l : Str} (h : TextOk ls) (p : Nat) (hl : LineOk l) (hn : ls.length < 60) : TextOk (ls.take p ++ l :: ls.drop p) := by
  refine ⟨?_, fun x hx => ?_⟩
  · simp only [List.length_append, List.length_cons, List.length_take, List.length_drop]; omega
  · rcases List.mem_append.1 hx with hx | hx
    · exact h.lines x (List.mem_of_mem_take hx)
    · rcases List.mem_cons.1 hx with rfl | hx
      · exact hl
      · exact h.lines x (List.mem_of_mem_drop hx)
theorem TextOk.delete {ls : List Str} (h : TextOk ls) (p : Nat) : TextOk (ls.take p ++ ls.drop (p + 1)) := by
  refine ⟨?_, fun x hx => ?_⟩
  · have := h.few
    simp only [List.length_append, List.length_take, List.length_drop]; omega
  · rcases List.mem_append.1 hx with hx | hx
    · exact h.lines x (List.mem_of_mem_take hx)
    · exact h.lines x (List.mem_of_mem_drop hx)
theorem TextOk.replace {ls : List Str} {l : Str} (h : TextOk ls) (p : Nat) (hl : LineOk l) (hp : p < ls.length) : TextOk (ls.take p ++ l :: ls.drop (p + 1)) := by
  refine ⟨?_, fun x hx => ?_⟩
  · have := h.few
    simp only [List.length_append, List.length_cons, List.length_take, List.length_drop]; omega
  · rcases List.mem_append.1 hx with hx | hx
    · exact h.lines x (List.mem_of_mem_take hx)
    · rcases List.mem_cons.1 hx with rfl | hx
      · exact hl
      · exact h.lines x (List.mem_of_mem_drop hx)

/-- A tree was turned, then the edit counted. -/
theorem tree_edited {w w1 : World} {b : Nat} {d : DocS} {va : Value} {tfp afp tfp1 : List Nat} {ls : List Str} (h : DocAt w b d va tfp afp) (hk : d.kind = 0) (hT : TreeTo w w1 b (docRest d va) docT tfp ls tfp1) (hok : TextOk ls) (he : d.edits ≤ 1000000000000) :
    Calls Tryz.prog 54 #[.pointer (some ⟨b, 0, none⟩)] w1 fun e w' => e = .returned (.tuple #[]) ∧ DocTo w w' b (tfp ++ afp) (d.setLines ls).edited := by
  have ok := h.ok.setLines hok
  have hbm := hT.tree.mem
  have hA1 := h.acts.kept hT.kept h.apart
  have hap1 : ∀ x ∈ afp, x ∉ tfp1 := fun x hx hx2 => by
    rcases hT.sub x hx2 with h1 | h1
    · exact h.apart x hx h1
    · have := h.acts.lt x hx; omega
  refine (edited_any (d := d.setLines ls) (va := va) (tfp := tfp1) (afp := afp) hT.tree hA1 (fun hb => hap1 b hb hbm) ok.toBase he ok.counted).mono ?_
  rintro e w' ⟨rfl, hI⟩
  have hl : ((d.setLines ls).edited).lines = ls := by unfold DocS.edited; split <;> rfl
  have hD := DocIn.doc (w := w1) (w1 := w1) hI (ok.edited_ok hk) hbm (Nat.le_refl _) (Kept.refl _ _) hT.tree.lt hap1
  obtain ⟨⟨fp', hD', hs⟩, hk'⟩ := hD
  refine ⟨rfl, ⟨fp', hD', fun x hx => ?_⟩, (hT.kept.mono (fun x hx _ => List.mem_append.2 (.inl hx))).step' hk' (fun x hx hlt => ?_)⟩
  · rcases hs x hx with h1 | h1
    · rcases List.mem_append.1 h1 with h2 | h2
      · exact (hT.sub x h2).imp (fun h => List.mem_append.2 (.inl h)) id
      · exact .inl (List.mem_append.2 (.inr h2))
    · exact .inr (Nat.le_trans hT.kept.size h1)
  · rcases List.mem_append.1 hx with h2 | h2
    · rcases hT.sub x h2 with h3 | h3
      · exact List.mem_append.2 (.inl h3)
      · omega
    · exact List.mem_append.2 (.inr h2)

set_option maxHeartbeats 1000000 in
theorem insert_doc {w b d va tfp afp} (h : DocAt w b d va tfp afp) (at_ : Int) (l : Str) (hl : l.length ≤ 140737488355328) (he : d.edits ≤ 1000000000000) :
    Calls Tryz.prog 25 #[.pointer (some ⟨b, 0, none⟩), .int .i64 at_, sv l] w fun e w' => e = .returned (.int .i64 ((d.insert at_ l).1 : Int)) ∧ DocTo w w' b (tfp ++ afp) (d.insert at_ l).2 := by
  have hb := busy_any h
  obtain ⟨vi, vk, hb0⟩ := h.cells
  have ok := h.ok
  by_cases hk : d.kind = 0
  rotate_left
  · have hd : d.insert at_ l = (5, d) := by simp [DocS.insert, hk]
    rw [hd]
    rw [decide_eq_true hk] at hb
    have hsame := h.same
    go_enter Tryz.func25, Tryz.ntmps25
    go_wp2_with (go_at_call 52; refine hb.mono ?_; rintro e w ⟨rfl, rfl⟩)
    go_ret
    exact ⟨rfl, hsame⟩
  rw [decide_eq_false (by omega : ¬ d.kind ≠ 0)] at hb
  by_cases hat : at_ < 0 ∨ at_ > (d.lines.length : Int)
  · have hd : d.insert at_ l = (1, d) := by simp [DocS.insert, hk, hat]
    rw [hd]
    have hsame := h.same
    by_cases h0 : at_ < 0
    · have h0' : decide (at_ < 0) = true := by simpa using h0
      go_enter Tryz.func25, Tryz.ntmps25
      go_wp2_with (go_at_call 52; refine hb.mono ?_; rintro e w ⟨rfl, rfl⟩)
      go_ret
      exact ⟨rfl, hsame⟩
    · have h0' : decide (at_ < 0) = false := by simpa using h0
      have h1 : (d.lines.length : Int) < at_ := by omega
      go_enter Tryz.func25, Tryz.ntmps25
      go_wp2_with (first | (go_at_call 52; refine hb.mono ?_; rintro e w ⟨rfl, rfl⟩) | (go_at_call 46; refine (len_any hb0).mono ?_; rintro e w ⟨rfl, rfl⟩))
      go_ret
      exact ⟨rfl, hsame⟩
  have h0' : decide (at_ < 0) = false := by simp; omega
  have h1 : ¬ (d.lines.length : Int) < at_ := by omega
  have hil := fun w => isLine_any l w hl
  by_cases hline : LineOk l
  rotate_left
  · have hd : d.insert at_ l = (3, d) := by unfold DocS.insert; rw [if_neg (by omega), if_neg hat, if_pos hline]
    rw [hd]
    have hsame := h.same
    rw [decide_eq_false hline] at hil
    go_enter Tryz.func25, Tryz.ntmps25
    go_wp2_with (first | (go_at_call 52; refine hb.mono ?_; rintro e w ⟨rfl, rfl⟩) | (go_at_call 46; refine (len_any hb0).mono ?_; rintro e w ⟨rfl, rfl⟩) | (go_at_call 55; refine (hil _).mono ?_; rintro e w ⟨rfl, rfl⟩))
    go_ret
    exact ⟨rfl, hsame⟩
  rw [decide_eq_true hline] at hil
  by_cases hfull : d.lines.length = 60
  · have hd : d.insert at_ l = (4, d) := by unfold DocS.insert; rw [if_neg (by omega), if_neg hat, if_neg (fun hh => hh hline), if_pos hfull]
    rw [hd]
    have hsame := h.same
    have hf : ((d.lines.length : Int) == 60) = true := by rw [beq_iff_eq]; omega
    have hf2 : (d.lines.length : Int) = 60 := by omega
    go_enter Tryz.func25, Tryz.ntmps25
    go_wp2_with (first | (go_at_call 52; refine hb.mono ?_; rintro e w ⟨rfl, rfl⟩) | (go_at_call 46; refine (len_any hb0).mono ?_; rintro e w ⟨rfl, rfl⟩) | (go_at_call 55; refine (hil _).mono ?_; rintro e w ⟨rfl, rfl⟩))
    go_ret
    exact ⟨rfl, hsame⟩
  · obtain ⟨p, hp⟩ := Int.eq_ofNat_of_zero_le (by omega : 0 ≤ at_)
    subst hp
    have hpl : p ≤ d.lines.length := by omega
    have hfew := ok.text.few
    have hd : d.insert (p : Int) l = (0, (d.setLines (d.lines.take p ++ l :: d.lines.drop p)).edited) := by
      unfold DocS.insert; rw [if_neg (by omega), if_neg hat, if_neg (fun hh => hh hline), if_neg hfull, Int.toNat_natCast]
    rw [hd]
    have hf : ((d.lines.length : Int) == 60) = false := by rw [beq_eq_false_iff_ne]; omega
    have hf2 : ¬ (d.lines.length : Int) = 60 := by omega
    have hput := put_any h.tree p _ rfl hpl (by omega) l hl
    have hed := fun w1 tfp1 (hT : TreeTo w w1 b (docRest d va) docT tfp (d.lines.take p ++ l :: d.lines.drop p) tfp1) => tree_edited h hk hT (ok.text.insert p hline (by omega)) he
    clear hat h0' hd hk hline hfull
    have h0' : decide ((p : Int) < 0) = false := by simp
    go_enter Tryz.func25, Tryz.ntmps25
    go_wp2_with fail
    refine hb.mono ?_
    rintro e w1 ⟨rfl, hw⟩
    rw [hw]
    clear hw
    go_wp2_with fail
    refine (len_any hb0).mono ?_
    rintro e w1 ⟨rfl, hw⟩
    rw [hw]
    clear hw
    go_wp2_with fail
    refine (hil _).mono ?_
    rintro e w1 ⟨rfl, hw⟩
    rw [hw]
    clear hw
    go_wp2_with fail
    refine (len_any hb0).mono ?_
    rintro e w1 ⟨rfl, hw⟩
    rw [hw]
    clear hw
    go_wp2_with fail
    refine hput.mono ?_
    rintro e w1 ⟨rfl, tfp1, hT⟩
    go_wp2_with fail
    refine (hed _ _ hT).mono ?_
    rintro e w2 ⟨rfl, hD⟩
    go_wp2
    go_ret
    exact ⟨rfl, hD⟩

set_option maxHeartbeats 1000000 in
theorem delete_doc {w b d va tfp afp} (h : DocAt w b d va tfp afp) (at_ : Int) (he : d.edits ≤ 1000000000000) :
    Calls Tryz.prog 24 #[.pointer (some ⟨b, 0, none⟩), .int .i64 at_] w fun e w' => e = .returned (.int .i64 ((d.delete at_).1 : Int)) ∧ DocTo w w' b (tfp ++ afp) (d.delete at_).2 := by
  have hb := busy_any h
  have ok := h.ok
  have hfew := ok.text.few
  by_cases hk : d.kind = 0
  rotate_left
  · have hd : d.delete at_ = (5, d) := by simp [DocS.delete, hk]
    rw [hd]
    rw [decide_eq_true hk] at hb
    have hsame := h.same
    go_enter Tryz.func24, Tryz.ntmps24
    go_wp2_with (go_at_call 52; refine hb.mono ?_; rintro e w ⟨rfl, rfl⟩)
    go_ret
    exact ⟨rfl, hsame⟩
  rw [decide_eq_false (by omega : ¬ d.kind ≠ 0)] at hb
  by_cases hat : at_ < 0 ∨ at_ ≥ (d.lines.length : Int)
  · have hd : d.delete at_ = (1, d) := by unfold DocS.delete; rw [if_neg (by omega), if_pos hat]
    rw [hd]
    have hsame := h.same
    have hno := tdelete_no h.tree at_ hat
    clear hat
    go_enter Tryz.func24, Tryz.ntmps24
    go_wp2_with (first | (go_at_call 52; refine hb.mono ?_; rintro e w ⟨rfl, rfl⟩) | (go_at_call 53; refine hno.mono ?_; rintro e w ⟨rfl, rfl⟩))
    go_ret
    exact ⟨rfl, hsame⟩
  · obtain ⟨p, hp⟩ := Int.eq_ofNat_of_zero_le (by omega : 0 ≤ at_)
    subst hp
    have hpl : p < d.lines.length := by omega
    have hd : d.delete (p : Int) = (0, (d.setLines (d.lines.take p ++ d.lines.drop (p + 1))).edited) := by
      unfold DocS.delete; rw [if_neg (by omega), if_neg hat, Int.toNat_natCast]
    rw [hd]
    have hput := tdelete_yes h.tree p _ rfl hpl (by omega)
    have hed := fun w1 tfp1 (hT : TreeTo w w1 b (docRest d va) docT tfp (d.lines.take p ++ d.lines.drop (p + 1)) tfp1) => tree_edited h hk hT (ok.text.delete p) he
    clear hat hd hk
    go_enter Tryz.func24, Tryz.ntmps24
    go_wp2_with fail
    refine hb.mono ?_
    rintro e w1 ⟨rfl, hw⟩
    rw [hw]
    clear hw
    go_wp2_with fail
    refine hput.mono ?_
    rintro e w1 ⟨rfl, tfp1, hT⟩
    go_wp2_with fail
    refine (hed _ _ hT).mono ?_
    rintro e w2 ⟨rfl, hD⟩
    go_wp2
    go_ret
    exact ⟨rfl, hD⟩
end Go.Proofs.YtdpfohgkikjeaaaGreat
/- Replace, Line. -/
namespace Go.Proofs.YtdpfohgkikjeaaaGreat
open Go.RowKit
set_option linter.unusedVariables false
set_option linter.unusedSimpArgs false

theorem set_split {ls : List Str} {p : Nat} (l : Str) (h : p < ls.length) : ls.set p l = ls.take p ++ l :: ls.drop (p + 1) := by
  rw [List.set_eq_take_append_cons_drop, if_pos h]

set_option maxRecDepth 100000 in
set_option maxHeartbeats 1000000 in
theorem replace_doc {w b d va tfp afp} (h : DocAt w b d va tfp afp) (at_ : Int) (l : Str) (hl : l.length ≤ 140737488355328) (he : d.edits ≤ 1000000000000) :
    Calls Tryz.prog 40 #[.pointer (some ⟨b, 0, none⟩), .int .i64 at_, sv l] w fun e w' => e = .returned (.int .i64 ((d.replace at_ l).1 : Int)) ∧ DocTo w w' b (tfp ++ afp) (d.replace at_ l).2 := by
  have hb := busy_any h
  obtain ⟨vi, vk, hb0⟩ := h.cells
  have ok := h.ok
  by_cases hk : d.kind = 0
  rotate_left
  · have hd : d.replace at_ l = (5, d) := by simp [DocS.replace, hk]
    rw [hd]
    rw [decide_eq_true hk] at hb
    have hsame := h.same
    go_enter Tryz.func40, Tryz.ntmps40
    go_wp2_with (go_at_call 52; refine hb.mono ?_; rintro e w ⟨rfl, rfl⟩)
    go_ret
    exact ⟨rfl, hsame⟩
  rw [decide_eq_false (by omega : ¬ d.kind ≠ 0)] at hb
  by_cases hat : at_ < 0 ∨ at_ ≥ (d.lines.length : Int)
  · have hd : d.replace at_ l = (1, d) := by unfold DocS.replace; rw [if_neg (by omega), if_pos hat]
    rw [hd]
    have hsame := h.same
    by_cases h0 : at_ < 0
    · have h0' : decide (at_ < 0) = true := by simpa using h0
      go_enter Tryz.func40, Tryz.ntmps40
      go_wp2_with (go_at_call 52; refine hb.mono ?_; rintro e w ⟨rfl, rfl⟩)
      go_ret
      exact ⟨rfl, hsame⟩
    · have h0' : decide (at_ < 0) = false := by simpa using h0
      have h1 : (d.lines.length : Int) ≤ at_ := by omega
      go_enter Tryz.func40, Tryz.ntmps40
      go_wp2_with (first | (go_at_call 52; refine hb.mono ?_; rintro e w ⟨rfl, rfl⟩) | (go_at_call 46; refine (len_any hb0).mono ?_; rintro e w ⟨rfl, rfl⟩))
      go_ret
      exact ⟨rfl, hsame⟩
  have h0' : decide (at_ < 0) = false := by simp; omega
  have h1 : ¬ (d.lines.length : Int) ≤ at_ := by omega
  have hil := fun w => isLine_any l w hl
  by_cases hline : LineOk l
  rotate_left
  · have hd : d.replace at_ l = (3, d) := by unfold DocS.replace; rw [if_neg (by omega), if_neg hat, if_pos hline]
    rw [hd]
    have hsame := h.same
    rw [decide_eq_false hline] at hil
    go_enter Tryz.func40, Tryz.ntmps40
    go_wp2_with (first | (go_at_call 52; refine hb.mono ?_; rintro e w ⟨rfl, rfl⟩) | (go_at_call 46; refine (len_any hb0).mono ?_; rintro e w ⟨rfl, rfl⟩) | (go_at_call 55; refine (hil _).mono ?_; rintro e w ⟨rfl, rfl⟩))
    go_ret
    exact ⟨rfl, hsame⟩
  rw [decide_eq_true hline] at hil
  obtain ⟨p, hp⟩ := Int.eq_ofNat_of_zero_le (by omega : 0 ≤ at_)
  subst hp
  have hpl : p < d.lines.length := by omega
  have hfew := ok.text.few
  have hd : d.replace (p : Int) l = (0, (d.setLines (d.lines.take p ++ l :: d.lines.drop (p + 1))).edited) := by
    unfold DocS.replace; rw [if_neg (by omega), if_neg hat, if_neg (fun hh => hh hline), Int.toNat_natCast]
  rw [hd]
  have hsz : (⟨l.toArray⟩ : ByteArray).size ≤ 281474976710656 := by rw [size_mk]; omega
  have hed := fun w1 tfp1 (hT : TreeTo w w1 b (docRest d va) docT tfp (d.lines.take p ++ l :: d.lines.drop (p + 1)) tfp1) => tree_edited h hk hT (ok.text.replace p hline hpl) he
  clear hat h0' hd hk hline
  have h0' : decide ((p : Int) < 0) = false := by simp
  have hT0 := h.tree
  go_enter Tryz.func40, Tryz.ntmps40
  go_wp2_with fail
  refine hb.mono ?_
  rintro e w1 ⟨rfl, hw⟩
  rw [hw]
  clear hw
  go_wp2_with fail
  refine (len_any hb0).mono ?_
  rintro e w1 ⟨rfl, hw⟩
  rw [hw]
  clear hw
  go_wp2_with fail
  refine (hil _).mono ?_
  rintro e w1 ⟨rfl, hw⟩
  rw [hw]
  clear hw
  go_wp2_with fail
  refine wp_region3 (fun _ => True) [(0, true), (1, true), (2, true), (3, true), (4, true)] [5, 6] (by kernel_rfl) (by kernel_rfl) (fun _ _ d _ _ h => by cases d <;> exact h) trivial ?_
  repeat (refine wpPre3_pure rfl rfl (fun W => (by go_simp; rfl)) ?_; simp only [Act.put, List.setIfInBounds_toArray, List.set])
  refine wpPre3_nil ?_
  refine wpTail3_cons rfl rfl (fun K hK => ?_)
  go_wp2_with fail
  refine (clone_any ⟨l.toArray⟩ _ hsz).mono ?_
  rintro e w1 ⟨rfl, hk1'⟩
  have hk1 : Kept no w w1 := hk1'.of_drew
  refine hK _ _ ⟨fun _ => trivial, ?_⟩
  clear hK
  have hT1 := hT0.kept hk1 (fun _ _ h => h)
  refine wpTail3_cons rfl rfl (fun K hK => ?_)
  go_wp2_with fail
  refine (tset_any hT1 p _ rfl hpl (by omega) l).mono ?_
  rintro e w2 ⟨rfl, fp', hT2, hsub, hk2⟩
  refine hK _ _ ⟨fun _ => trivial, ?_⟩
  clear hK
  refine wpTail3_nil ?_
  rw [set_split l hpl] at hT2
  have hTT : TreeTo w w2 b (docRest d va) docT tfp (d.lines.take p ++ l :: d.lines.drop (p + 1)) fp' := ⟨hT2, fun x hx => (hsub x hx).imp id (fun h => Nat.le_trans hk1.size h), (hk1.mono (fun _ h _ => h.elim)).step hk2⟩
  go_wp2_with fail
  refine (hed _ _ hTT).mono ?_
  rintro e w3 ⟨rfl, hD⟩
  go_wp2
  go_ret
  exact ⟨rfl, hD⟩

theorem line_no {w b d va tfp afp} (h : DocAt w b d va tfp afp) (p : Int) (hp : p < 0 ∨ (d.lines.length : Int) ≤ p) : Calls Tryz.prog 92 #[.pointer (some ⟨b, 0, none⟩), .int .i64 p] w fun e w' => e = .returned (.tuple #[.string ⟨#[]⟩, .int .i64 1]) ∧ w' = w := by
  have hno := at_no h.tree p hp
  clear hp
  go_enter Tryz.func92, Tryz.ntmps92
  go_wp2_with (go_at_call 126; refine hno.mono ?_; rintro e w ⟨rfl, rfl⟩)
  go_ret2
  exact ⟨rfl, rfl⟩

theorem line_yes {w b d va tfp afp} (h : DocAt w b d va tfp afp) (p : Nat) (hp : p < d.lines.length) : Calls Tryz.prog 92 #[.pointer (some ⟨b, 0, none⟩), .int .i64 (p : Int)] w fun e w' => e = .returned (.tuple #[sv d.lines[p], .int .i64 0]) ∧ w' = w := by
  have hy := at_yes h.tree p hp (by have := h.ok.text.few; omega)
  generalize d.lines[p] = x at hy
  go_enter Tryz.func92, Tryz.ntmps92
  go_wp2_with (go_at_call 126; refine hy.mono ?_; rintro e w ⟨rfl, rfl⟩)
  go_ret2
  exact ⟨rfl, rfl⟩
end Go.Proofs.YtdpfohgkikjeaaaGreat
/- cut: the bytes of a text into its lines. -/
namespace Go.Proofs.YtdpfohgkikjeaaaGreat
open Go.RowKit
set_option linter.unusedVariables false
set_option linter.unusedSimpArgs false

theorem textOf_prefix {done ls : List Str} {rest : Str} (hd : ∀ l ∈ done, (10 : UInt8) ∉ l) (hl : ∀ l ∈ ls, (10 : UInt8) ∉ l) (h : textOf done ++ rest = textOf ls) : ∃ ls', ls = done ++ ls' ∧ rest = textOf ls' := by
  induction done generalizing ls with
  | nil => exact ⟨ls, rfl, by simpa [textOf_nil] using h⟩
  | cons x done ih =>
    cases ls with
    | nil => rw [textOf_cons, textOf_nil] at h; simp at h
    | cons y ls =>
      rw [textOf_cons, textOf_cons, List.append_assoc, List.cons_append] at h
      obtain ⟨h1, h2⟩ := split_unique h (hd x (by simp)) (hl y (by simp))
      obtain ⟨ls', h3, h4⟩ := ih (fun l hh => hd l (by simp [hh])) (fun l hh => hl l (by simp [hh])) h2
      exact ⟨ls', by rw [h1, h3]; rfl, h4⟩

/-- What is left of a text behind some of its lines. -/
theorem rest_of {s rest : Str} {done : List Str} (hd : ∀ l ∈ done, LineOk l) (h : textOf done ++ rest = s) (hs : IsText s) (hne : rest ≠ []) : ∃ x r, rest = x ++ 10 :: r ∧ LineOk x ∧ done.length < 60 := by
  obtain ⟨ls, hok, hls⟩ := hs
  obtain ⟨ls', h1, h2⟩ := textOf_prefix (fun l hl => (hd l hl).2) (fun l hl => (hok.lines l hl).2) (h.trans hls.symm)
  cases ls' with
  | nil => exact absurd h2 hne
  | cons x r =>
    refine ⟨x, textOf r, by rw [h2, textOf_cons], hok.lines x (by rw [h1]; simp), ?_⟩
    have := hok.few
    rw [h1] at this
    simp at this
    omega

/-- What cut answers. -/
def CutTo (w w' : World) (s : Str) (e : Ending) : Prop :=
  (∃ ls v, TextOk ls ∧ textOf ls = s ∧ e = .returned (.tuple #[v, .bool true]) ∧ Row w' 9 1 v ls.length (ls.map sv) ∧ (∀ x ∈ fpv v, w.heap.size ≤ x)) ∨ (¬ IsText s ∧ e = .returned (.tuple #[.slice none 0 0, .bool false]))

set_option maxHeartbeats 2000000 in
set_option maxRecDepth 100000 in
theorem cut_any (s : Str) (w : World) (hs : s.length ≤ 1099511627776) : Calls Tryz.prog 73 #[.string ⟨s.toArray⟩] w fun e w' => CutTo w w' s e ∧ Kept no w w' := by
  go_enter Tryz.func73, Tryz.ntmps73
  go_wp2
  go_loopw [0, 4] (fun s0 s4 wr => ∃ done rest, s0 = sv rest ∧ textOf done ++ rest = s ∧ (∀ l ∈ done, LineOk l) ∧ done.length ≤ 60 ∧ Row wr 9 1 s4 done.length (done.map sv) ∧ (∀ x ∈ fpv s4, w.heap.size ≤ x) ∧ Kept no w wr) (fun s0 _ _ => match s0 with | .string b => b.size | _ => 0)
  case atStart => exact ⟨[], s, rfl, rfl, by simp, by simp, Row.nilrow _ _, by simp [fpv_nil], Kept.refl _ _⟩
  case round =>
    obtain ⟨done, rest, rfl, hsp, hdl, h60, hrow, hfr, hkw⟩ := hrel
    obtain ⟨p4, c4, rfl⟩ := hrow.slice
    have HSP : Hid (textOf done ++ rest = s) := hsp
    have hrl : rest.length ≤ s.length := by rw [← hsp, List.length_append]; omega
    clear hsp
    by_cases h0 : rest = []
    · subst h0
      go_wp2
      go_ret2
      have := HSP.out
      rw [List.append_nil] at this
      exact ⟨.inl ⟨done, _, ⟨h60, hdl⟩, this, rfl, hrow, hfr⟩, hkw⟩
    · have hb : rest.isEmpty = false := by cases rest with
        | nil => exact absurd rfl h0
        | cons => rfl
      have hcut := cutstr_any ⟨rest.toArray⟩ wr (by rw [size_mk]; omega)
      by_cases hm : (10 : UInt8) ∈ rest
      · have hcut2 := hcut.mono (R' := fun e w1 => ∃ a b', rest = a ++ 10 :: b' ∧ 10 ∉ a ∧ e = .returned (.tuple #[sv a, sv b', .bool true]) ∧ Kept no wr w1) (fun e w1 ⟨hh, j, hw⟩ => by
          rcases hh with ⟨a, b', h1, h2, h3⟩ | ⟨h1, _⟩
          · exact ⟨a, b', h1, h2, h3, by rw [hw]; exact (Kept.refl _ _).drewN j⟩
          · exact absurd hm h1)
        clear hcut
        go_wp2_with fail
        refine hcut2.mono ?_
        rintro e w1 ⟨a, b', hab, hna, rfl, hk1⟩
        have HAB : Hid (rest = a ++ 10 :: b') := hab
        have hal : a.length < rest.length ∧ b'.length < rest.length := by rw [hab]; simp; omega
        clear hab hcut2
        have hrow1 := hrow.kept hk1 (fun _ _ h => h)
        have hkw1 := hkw.step hk1
        have hil := isLine_any a w1 (by omega)
        by_cases hline : LineOk a
        · rw [decide_eq_true hline] at hil
          by_cases hfull : done.length = 60
          · have hf : ((done.length : Int) == 60) = true := by rw [beq_iff_eq]; omega
            have hf2 : (done.length : Int) = 60 := by omega
            have hnot : ¬ IsText s := fun ht => by obtain ⟨_, _, _, _, h⟩ := rest_of hdl HSP.out ht h0; omega
            clear hfull
            go_wp2_with fail
            refine hil.mono ?_
            rintro e w2 ⟨rfl, hw⟩
            rw [hw]
            clear hw
            go_wp2
            go_ret2
            exact ⟨.inr ⟨hnot, rfl⟩, hkw1⟩
          · have hf : ((done.length : Int) == 60) = false := by rw [beq_eq_false_iff_ne]; omega
            have hf2 : ¬ (done.length : Int) = 60 := by omega
            go_wp2_with fail
            refine hil.mono ?_
            rintro e w2 ⟨rfl, hw⟩
            rw [hw]
            clear hw
            go_wp2_with (at_builtin; apply hold)
            delta Hid
            refine wpList_push rfl _ _ 34 rfl tyS _ _ _ rfl (hrow1.alloc _) _ 1 (sv a) rfl (by rw [(cells_of heap_alloc_same).1]; rfl) rfl (by decide) (by omega) (fun v5 w5 hr hg => ?_)
            go_wp2
            go_roundw
            case rel =>
              refine ⟨done ++ [a], b', rfl, ?_, ?_, by simp; omega, ?_, fun x hx => ?_, ?_⟩
              · have := HSP.out
                rw [HAB.out] at this
                rw [← this, textOf_append]
                simp [textOf]
              · intro l hl
                rcases List.mem_append.1 hl with hl | hl
                · exact hdl l hl
                · simp at hl; subst hl; exact hline
              · have e : (done ++ [a]).map sv = done.map sv ++ [sv a] := by simp
                rw [e, List.length_append]
                exact hr
              · rcases hg.2 x hx with h1 | h1
                · exact hfr x h1
                · have := hkw1.size; simp at h1; omega
              · exact (hkw1.step ((Kept.refl _ _).alloc _)).step' hg.1 (fun x hx hlt => by have := hfr x hx; omega)
            case measure =>
              simp only [size_mk]
              omega
        · rw [decide_eq_false hline] at hil
          have hnot : ¬ IsText s := fun ht => by
            obtain ⟨x, r, h1, h2, _⟩ := rest_of hdl HSP.out ht h0
            have := split_unique (HAB.out.symm.trans h1) hna h2.2
            exact hline (this.1 ▸ h2)
          go_wp2_with fail
          refine hil.mono ?_
          rintro e w2 ⟨rfl, hw⟩
          rw [hw]
          clear hw
          go_wp2
          go_ret2
          exact ⟨.inr ⟨hnot, rfl⟩, hkw1⟩
      · have hcut2 := hcut.mono (R' := fun e w1 => e = .returned (.tuple #[.string ⟨rest.toArray⟩, .string ⟨#[]⟩, .bool false]) ∧ Kept no wr w1) (fun e w1 ⟨hh, j, hw⟩ => by
          rcases hh with ⟨a, b', h1, h2, h3⟩ | ⟨_, h1⟩
          · exact absurd (by have h1' : rest = a ++ 10 :: b' := h1; rw [h1']; simp) hm
          · exact ⟨h1, by rw [hw]; exact (Kept.refl _ _).drewN j⟩)
        clear hcut
        have hnot : ¬ IsText s := fun ht => by
          obtain ⟨x, r, h1, _⟩ := rest_of hdl HSP.out ht h0
          exact hm (by rw [h1]; simp)
        go_wp2_with fail
        refine hcut2.mono ?_
        rintro e w1 ⟨rfl, hk1⟩
        go_wp2
        go_ret2
        exact ⟨.inr ⟨hnot, rfl⟩, hkw.step hk1⟩
end Go.Proofs.YtdpfohgkikjeaaaGreat
/- newDoc, Open. -/
namespace Go.Proofs.YtdpfohgkikjeaaaGreat
open Go.RowKit
set_option linter.unusedVariables false
set_option linter.unusedSimpArgs false

/-- A document as newDoc makes it. -/
def DocS.fresh (ls : List Str) (file : Str) (every : Nat) : DocS := ⟨ls, markOf file, every, 0, 0, ⟨false, false, 0, 0⟩, 0, []⟩

set_option maxHeartbeats 2000000 in
set_option maxRecDepth 100000 in
theorem newDoc_any {w : World} {v : Value} {ls : List Str} (hr : Row w 9 1 v ls.length (ls.map sv)) (hok : TextOk ls) (file : Str) (hf : file.length ≤ 1099511627776) (every : Nat) (evI : Int) (hev : evI = (every : Int)) :
    Calls Tryz.prog 74 #[v, .string ⟨file.toArray⟩, .int .i64 evI] w fun e w' => ∃ b fp, e = .returned (.pointer (some ⟨b, 0, none⟩)) ∧ TreeR w' b (docRest (DocS.fresh ls file every) (.slice none 0 0)) docT ls fp ∧ (∀ x ∈ fp, w.heap.size ≤ x) ∧ Kept no w w' := by
  subst hev
  obtain ⟨pv, cv, rfl⟩ := hr.slice
  have hfew := hok.few
  go_enter Tryz.func74, Tryz.ntmps74
  go_wp2_with fail
  refine (markOf_any ⟨file.toArray⟩ _ (by rw [size_mk]; omega)).mono ?_
  rintro e w1 ⟨rfl, hk1⟩
  go_wp2
  obtain ⟨hn2, hsz2, hk2⟩ := new1 w1 (Obj.cells #[.slice none 0 0, .slice none 0 0, .int .i64 0, .int .i64 (file.length : Int), .int .u32 (crc file : Int), .int .i64 (every : Int), .int .i64 0, .int .i64 0, .bool false, .bool false, .int .i64 0, .int .u64 0, .int .i64 0, .slice none 0 0] docT)
  have hs1 := hk1.size
  generalize hB : w1.heap.size = B at hn2 hsz2 hs1 ⊢
  generalize w1.alloc (Obj.cells #[.slice none 0 0, .slice none 0 0, .int .i64 0, .int .i64 (file.length : Int), .int .u32 (crc file : Int), .int .i64 (every : Int), .int .i64 0, .int .i64 0, .bool false, .bool false, .int .i64 0, .int .u64 0, .int .i64 0, .slice none 0 0] docT) = w2 at hn2 hsz2 hk2 ⊢
  have hk02 : Kept no w w2 := hk1.step hk2
  have hT2 : TreeR w2 B (docRest (DocS.fresh ls file every) (.slice none 0 0)) docT [] [B] := by
    refine ⟨0, 0, ⟨.slice none 0 0, ?_, Row.nilrow _ _, rfl, by simp⟩, fun h => absurd rfl h, by decide⟩
    rw [hn2]
    rfl
  go_loopw [17] (fun i wr => ∃ j fp, j ≤ ls.length ∧ i = .int .i64 ((j : Nat) : Int) ∧ TreeR wr B (docRest (DocS.fresh ls file every) (.slice none 0 0)) docT (ls.take j) fp ∧ (∀ x ∈ fp, w.heap.size ≤ x) ∧ Kept no w wr) (fun i _ => ls.length - (intOf i).toNat)
  case atStart => exact ⟨0, [B], Nat.zero_le _, rfl, hT2, fun x hx => by simp at hx; omega, hk02⟩
  case round =>
    obtain ⟨j, fp, hj, rfl, hT, hfp, hkw⟩ := hrel
    by_cases hlt : j < ls.length
    · have hrr := hr.kept hkw (fun _ _ h => h)
      rcases hrr.shape with ⟨_, h1, _⟩ | ⟨g, c', hv, _, _⟩
      · omega
      simp only [Value.slice.injEq, true_and] at hv
      obtain ⟨rfl, rfl⟩ := hv
      obtain ⟨_, _, _, hcell⟩ := hrr.cell
      have hcj := hcell j (sv ls[j]) (by simp [hlt])
      clear hcell
      have hlj := hok.lines ls[j] (List.getElem_mem hlt)
      have htk : Hid (ls.take (j + 1) = ls.take j ++ [ls[j]]) := List.take_succ_eq_append_getElem hlt
      have hlen : (ls.take j).length = j := by rw [List.length_take]; omega
      obtain ⟨vi, vk, hb⟩ := hT.count
      rw [hlen] at hb
      have hput := put_any hT j ((j : Nat) : Int) rfl (by omega) (by omega) ls[j] (by have := hlj.1; omega)
      rw [List.take_of_length_le (by omega : (ls.take j).length ≤ j), List.drop_eq_nil_of_le (by omega : (ls.take j).length ≤ j)] at hput
      generalize ls[j] = x at hcj htk hput hlj
      clear hlen
      go_wp2_with fail
      refine (len_any hb).mono ?_
      rintro e w3 ⟨rfl, hw⟩
      rw [hw]
      clear hw
      go_wp2_with fail
      refine hput.mono ?_
      rintro e w3 ⟨rfl, fp', hT3, hsub, hk3⟩
      go_wp2
      go_roundw
      case rel =>
        refine ⟨j + 1, fp', hlt, by go_num, by rw [htk.out]; exact hT3, fun y hy => ?_, hkw.step' hk3 (fun y hy hlt => by have := hfp y hy; omega)⟩
        rcases hsub y hy with h1 | h1
        · exact hfp y h1
        · exact Nat.le_trans hkw.size h1
      case measure => simp [intOf]; omega
    · have htk : ls.take j = ls := List.take_of_length_le (by omega)
      rw [htk] at hT
      clear htk
      go_wp2
      go_ret
      exact ⟨B, fp, rfl, hT, hfp, hkw⟩

/-- What Open answers. -/
theorem open_arg (file : Str) (n : Int) (w : World) (h : n < 1 ∨ 20 < n) : Calls Tryz.prog 36 #[.string ⟨file.toArray⟩, .int .i64 n] w fun e w' => e = .returned (.tuple #[.pointer none, .int .i64 1]) ∧ w' = w := by
  by_cases h1 : n < 1
  · have hd : decide (n < 1) = true := by simpa using h1
    clear h
    go_enter Tryz.func36, Tryz.ntmps36
    go_wp2
    go_ret2
    exact ⟨rfl, rfl⟩
  · have hd : decide (n < 1) = false := by simpa using h1
    have h2 : 20 < n := by omega
    clear h
    go_enter Tryz.func36, Tryz.ntmps36
    go_wp2
    go_ret2
    exact ⟨rfl, rfl⟩

theorem open_text (file : Str) (hf : file.length ≤ 1099511627776) (n : Int) (w : World) (h1 : 1 ≤ n) (h2 : n ≤ 20) (hn : ¬ IsText file) : Calls Tryz.prog 36 #[.string ⟨file.toArray⟩, .int .i64 n] w fun e w' => e = .returned (.tuple #[.pointer none, .int .i64 2]) ∧ Kept no w w' := by
  have hd : decide (n < 1) = false := by simp; omega
  have hd2 : decide (20 < n) = false := by simp; omega
  have hcut := (cut_any file w hf).mono (R' := fun e w' => e = .returned (.tuple #[.slice none 0 0, .bool false]) ∧ Kept no w w') (fun e w' ⟨hh, hk⟩ => by
    rcases hh with ⟨ls, v, hok, hls, _⟩ | ⟨_, he⟩
    · exact absurd ⟨ls, hok, hls⟩ hn
    · exact ⟨he, hk⟩)
  go_enter Tryz.func36, Tryz.ntmps36
  go_wp2_with fail
  refine hcut.mono ?_
  rintro e w1 ⟨rfl, hk⟩
  go_wp2
  go_ret2
  exact ⟨rfl, hk⟩

set_option maxHeartbeats 1000000 in
theorem open_yes (ls : List Str) (hok : TextOk ls) (n : Nat) (nI : Int) (hnI : nI = (n : Int)) (w : World) (h1 : 1 ≤ n) (h2 : n ≤ 20) : Calls Tryz.prog 36 #[.string ⟨(textOf ls).toArray⟩, .int .i64 nI] w fun e w' => ∃ b fp, e = .returned (.tuple #[.pointer (some ⟨b, 0, none⟩), .int .i64 0]) ∧ DocR w' b (DocS.fresh ls (textOf ls) n).beginSync fp ∧ (∀ x ∈ fp, w.heap.size ≤ x) ∧ Kept no w w' := by
  subst hnI
  have hd : decide ((n : Int) < 1) = false := by simp; omega
  have hd2 : decide (20 < (n : Int)) = false := by simp; omega
  have hlen := hok.length
  have hcut := (cut_any (textOf ls) w (by omega)).mono (R' := fun e w' => ∃ v, e = .returned (.tuple #[v, .bool true]) ∧ Row w' 9 1 v ls.length (ls.map sv) ∧ Kept no w w') (fun e w' ⟨hh, hk⟩ => by
    rcases hh with ⟨ls', v, hok', hls, he, hr, _⟩ | ⟨hno, _⟩
    · have e1 : ls' = ls := textOf_inj (fun l hl => (hok'.lines l hl).2) (fun l hl => (hok.lines l hl).2) hls
      subst e1
      exact ⟨v, he, hr, hk⟩
    · exact absurd ⟨ls, hok, rfl⟩ hno)
  generalize textOf ls = file at hcut hlen ⊢
  go_enter Tryz.func36, Tryz.ntmps36
  go_wp2_with fail
  refine hcut.mono ?_
  rintro e w1 ⟨v, rfl, hr, hk1⟩
  go_wp2_with fail
  refine (newDoc_any hr hok file (by omega) n _ rfl).mono ?_
  rintro e w2 ⟨b, fp, rfl, hT, hfp, hk2⟩
  have hbase : (DocS.fresh ls file n).Base := ⟨hok, h1, h2, by show 0 ≤ 1; omega, by show 0 < 18446744073709551616; omega, crc_lt _, by simp only [DocS.fresh, markOf]; omega, by simp only [DocS.fresh, markOf]; omega⟩
  go_wp2_with fail
  refine (beginSync_any (d := DocS.fresh ls file n) hT hbase).mono ?_
  rintro e w3 ⟨rfl, v3, afp, hT3, hA3, hf3, hk3⟩
  go_wp2
  go_ret2
  have hs1 := hk1.size
  have hs2 := hk2.size
  refine ⟨b, fp ++ afp, rfl, ⟨v3, fp, afp, ⟨hT3, hA3, fun x hx hx2 => ?_, hbase.sync_ok⟩, rfl⟩, fun x hx => ?_, ?_⟩
  · have := hf3 x hx; have := hT.lt x hx2; omega
  · rcases List.mem_append.1 hx with hx | hx
    · have := hfp x hx; omega
    · have := hf3 x hx; omega
  · exact (hk1.step hk2).step' hk3 (fun x hx hlt => by have := hfp x (hx ▸ hT.mem); omega)
end Go.Proofs.YtdpfohgkikjeaaaGreat
/- readBody. -/
namespace Go.Proofs.YtdpfohgkikjeaaaGreat
open Go.RowKit
set_option linter.unusedVariables false
set_option linter.unusedSimpArgs false

/-- Sectors as an image. -/
def imgOf (secs : List Str) : Img := fun i => (secs[i]?).getD []

theorem flat_body (secs : List Str) (h : Nat) (hl : secs.length = 400) (hh : h ≤ 1) : ((secs.drop (40 * h + 1)).take 39).flatten = bodyOf (imgOf secs) h := by
  unfold bodyOf
  congr 1
  refine List.ext_getElem (by simp; omega) (fun i h1 h2 => ?_)
  simp at h2
  simp [imgOf]
  rw [List.getElem?_eq_getElem (by omega)]
  rfl

/-- What readBody answers. -/
def bodyTo (img : Img) (h : Nat) (m : Mark) : Str × Bool :=
  if m.len < 0 ∨ ((bodyOf img h).length : Int) < m.len then ([], false) else ((bodyOf img h).take m.len.toNat, decide (crc ((bodyOf img h).take m.len.toNat) = m.sum))

theorem StrsAt.drop {w : World} {b o : Nat} {l : List Str} (h : StrsAt w b o l) (k : Nat) : StrsAt w b (o + k) (l.drop k) := fun j s hs => by
  rw [List.getElem?_drop] at hs
  have := h (k + j) s hs
  rwa [← Nat.add_assoc] at this
theorem StrsAt.take {w : World} {b o : Nat} {l : List Str} (h : StrsAt w b o l) (k : Nat) : StrsAt w b o (l.take k) := fun j s hs => by
  rw [List.getElem?_take] at hs
  split at hs
  · exact h j s hs
  · cases hs

theorem flatten_length {l : List Str} {n : Nat} (h : ∀ s ∈ l, s.length = n) : l.flatten.length = n * l.length := by
  induction l with
  | nil => rfl
  | cons a l ih => simp [h a (by simp), ih (fun s hs => h s (by simp [hs])), Nat.mul_add]; omega

set_option maxHeartbeats 2000000 in
set_option maxRecDepth 100000 in
theorem readBody_any (b o cap : Nat) (secs : List Str) (h : Nat) (hI : Int) (hhI : hI = (h : Int)) (m : Mark) (w : World) (hs : StrsAt w b o secs) (hl : secs.length = 400) (h64 : ∀ s ∈ secs, s.length = 64) (hcap : 400 ≤ cap) (hcm : cap ≤ 9223372036854775807) (hh : h ≤ 1) (hbl : b < w.heap.size) :
    Calls Tryz.prog 105 #[.slice (some ⟨b, o, none⟩) 400 cap, .int .i64 hI, .agg #[.int .i64 m.len, .int .u32 (m.sum : Int)]] w fun e w' => e = .returned (.tuple #[sv (bodyTo (imgOf secs) h m).1, .bool (bodyTo (imgOf secs) h m).2]) ∧ Kept no w w' := by
  subst hhI
  have hfl := flat_body secs h hl hh
  have hbs : ((secs.drop (40 * h + 1)).take 39).length = 39 := by rw [List.length_take, List.length_drop]; omega
  have hblen : (bodyOf (imgOf secs) h).length = 2496 := by rw [← hfl, flatten_length (n := 64) (fun s hs' => h64 s (List.mem_of_mem_drop (List.mem_of_mem_take hs'))), hbs]
  go_enter Tryz.func105, Tryz.ntmps105
  go_wp2_with fail
  obtain ⟨hn1, hsz1, hk1⟩ := new1 w (Obj.cells #[.int .i64 m.len, .int .u32 (m.sum : Int)] 93)
  have hs1 := hs.kept hk1 (fun h => h)
  generalize hB : w.heap.size = B at hn1 hsz1 hbl ⊢
  generalize w.alloc (Obj.cells #[.int .i64 m.len, .int .u32 (m.sum : Int)] 93) = w1 at hn1 hsz1 hk1 hs1 ⊢
  refine (bodyAt_any (h : Int) w1 (by omega) (by omega)).mono ?_
  rintro e w2 ⟨rfl, hw⟩
  rw [hw]
  clear hw
  go_wp2_with fail
  refine (bodyAt_any (h : Int) w1 (by omega) (by omega)).mono ?_
  rintro e w2 ⟨rfl, hw⟩
  rw [hw]
  clear hw
  obtain ⟨p, hp⟩ : ∃ p : Nat, p = 40 * h + 1 := ⟨_, rfl⟩
  have hpI : (h : Int) * 40 + 1 = (p : Int) := by omega
  rw [hpI]
  have hp1 : p + 39 ≤ 400 := by omega
  have hwr : IntKind.i64.wrap ((p : Int) + 39) = (p : Int) + 39 := by rw [IntKind.wrap_i64]; omega
  have hi1 : (p : Int) ≤ (p : Int) + 39 := by omega
  have hi2 : (p : Int) + 39 ≤ (cap : Int) := by omega
  have hpc : ¬ (cap = p) := by omega
  have HP : Hid (p = 40 * h + 1) := hp
  clear hp hpI
  go_wp2_with fail
  rw [← HP.out] at hfl hbs
  have hfll : ((secs.drop p).take 39).flatten.length ≤ 140737488355328 := by rw [hfl, hblen]; omega
  refine (join_any b (o + p) 39 (cap - p) 39 ((secs.drop p).take 39) w1 hbs ((hs1.drop p).take 39) (by omega) (by omega) (by omega) hfll).mono ?_
  rintro e w2 ⟨rfl, hk2⟩
  rw [hfl]
  have hn2 := hk2.get hn1 (fun h => h)
  obtain ⟨hc2, _⟩ := cells_of hn2
  have hk02 : Kept no w w2 := hk1.step hk2
  have hbt : bodyTo (imgOf secs) h m = if m.len < 0 ∨ ((bodyOf (imgOf secs) h).length : Int) < m.len then ([], false) else ((bodyOf (imgOf secs) h).take m.len.toNat, decide (crc ((bodyOf (imgOf secs) h).take m.len.toNat) = m.sum)) := rfl
  generalize bodyOf (imgOf secs) h = T at hblen hbt ⊢
  have hTl : (T.length : Int) = 2496 := by omega
  clear hfl hbs hfll hs1 hs hk2
  by_cases h0 : m.len < 0
  · have hd : decide (m.len < 0) = true := by simpa using h0
    rw [if_pos (.inl h0)] at hbt
    have HB : Hid (bodyTo (imgOf secs) h m = ([], false)) := hbt
    clear hbt
    go_wp2
    go_ret2
    rw [HB.out]
    exact ⟨rfl, hk02⟩
  · have hd : decide (m.len < 0) = false := by simpa using h0
    by_cases h1 : (T.length : Int) < m.len
    · rw [if_pos (.inr h1)] at hbt
      have HB : Hid (bodyTo (imgOf secs) h m = ([], false)) := hbt
      clear hbt
      have hd1 : decide ((T.length : Int) < m.len) = true := by simpa using h1
      have h1' : (2496 : Int) < m.len := by omega
      go_wp2
      go_ret2
      rw [HB.out]
      exact ⟨rfl, hk02⟩
    · rw [if_neg (by omega)] at hbt
      have hd1 : decide ((T.length : Int) < m.len) = false := by simpa using h1
      have h1' : ¬ (2496 : Int) < m.len := by omega
      obtain ⟨n, hn⟩ := Int.eq_ofNat_of_zero_le (by omega : 0 ≤ m.len)
      obtain ⟨ml, ms⟩ := m
      simp only at hn
      subst hn
      simp only [Int.toNat_natCast] at hbt
      have hnT : n ≤ 2496 := by simp only at h1'; omega
      simp only at hc2 hd hd1 h1' h0 h1
      have HB : Hid (bodyTo (imgOf secs) h ⟨(n : Int), ms⟩ = (T.take n, decide (crc (T.take n) = ms))) := hbt
      clear hbt
      go_wp2_with fail
      have hex : ({ data := T.toArray } : ByteArray).extract 0 n = ⟨(T.take n).toArray⟩ := by
        rw [extract_list]
        rfl
      rw [hex]
      have hlt : (T.take n).length ≤ 2496 := by rw [List.length_take]; omega
      generalize T.take n = t at hlt HB ⊢
      have heq : ((crc t : Int) == (ms : Int)) = decide (crc t = ms) := by rw [Bool.eq_iff_iff]; simp; omega
      refine wp_region4 (fun W => W.heap[B]? = some (.cells #[.int .i64 (n : Int), .int .u32 (ms : Int)] 93 (0, 0))) [(0, true), (1, true), (3, true), (4, false)] 4 (by kernel_rfl) (by kernel_rfl) (fun _ _ d _ _ h => by cases d <;> exact h) hn2 ?_
      repeat ((first | refine wpPre3_pure rfl rfl (fun W => (by go_simp; rfl)) ?_ | refine wpPre3_read rfl rfl (fun W hW => (by obtain ⟨hc, _⟩ := cells_of hW; go_simp; rfl)) ?_); simp only [Act.put, List.setIfInBounds_toArray, List.set])
      refine wpPre3_nil ?_
      refine wpGo3_one 2 (by kernel_rfl) (OpTo.mk rfl rfl (fun K hK => ?_))
      go_wp2_with fail
      refine (sum_any ⟨t.toArray⟩ _ (by rw [size_mk]; omega)).mono ?_
      rintro e w3 ⟨rfl, hw⟩
      rw [hw]
      clear hw
      refine hK _ _ ⟨fun h => h, ?_⟩
      clear hK
      refine wpGo3_two 5 6 (by kernel_rfl) (OpTo.mk rfl rfl (fun K hK => ?_)) (OpTo.mk rfl rfl (fun K hK => ?_))
      · go_wp2_with fail
        try refine ⟨fun h => h, ?_⟩
        refine wpGo3_one 6 (by kernel_rfl) (OpTo.mk rfl rfl (fun K hK => ?_))
        go_wp2_with fail
        try refine ⟨fun h => h, ?_⟩
        refine wpGo3_one 7 (by kernel_rfl) (OpTo.mk rfl rfl (fun K hK => ?_))
        go_wp2_with fail
        try refine ⟨fun h => h, ?_⟩
        refine wpGo3_nil (by kernel_rfl) ?_
        go_wp2
        go_ret2
        rw [HB.out]
        exact ⟨rfl, hk02.drew⟩
      · go_wp2_with fail
        try refine ⟨fun h => h, ?_⟩
        refine wpGo3_one 5 (by kernel_rfl) (OpTo.mk rfl rfl (fun K hK => ?_))
        go_wp2_with fail
        try refine ⟨fun h => h, ?_⟩
        refine wpGo3_one 7 (by kernel_rfl) (OpTo.mk rfl rfl (fun K hK => ?_))
        go_wp2_with fail
        try refine ⟨fun h => h, ?_⟩
        refine wpGo3_nil (by kernel_rfl) ?_
        go_wp2
        go_ret2
        rw [HB.out]
        exact ⟨rfl, hk02.drew⟩
end Go.Proofs.YtdpfohgkikjeaaaGreat
/- A scope with several labels; isText; Find. -/
namespace Go.Proofs.YtdpfohgkikjeaaaGreat
open Go.RowKit
set_option linter.unusedVariables false
set_option linter.unusedSimpArgs false

/-- As Q; by a goto to a label: what is asked there. -/
def jumpsTo (J : Nat → Act → World → Prop) (Q : Exit → Act → World → Prop) : Exit → Act → World → Prop
  | .goto l, a, w => J l a w
  | e, a, w => Q e a w

section
variable {P : Program} {a : Act} {w : World} {Q : Exit → Act → World → Prop}

theorem wp_scope_all {c : Code} (J : Nat → Act → World → Prop) (μ : Nat → Act → Nat)
    (first : c.wp P (jumpsTo J Q) a w)
    (pass : ∀ l a w, J l a w → ∃ rest, findLabel c l = some rest ∧ rest.wp P (jumpsTo (fun l' a' w' => J l' a' w' ∧ μ l' a' < μ l a) Q) a w) : (Code.scope c).wp P Q a w := by
  intro b k cs
  have key : ∀ n l a w, μ l a = n → J l a w → ∃ rest, findLabel c l = some rest ∧ ∃ e a' w', Q e a' w' ∧ Arrives P (lone (b.at a (.code rest :: .inScope c :: k)) cs w) b k cs e a' w' := by
    intro n
    induction n using Nat.strongRecOn with
    | _ n ih =>
      intro l a w hn hJ
      obtain ⟨rest, hf, hrest⟩ := pass l a w hJ
      refine ⟨rest, hf, ?_⟩
      obtain ⟨e, a₁, w₁, hq, harr⟩ := hrest b (.inScope c :: k) cs
      cases e with
      | normal => exact ⟨.normal, a₁, w₁, hq, Steps.trans harr (.one step_inScope)⟩
      | exit id => exact ⟨.exit id, a₁, w₁, hq, fun k' hk => harr k' (by simp [exitTo, hk])⟩
      | goto l' =>
        obtain ⟨hJ', hlt⟩ := hq
        obtain ⟨rest', hf', e₂, a₂, w₂, hq₂, harr₂⟩ := ih _ (by omega) l' a₁ w₁ rfl hJ'
        have hg : gotoIn l' (.inScope c :: k) = some (.code rest' :: .inScope c :: k) := by simp [gotoIn, hf']
        exact ⟨e₂, a₂, w₂, hq₂, .of_steps (harr _ hg) harr₂⟩
      | ret => exact ⟨_, a₁, w₁, hq, harr⟩
      | panic ch => exact ⟨_, a₁, w₁, hq, harr⟩
      | outgrown => exact ⟨_, a₁, w₁, hq, harr⟩
  obtain ⟨e, a₁, w₁, hq, harr⟩ := first b (.inScope c :: k) cs
  cases e with
  | normal => exact ⟨.normal, a₁, w₁, hq, .head step_scope (Steps.trans harr (.one step_inScope))⟩
  | exit id => exact ⟨.exit id, a₁, w₁, hq, fun k' hk => .head step_scope (harr k' (by simp [exitTo, hk]))⟩
  | goto l' =>
    obtain ⟨rest', hf', e₂, a₂, w₂, hq₂, harr₂⟩ := key _ l' a₁ w₁ rfl hq
    have hg : gotoIn l' (.inScope c :: k) = some (.code rest' :: .inScope c :: k) := by simp [gotoIn, hf']
    exact ⟨e₂, a₂, w₂, hq₂, .of_steps (.head step_scope (harr _ hg)) harr₂⟩
  | ret => exact ⟨_, a₁, w₁, hq, .of_steps (.one step_scope) harr⟩
  | panic ch => exact ⟨_, a₁, w₁, hq, .of_steps (.one step_scope) harr⟩
  | outgrown => exact ⟨_, a₁, w₁, hq, .of_steps (.one step_scope) harr⟩
end

theorem isText_any (s : Str) (w : World) (hs : s.length ≤ 1099511627776) (t : Bool) (ht : t = true ↔ IsText s) : Calls Tryz.prog 79 #[.string ⟨s.toArray⟩] w fun e w' => e = .returned (.bool t) ∧ Kept no w w' := by
  have hcut := (cut_any s w hs).mono (R' := fun e w' => ∃ v, e = .returned (.tuple #[v, .bool t]) ∧ Kept no w w') (fun e w' ⟨hh, hk⟩ => by
    rcases hh with ⟨ls, v, hok, hls, he, _⟩ | ⟨hno, he⟩
    · have : t = true := ht.2 ⟨ls, hok, hls⟩
      subst this
      exact ⟨v, he, hk⟩
    · have : t = false := by cases t with
        | false => rfl
        | true => exact absurd (ht.1 rfl) hno
      subst this
      exact ⟨_, he, hk⟩)
  go_enter Tryz.func79, Tryz.ntmps79
  go_wp2_with fail
  refine hcut.mono ?_
  rintro e w1 ⟨v, rfl, hk⟩
  go_wp2
  go_ret
  exact ⟨rfl, hk⟩

end Go.Proofs.YtdpfohgkikjeaaaGreat

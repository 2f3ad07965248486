/- Part 16 of the proof: see its parts. -/
import Derived.Test.YtdpfohgkikjeaaaGreatU11
import Derived.Test.YtdpfohgkikjeaaaGreatU15
/- The document in memory. -/
namespace Go.Proofs.YtdpfohgkikjeaaaGreat
open Go.RowKit
set_option linter.unusedVariables false
set_option linter.unusedSimpArgs false

abbrev docT : TypeId := 101

/-- The cells of a document behind those of its tree. -/
abbrev docRest (d : DocS) (va : Value) : List Value :=
  [.int .i64 d.file.len, .int .u32 (d.file.sum : Int), .int .i64 (d.every : Int), .int .i64 (d.edits : Int), .int .i64 (d.counted : Int), .bool d.wr.known, .bool d.wr.unsettled, .int .i64 (d.wr.half : Int), .int .u64 (d.wr.number : Int), .int .i64 (d.kind : Int), va]

/-- Acts that are read: in a row, from some place on. -/
def ActsAt (w : World) (va : Value) (acts : List PAct) (afp : List Nat) : Prop :=
  (va = .slice none 0 0 ∧ acts = [] ∧ afp = []) ∨
  (∃ g o c, va = .slice (some ⟨g, o, none⟩) acts.length c ∧ afp = [g] ∧ g < w.heap.size ∧ acts.length ≤ c ∧ c ≤ maxLen ∧ ∀ j u, (actsCells acts)[j]? = some u → w.cell? ⟨g, o + j, none⟩ = some u)

theorem ActsAt.kept {S : Blocks} {w w' : World} {va acts afp} (h : ActsAt w va acts afp) (k : Kept S w w') (hn : ∀ x ∈ afp, ¬ S x) : ActsAt w' va acts afp := by
  rcases h with h | ⟨g, o, c, hv, hf, hg, h1, h2, hc⟩
  · exact .inl h
  · refine .inr ⟨g, o, c, hv, hf, Nat.lt_of_lt_of_le hg k.size, h1, h2, fun j u hu => ?_⟩
    rw [World.cell?_of_block (w := w) (k.block g hg (hn g (by simp [hf])))]
    exact hc j u hu

theorem ActsAt.lt {w : World} {va acts afp} (h : ActsAt w va acts afp) : ∀ x ∈ afp, x < w.heap.size := fun x hx => by
  rcases h with ⟨_, _, h⟩ | ⟨g, o, c, hv, hf, hg, _⟩
  · rw [h] at hx; cases hx
  · rw [hf] at hx; simp at hx; omega

theorem ActsRow.acts {w : World} {v : Value} {l : List PAct} (h : ActsRow w v l) : ActsAt w v l (fpv v) := by
  have hlt := h.lt
  rcases h.2 with ⟨h0, h1⟩ | ⟨g, cap, cur, hv, _, hg, h1, h2, h3, h4⟩
  · exact .inl ⟨h0, List.eq_nil_of_length_eq_zero h1, by rw [h0]; rfl⟩
  · subst hv
    refine .inr ⟨g, 0, cap, rfl, fpv_some, hlt g (by simp [fpv_some]), h1, h2, fun j u hu => ?_⟩
    rw [cells_of' hg, Nat.zero_add]
    rw [← h4, List.getElem?_take] at hu
    split at hu
    · simpa using hu
    · cases hu

structure DocAt (w : World) (b : Nat) (d : DocS) (va : Value) (tfp afp : List Nat) : Prop where
  tree : TreeR w b (docRest d va) docT d.lines tfp
  acts : ActsAt w va d.acts afp
  apart : ∀ x ∈ afp, x ∉ tfp
  ok : d.Ok

/-- The document d lies at b; its blocks are fp. -/
def DocR (w : World) (b : Nat) (d : DocS) (fp : List Nat) : Prop := ∃ va tfp afp, DocAt w b d va tfp afp ∧ fp = tfp ++ afp

theorem DocR.kept {S : Blocks} {w w' : World} {b d fp} (h : DocR w b d fp) (k : Kept S w w') (hn : ∀ x ∈ fp, ¬ S x) : DocR w' b d fp := by
  obtain ⟨va, tfp, afp, ⟨ht, ha, hp, hok⟩, rfl⟩ := h
  exact ⟨va, tfp, afp, ⟨ht.kept k (fun x hx => hn x (by simp [hx])), ha.kept k (fun x hx => hn x (by simp [hx])), hp, hok⟩, rfl⟩

theorem DocR.lt {w : World} {b d fp} (h : DocR w b d fp) : ∀ x ∈ fp, x < w.heap.size := fun x hx => by
  obtain ⟨va, tfp, afp, ⟨ht, ha, hp, hok⟩, rfl⟩ := h
  rcases List.mem_append.1 hx with hx | hx
  · exact ht.lt x hx
  · exact ha.lt x hx

theorem DocR.ok {w : World} {b d fp} (h : DocR w b d fp) : d.Ok := by
  obtain ⟨va, tfp, afp, h, _⟩ := h; exact h.ok

theorem DocR.mem {w : World} {b d fp} (h : DocR w b d fp) : b ∈ fp := by
  obtain ⟨va, tfp, afp, h, rfl⟩ := h
  exact List.mem_append.2 (.inl h.tree.mem)

/-- What a call leaves of a document. -/
structure DocTo (w w' : World) (b : Nat) (fp : List Nat) (d' : DocS) : Prop where
  ex : ∃ fp', DocR w' b d' fp' ∧ ∀ x ∈ fp', x ∈ fp ∨ w.heap.size ≤ x
  kept : Kept (fun x => x ∈ fp) w w'

/-- The same tree, with other cells behind it. -/
theorem TreeR.store {w w' : World} {b : Nat} {rest rest' : List Value} {T : TypeId} {ls : List Str} {fp : List Nat} (h : TreeR w b rest T ls fp) (hk : Kept (fun x => x = b) w w')
    (hc : ∀ vi vk cnt, w.heap[b]? = some (.cells (vi :: vk :: cnt :: rest).toArray T (0, 0)) → w'.heap[b]? = some (.cells (vi :: vk :: cnt :: rest').toArray T (0, 0))) : TreeR w' b rest' T ls fp := by
  obtain ⟨hh, n, hN, h1, h2⟩ := h.ex
  obtain ⟨vi, vk, h3⟩ := hN.three
  obtain ⟨tl, htl⟩ := h3.fp
  have hnd := hN.nodup
  have hlt := hN.lt
  simp only at htl
  subst htl
  simp only [List.nodup_cons] at hnd
  have := h3.move w' (fun x => x = b) b rest' T hk (fun x hx e => hnd.1 (e ▸ hx)) (hc _ _ _ h3.cells) hnd.1
  exact ⟨hh, n, this, h1, h2⟩

theorem DocAt.cells {w b d va tfp afp} (h : DocAt w b d va tfp afp) : ∃ vi vk, w.heap[b]? = some (.cells (vi :: vk :: .int .i64 (d.lines.length : Int) :: docRest d va).toArray docT (0, 0)) := h.tree.count

theorem stored3 {W : World} {Hb : Nat} {T : TypeId} {c0 c1 c2 v0 v1 v2 : Value} (h : W.heap[Hb]? = some (.cells #[c0, c1, c2] T (0, 0))) :
    (((W.setCell ⟨Hb, 0, none⟩ v0).setCell ⟨Hb, 1, none⟩ v1).setCell ⟨Hb, 2, none⟩ v2).heap[Hb]? = some (.cells #[v0, v1, v2] T (0, 0)) ∧
    Kept (fun x => x = Hb) W (((W.setCell ⟨Hb, 0, none⟩ v0).setCell ⟨Hb, 1, none⟩ v1).setCell ⟨Hb, 2, none⟩ v2) := by
  have e1 := heap_set_same (o := 0) (v := v0) h
  have e2 := heap_set_same (o := 1) (v := v1) e1
  have e3 := heap_set_same (o := 2) (v := v2) e2
  exact ⟨by rw [e3]; simp, (Kept.cell1.step Kept.cell1).step Kept.cell1⟩

theorem busy_any {w b d va tfp afp} (h : DocAt w b d va tfp afp) : Calls Tryz.prog 52 #[.pointer (some ⟨b, 0, none⟩)] w fun e w' => e = .returned (.bool (decide (d.kind ≠ 0))) ∧ w' = w := by
  obtain ⟨vi, vk, hb⟩ := h.cells
  obtain ⟨hc, _⟩ := cells_of hb
  go_enter Tryz.func52, Tryz.ntmps52
  go_wp2
  go_ret
  refine ⟨?_, rfl⟩
  show Ending.returned (.bool ((d.kind : Int) != 0)) = _
  congr 2
  rw [Bool.eq_iff_iff]; simp

theorem look_any {w b d va tfp afp} (h : DocAt w b d va tfp afp) : Calls Tryz.prog 19 #[.pointer (some ⟨b, 0, none⟩)] w fun e w' => e = .returned (.agg #[.int .i64 (d.lines.length : Int), .int .i64 (d.edits : Int), .int .i64 (d.kind : Int)]) ∧ Kept no w w' := by
  obtain ⟨vi, vk, hb⟩ := h.cells
  go_enter Tryz.func19, Tryz.ntmps19
  go_wp2_with fail
  obtain ⟨hn1, hsz1, hk1⟩ := new1 w (Obj.cells #[.int .i64 0, .int .i64 0, .int .i64 0] 44)
  have hb1 := hk1.get hb (fun h => h)
  generalize hB : w.heap.size = B at hn1 hsz1 ⊢
  generalize w.alloc (Obj.cells #[.int .i64 0, .int .i64 0, .int .i64 0] 44) = w1 at hn1 hsz1 hk1 hb1 ⊢
  refine wp_region3 (fun W => W.heap[b]? = some (.cells (vi :: vk :: .int .i64 (d.lines.length : Int) :: docRest d va).toArray docT (0, 0))) [(0, true), (1, true), (2, true), (4, true), (5, true), (6, true), (7, false), (8, true), (9, true), (10, true), (11, true), (12, false)] [3, 13, 14] (by kernel_rfl) (by kernel_rfl) (fun _ _ d _ _ h => by cases d <;> exact h) hb1 ?_
  repeat ((first | refine wpPre3_pure rfl rfl (fun W => (by go_simp; rfl)) ?_ | refine wpPre3_read rfl rfl (fun W hW => (by obtain ⟨hc, _⟩ := cells_of hW; go_simp; rfl)) ?_); simp only [Act.put, List.setIfInBounds_toArray, List.set])
  refine wpPre3_nil ?_
  refine wpTail3_cons rfl rfl (fun K hK => ?_)
  go_wp2_with fail
  refine (len_any (w := w1.drew) hb1).mono ?_
  rintro e w2 ⟨rfl, hw⟩
  rw [hw]
  clear hw
  refine hK _ _ ⟨fun h => h, ?_⟩
  clear hK
  refine wpTail3_last (by kernel_rfl) rfl rfl (fun K hK => ?_)
  go_wp2_with fail
  obtain ⟨hcz, hfz⟩ := cells_of hn1
  refine wpTail3_last (by kernel_rfl) rfl rfl (fun K hK => ?_)
  go_wp2_with fail
  refine wpTail3_nil ?_
  obtain ⟨hs1, hs2⟩ := stored3 (v0 := .int .i64 (d.lines.length : Int)) (v1 := .int .i64 (d.edits : Int)) (v2 := .int .i64 (d.kind : Int)) hn1
  have hk3 : Kept no w (((w1.setCell ⟨B, 0, none⟩ (.int .i64 (d.lines.length : Int))).setCell ⟨B, 1, none⟩ (.int .i64 (d.edits : Int))).setCell ⟨B, 2, none⟩ (.int .i64 (d.kind : Int))) := hk1.step' hs2 (fun x hx hlt => by omega)
  generalize ((w1.setCell ⟨B, 0, none⟩ (.int .i64 (d.lines.length : Int))).setCell ⟨B, 1, none⟩ (.int .i64 (d.edits : Int))).setCell ⟨B, 2, none⟩ (.int .i64 (d.kind : Int)) = w3 at hs1 hk3 ⊢
  clear hcz hfz
  have hs1' : w3.drew.heap[B]? = some (.cells #[.int .i64 (d.lines.length : Int), .int .i64 (d.edits : Int), .int .i64 (d.kind : Int)] 44 (0, 0)) := hs1
  obtain ⟨hcr, _⟩ := cells_of hs1'
  go_wp2
  exact bodyPost_ret (v := .agg #[.int .i64 (d.lines.length : Int), .int .i64 (d.edits : Int), .int .i64 (d.kind : Int)]) (by simp [results, Tryz.results19, go_sem, hcr]) rfl ⟨rfl, hk3.drew⟩
end Go.Proofs.YtdpfohgkikjeaaaGreat
/- Lines; put; a sync is begun. -/
namespace Go.Proofs.YtdpfohgkikjeaaaGreat
open Go.RowKit
set_option linter.unusedVariables false
set_option linter.unusedSimpArgs false

theorem size_mk (l : Str) : (⟨l.toArray⟩ : ByteArray).size = l.length := by simp [ByteArray.size]

theorem contains_str (s : Str) (w : World) (t : Bool) (ht : s.contains 10 = t) : Calls Tryz.prog 84 #[.string ⟨s.toArray⟩, .string ⟨#[10]⟩] w fun e w' => e = .returned (.bool t) ∧ w' = w := by
  subst ht
  exact contains_any ⟨s.toArray⟩ w

theorem isLine_any (s : Str) (w : World) (hs : s.length ≤ 140737488355328) : Calls Tryz.prog 55 #[.string ⟨s.toArray⟩] w fun e w' => e = .returned (.bool (decide (LineOk s))) ∧ w' = w := by
  by_cases h : s.length ≤ 40
  · have hi : (s.length : Int) ≤ 40 := by omega
    have hd : decide ((s.length : Int) ≤ 40) = true := by rw [decide_eq_true_iff]; omega
    by_cases hm : (10 : UInt8) ∈ s
    · have hc := contains_str s w true (by simpa using hm)
      go_enter Tryz.func55, Tryz.ntmps55
      go_wp2_with (go_at_call 84; refine hc.mono ?_; rintro e w ⟨rfl, rfl⟩)
      go_ret
      rw [decide_eq_false (fun hh : LineOk s => hh.2 hm)]
      exact ⟨rfl, rfl⟩
    · have hc := contains_str s w false (by simpa using hm)
      go_enter Tryz.func55, Tryz.ntmps55
      go_wp2_with (go_at_call 84; refine hc.mono ?_; rintro e w ⟨rfl, rfl⟩)
      go_ret
      rw [decide_eq_true (⟨h, hm⟩ : LineOk s)]
      exact ⟨rfl, rfl⟩
  · have hi : ¬ (s.length : Int) ≤ 40 := by omega
    have hd : decide ((s.length : Int) ≤ 40) = false := by rw [decide_eq_false_iff_not]; omega
    go_enter Tryz.func55, Tryz.ntmps55
    go_wp2
    go_ret
    exact ⟨rfl, rfl⟩

set_option maxRecDepth 100000 in
theorem put_any {w : World} {b : Nat} {ls : List Str} {rest : List Value} {T : TypeId} {fp : List Nat} (hT : TreeR w b rest T ls fp) (p : Nat) (pI : Int) (hpI : pI = (p : Int)) (hp : p ≤ ls.length) (hl : ls.length ≤ 900) (item : Str) (hi : item.length ≤ 140737488355328) :
    Calls Tryz.prog 56 #[.pointer (some ⟨b, 0, none⟩), .int .i64 pI, sv item] w fun e w' => e = .returned (.tuple #[]) ∧ ∃ fp', TreeTo w w' b rest T fp (ls.take p ++ item :: ls.drop p) fp' := by
  subst hpI
  have hsz : (⟨item.toArray⟩ : ByteArray).size ≤ 281474976710656 := by rw [size_mk]; omega
  go_enter Tryz.func56, Tryz.ntmps56
  go_wp2_with fail
  refine wp_region3 (fun _ => True) [(0, true), (1, true), (2, true), (3, true), (4, true)] [5, 6] (by kernel_rfl) (by kernel_rfl) (fun _ _ d _ _ h => by cases d <;> exact h) trivial ?_
  repeat (refine wpPre3_pure rfl rfl (fun W => (by go_simp; rfl)) ?_; simp only [Act.put, List.setIfInBounds_toArray, List.set])
  refine wpPre3_nil ?_
  refine wpTail3_cons rfl rfl (fun K hK => ?_)
  go_wp2_with fail
  refine (clone_any ⟨item.toArray⟩ _ hsz).mono ?_
  rintro e w1 ⟨rfl, hk1'⟩
  have hk1 : Kept no w w1 := hk1'.of_drew
  refine hK _ _ ⟨fun _ => trivial, ?_⟩
  clear hK
  have hT1 := hT.kept hk1 (fun _ _ h => h)
  refine wpTail3_cons rfl rfl (fun K hK => ?_)
  go_wp2_with fail
  refine (tinsert_any hT1 p _ rfl hp hl item).mono ?_
  rintro e w2 ⟨rfl, fp', hT2, hsub, hk2⟩
  refine hK _ _ ⟨fun _ => trivial, ?_⟩
  clear hK
  refine wpTail3_nil ?_
  go_wp2
  go_end0
  exact ⟨rfl, fp', hT2, fun x hx => (hsub x hx).imp id (fun h => Nat.le_trans hk1.size h), (hk1.mono (fun _ h _ => h.elim)).step hk2⟩

theorem heap_set2 {W : World} {Hb : Nat} {T : TypeId} {cs : Array Value} {i j : Nat} {v0 v1 : Value} (h : W.heap[Hb]? = some (.cells cs T (0, 0))) :
    ((W.setCell ⟨Hb, i, none⟩ v0).setCell ⟨Hb, j, none⟩ v1).heap[Hb]? = some (.cells ((cs.setIfInBounds i v0).setIfInBounds j v1) T (0, 0)) ∧
    Kept (fun x => x = Hb) W ((W.setCell ⟨Hb, i, none⟩ v0).setCell ⟨Hb, j, none⟩ v1) :=
  ⟨heap_set_same (heap_set_same h), Kept.cell1.step Kept.cell1⟩

set_option maxHeartbeats 1000000 in
theorem beginSync_any {w b d va tfp} (hT : TreeR w b (docRest d va) docT d.lines tfp) (ok : d.Base) :
    Calls Tryz.prog 59 #[.pointer (some ⟨b, 0, none⟩)] w fun e w' => e = .returned (.tuple #[]) ∧ ∃ v afp, TreeR w' b (docRest d.beginSync v) docT d.lines tfp ∧ ActsAt w' v d.beginSync.acts afp ∧ (∀ x ∈ afp, w.heap.size ≤ x) ∧ Kept (fun x => x = b) w w' := by
  obtain ⟨vi, vk, hb⟩ := hT.count
  obtain ⟨hc, hf⟩ := cells_of hb
  go_enter Tryz.func59, Tryz.ntmps59
  go_wp2_with fail
  have hb1 : (w.setCell ⟨b, 7, none⟩ (.int .i64 0)).heap[b]? = some (.cells (vi :: vk :: .int .i64 (d.lines.length : Int) :: docRest { d with counted := 0 } va).toArray docT (0, 0)) := by rw [heap_set_same hb]; simp
  have hk1 : Kept (fun x => x = b) w (w.setCell ⟨b, 7, none⟩ (.int .i64 0)) := Kept.cell1
  have hT1 : TreeR (w.setCell ⟨b, 7, none⟩ (.int .i64 0)) b (docRest { d with counted := 0 } va) docT d.lines tfp := hT.store hk1 (fun _ _ _ hh => by rw [heap_set_same hh]; simp)
  generalize w.setCell ⟨b, 7, none⟩ (.int .i64 0) = w1 at hb1 hk1 hT1 ⊢
  clear hc hf
  refine wp_region3 (fun W => W.heap[b]? = some (.cells (vi :: vk :: .int .i64 (d.lines.length : Int) :: docRest { d with counted := 0 } va).toArray docT (0, 0))) [(0, true), (1, true), (2, true), (3, true), (4, true), (6, true), (7, true), (8, true), (9, false)] [5, 10, 11, 12, 13, 14] (by kernel_rfl) (by kernel_rfl) (fun _ _ d _ _ h => by cases d <;> exact h) hb1 ?_
  repeat ((first | refine wpPre3_pure rfl rfl (fun W => (by go_simp; rfl)) ?_ | refine wpPre3_read rfl rfl (fun W hW => (by obtain ⟨hc, _⟩ := cells_of hW; go_simp; rfl)) ?_); simp only [Act.put, List.setIfInBounds_toArray, List.set])
  refine wpPre3_nil ?_
  refine wpTail3_cons rfl rfl (fun K hK => ?_)
  go_wp2_with fail
  refine (text_any (w := w1.drew) (hT1.kept (S := no) ((Kept.refl _ _).drew) (fun _ _ h => h)) (by have := ok.text.few; omega) (fun l hl => by have := (ok.text.lines l hl).1; omega)).mono ?_
  rintro e w2 ⟨rfl, hk2'⟩
  have hk2 : Kept no w1 w2 := hk2'.of_drew
  refine hK _ _ ⟨fun h => hk2'.get h (fun h => h), ?_⟩
  clear hK
  have hb2 := hk2.get hb1 (fun h => h)
  obtain ⟨hc2, hf2⟩ := cells_of hb2
  refine wpTail3_last (by kernel_rfl) rfl rfl (fun K hK => ?_)
  go_wp2_with fail
  have hwr : WrAt w2 b 8 d.wr := ⟨by rw [hc2]; rfl, by rw [hc2]; rfl, by rw [hc2]; rfl, by rw [hc2]; rfl⟩
  refine (acts_any b 8 d.wr (textOf d.lines) d.file w2 hwr ok.half ok.number ok.text.length ok.sum ok.len0 ok.len1).mono ?_
  rintro e w3 ⟨v, rfl, hr3, hk3, hf3⟩
  obtain ⟨p3, c3, rfl⟩ := Row.slice hr3
  refine hK _ _ ?_
  clear hK
  have hb3 := hk3.get hb2 (fun h => h)
  have hT3 := (hT1.kept hk2 (fun _ _ h => h)).kept hk3 (fun _ _ h => h)
  clear hc2 hf2
  obtain ⟨hc3, hf3'⟩ := cells_of hb3
  refine wpTail3_last (by kernel_rfl) rfl rfl (fun K hK => ?_)
  go_wp2_with fail
  refine wpTail3_last (by kernel_rfl) rfl rfl (fun K hK => ?_)
  go_wp2_with fail
  refine wpTail3_last (by kernel_rfl) rfl rfl (fun K hK => ?_)
  go_wp2_with fail
  refine wpTail3_last (by kernel_rfl) rfl rfl (fun K hK => ?_)
  go_wp2_with fail
  refine wpTail3_nil ?_
  go_wp2
  go_end0
  have hkk : Kept (fun x => x = b) w3 ((w3.setCell ⟨b, 12, none⟩ (.int .i64 1)).setCell ⟨b, 13, none⟩ (.slice p3 (d.wr.acts (textOf d.lines) d.file).length c3)) := Kept.cell1.step Kept.cell1
  have hbl := lt_of_heap hb2
  refine ⟨rfl, _, _, hT3.store hkk (fun vi vk cnt hh => ?_), (ActsRow.acts hr3).kept hkk (fun x hx e => ?_), fun x hx => ?_, ((hk1.step (hk2.mono (fun _ h _ => h.elim))).step (hk3.mono (fun _ h _ => h.elim))).step hkk⟩
  · rw [(heap_set2 hh).1]
    simp [DocS.beginSync]
  · have := hf3 x hx; omega
  · have h1 := hf3 x hx
    have h2 := hk1.size
    have h3 := hk2.size
    omega
end Go.Proofs.YtdpfohgkikjeaaaGreat
/- edited, saveActs, succeeded. -/
namespace Go.Proofs.YtdpfohgkikjeaaaGreat
open Go.RowKit
set_option linter.unusedVariables false
set_option linter.unusedSimpArgs false

/-- What is left of a document whose tree stays. -/
structure DocIn (w w' : World) (b : Nat) (d' : DocS) (tfp afp : List Nat) : Prop where
  ex : ∃ va' afp', TreeR w' b (docRest d' va') docT d'.lines tfp ∧ ActsAt w' va' d'.acts afp' ∧ ∀ x ∈ afp', x ∈ afp ∨ w.heap.size ≤ x
  kept : Kept (fun x => x = b) w w'

set_option maxHeartbeats 1000000 in
set_option maxRecDepth 100000 in
theorem edited_any {w b d va tfp afp} (hT : TreeR w b (docRest d va) docT d.lines tfp) (hA : ActsAt w va d.acts afp) (hba : b ∉ afp) (ok : d.Base) (he : d.edits ≤ 8000000000000) (hcn : d.counted < d.every) :
    Calls Tryz.prog 54 #[.pointer (some ⟨b, 0, none⟩)] w fun e w' => e = .returned (.tuple #[]) ∧ DocIn w w' b d.edited tfp afp := by
  obtain ⟨vi, vk, hb⟩ := hT.count
  obtain ⟨hc, hf⟩ := cells_of hb
  have h20 := ok.every2
  have hw1 : IntKind.i64.wrap ((d.edits : Int) + 1) = (d.edits : Int) + 1 := by rw [IntKind.wrap_i64]; omega
  have hw2 : IntKind.i64.wrap ((d.counted : Int) + 1) = (d.counted : Int) + 1 := by rw [IntKind.wrap_i64]; omega
  go_enter Tryz.func54, Tryz.ntmps54
  go_wp2_with fail
  obtain ⟨d1, hd1⟩ : ∃ d1 : DocS, d1 = { d with edits := d.edits + 1, counted := d.counted + 1 } := ⟨_, rfl⟩
  have hkk : Kept (fun x => x = b) w ((w.setCell ⟨b, 6, none⟩ (.int .i64 ((d.edits : Int) + 1))).setCell ⟨b, 7, none⟩ (.int .i64 ((d.counted : Int) + 1))) := Kept.cell1.step Kept.cell1
  have hT1 : TreeR ((w.setCell ⟨b, 6, none⟩ (.int .i64 ((d.edits : Int) + 1))).setCell ⟨b, 7, none⟩ (.int .i64 ((d.counted : Int) + 1))) b (docRest d1 va) docT d1.lines tfp := by
    rw [hd1]
    exact hT.store hkk (fun vi vk cnt hh => by rw [(heap_set2 hh).1]; simp)
  have hA1 := hA.kept hkk (fun x hx e => hba (e ▸ hx))
  have hb1 : ((w.setCell ⟨b, 6, none⟩ (.int .i64 ((d.edits : Int) + 1))).setCell ⟨b, 7, none⟩ (.int .i64 ((d.counted : Int) + 1))).heap[b]? = some (.cells (vi :: vk :: .int .i64 (d.lines.length : Int) :: docRest { d with edits := d.edits + 1, counted := d.counted + 1 } va).toArray docT (0, 0)) := by
    rw [(heap_set2 hb).1]; simp
  generalize (w.setCell ⟨b, 6, none⟩ (.int .i64 ((d.edits : Int) + 1))).setCell ⟨b, 7, none⟩ (.int .i64 ((d.counted : Int) + 1)) = w1 at hT1 hA1 hb1 hkk ⊢
  clear hc hf
  refine wp_region3 (fun W => W.heap[b]? = some (.cells (vi :: vk :: .int .i64 (d.lines.length : Int) :: docRest { d with edits := d.edits + 1, counted := d.counted + 1 } va).toArray docT (0, 0))) [(0, true), (1, true), (2, true), (3, false), (4, true), (5, true), (6, true), (7, false), (8, true)] [] (by kernel_rfl) (by kernel_rfl) (fun _ _ d _ _ h => by cases d <;> exact h) hb1 ?_
  have hnum : (((d.counted : Int) + 1) == (d.every : Int)) = decide (d.counted + 1 = d.every) := by rw [Bool.eq_iff_iff]; simp; omega
  by_cases hsync : d.counted + 1 = d.every
  · have hed : d.edited = d1.beginSync := by rw [hd1, DocS.edited, if_pos hsync]
    have hbs := beginSync_any (w := w1.drew) (d := d1) (va := va) (tfp := tfp) (hT1.kept (S := no) (Kept.refl _ _).drew (fun _ _ h => h)) (by rw [hd1]; exact ⟨ok.text, ok.every1, ok.every2, ok.half, ok.number, ok.sum, ok.len0, ok.len1⟩)
    rw [decide_eq_true hsync] at hnum
    have hl1 : d1.lines = d.lines := by rw [hd1]
    clear hd1 hsync
    repeat ((first | refine wpPre3_pure rfl rfl (fun W => (by go_simp; rfl)) ?_ | refine wpPre3_read rfl rfl (fun W hW => (by obtain ⟨hc, _⟩ := cells_of hW; go_simp; rfl)) ?_); simp only [Act.put, List.setIfInBounds_toArray, List.set])
    refine wpPre3_nil ?_
    refine wpTail3_nil ?_
    go_wp2_with fail
    refine hbs.mono ?_
    rintro e w2 ⟨rfl, v, afp', hT2, hA2, hf2, hk2'⟩
    have hk2 : Kept (fun x => x = b) w1 w2 := hk2'.of_drew
    go_wp2
    go_end0
    refine ⟨rfl, ⟨v, afp', ?_, by rw [hed]; exact hA2, fun x hx => .inr (Nat.le_trans hkk.size (hf2 x hx))⟩, hkk.step hk2⟩
    rw [hed]
    exact hT2
  · have hed : d.edited = d1 := by rw [hd1, DocS.edited, if_neg hsync]
    rw [decide_eq_false hsync] at hnum
    repeat ((first | refine wpPre3_pure rfl rfl (fun W => (by go_simp; rfl)) ?_ | refine wpPre3_read rfl rfl (fun W hW => (by obtain ⟨hc, _⟩ := cells_of hW; go_simp; rfl)) ?_); simp only [Act.put, List.setIfInBounds_toArray, List.set])
    refine wpPre3_nil ?_
    refine wpTail3_nil ?_
    clear hed
    go_wp2
    go_end0
    have hed : d.edited = d1 := by rw [hd1, DocS.edited, if_neg hsync]
    refine ⟨rfl, ⟨va, afp, ?_, ?_, fun x hx => .inl hx⟩, hkk.drew⟩
    · rw [hed]; exact hT1.kept (S := no) (Kept.refl _ _).drew (fun _ _ h => h)
    · rw [hed, hd1]; exact hA1

/-- Acts that are laid in a row. -/
theorem acts_block {w : World} {g : Nat} {l : List PAct} (h : w.heap[g]? = some (.cells (actsCells l).toArray actT (0, 0))) (hl : l.length ≤ 1000) : ActsRow w (.slice (some ⟨g, 0, none⟩) l.length l.length) l :=
  ⟨actsCells_length l, .inr ⟨g, l.length, (actsCells l).toArray, rfl, Nat.zero_le _, h, Nat.le_refl _, by simp only [maxLen]; omega, by simp [actsCells_length], by rw [← actsCells_length]; simp⟩⟩

end Go.Proofs.YtdpfohgkikjeaaaGreat
/- saveActs, Save, Sync. -/
namespace Go.Proofs.YtdpfohgkikjeaaaGreat
open Go.RowKit
set_option linter.unusedVariables false
set_option linter.unusedSimpArgs false

set_option maxHeartbeats 1000000 in
theorem saveActs_any (t : Str) (w : World) (ht : t.length ≤ 1000000) : Calls Tryz.prog 57 #[.string ⟨t.toArray⟩] w fun e w' => ∃ v, e = .returned v ∧ ActsRow w' v (saveActs t) ∧ Kept no w w' ∧ ∀ x ∈ fpv v, w.heap.size ≤ x := by
  have hA0 : AS w (w.alloc (Obj.cells #[.int .i64 3, .int .i64 0, .string ⟨#[]⟩] actT)) (.slice (some ⟨w.heap.size, 0, none⟩) 1 1) [⟨3, 0, []⟩] :=
    ⟨(Kept.refl _ _).alloc _, acts_block (l := [⟨3, 0, []⟩]) heap_alloc_same (by simp), fun x hx => by rw [fpv_some] at hx; simp at hx; omega⟩
  by_cases h0 : t = []
  · subst h0
    go_enter Tryz.func57, Tryz.ntmps57
    go_upto_if 7 with fail
    generalize Value.slice (some ⟨w.heap.size, 0, none⟩) 1 1 = v1 at hA0 ⊢
    generalize w.alloc (Obj.cells #[.int .i64 3, .int .i64 0, .string ⟨#[]⟩] actT) = w1 at hA0 ⊢
    go_wp2_with (at_builtin; apply hold)
    delta Hid
    refine wpList_acts rfl _ _ rfl _ _ rfl (hA0.alloc _).row _ 3 3 [⟨5, 0, []⟩, ⟨6, 0, []⟩, ⟨7, 0, []⟩] rfl rfl (by rw [heap_alloc_same]; rfl) (by simp) (fun v' w' hr hg => ?_)
    have hA4 := (hA0.alloc _).app hr hg
    go_wp2
    go_ret
    exact ⟨v', rfl, hA4.row, hA4.kept, hA4.fresh⟩
  · have hb : t.isEmpty = false := by cases t with
      | nil => exact absurd rfl h0
      | cons => rfl
    go_enter Tryz.func57, Tryz.ntmps57
    go_upto_if 7 with fail
    generalize Value.slice (some ⟨w.heap.size, 0, none⟩) 1 1 = v1 at hA0 ⊢
    generalize w.alloc (Obj.cells #[.int .i64 3, .int .i64 0, .string ⟨#[]⟩] actT) = w1 at hA0 ⊢
    go_wp2_with (at_builtin; apply hold)
    delta Hid
    refine wpList_acts rfl _ _ rfl _ _ rfl (hA0.alloc _).row _ 1 1 [⟨4, 0, t⟩] rfl rfl (by rw [heap_alloc_same]; rfl) (by simp) (fun v2 w2 hr hg => ?_)
    have hA2 := (hA0.alloc _).app hr hg
    clear hr hg
    go_wp2_with (at_builtin; apply hold)
    delta Hid
    refine wpList_acts rfl _ _ rfl _ _ rfl (hA2.alloc _).row _ 3 3 [⟨5, 0, []⟩, ⟨6, 0, []⟩, ⟨7, 0, []⟩] rfl rfl (by rw [heap_alloc_same]; rfl) (by simp) (fun v' w' hr hg => ?_)
    have hA4 := (hA2.alloc _).app hr hg
    go_wp2
    go_ret
    refine ⟨v', rfl, ?_, hA4.kept, hA4.fresh⟩
    have e : saveActs t = [⟨3, 0, []⟩] ++ [⟨4, 0, t⟩] ++ [⟨5, 0, []⟩, ⟨6, 0, []⟩, ⟨7, 0, []⟩] := by simp [saveActs, h0]
    rw [e]
    exact hA4.row

theorem save_busy {w b d va tfp afp} (h : DocAt w b d va tfp afp) (hk : d.kind ≠ 0) : Calls Tryz.prog 27 #[.pointer (some ⟨b, 0, none⟩)] w fun e w' => e = .returned (.int .i64 5) ∧ w' = w := by
  have hb := busy_any h
  rw [decide_eq_true hk] at hb
  go_enter Tryz.func27, Tryz.ntmps27
  go_wp2_with (go_at_call 52; refine hb.mono ?_; rintro e w ⟨rfl, rfl⟩)
  go_ret
  exact ⟨rfl, rfl⟩

set_option maxHeartbeats 1000000 in
theorem save_yes {w b d va tfp afp} (h : DocAt w b d va tfp afp) (hk : d.kind = 0) : Calls Tryz.prog 27 #[.pointer (some ⟨b, 0, none⟩)] w fun e w' => e = .returned (.int .i64 0) ∧ DocTo w w' b (tfp ++ afp) d.save.2 := by
  have hb := busy_any h
  rw [decide_eq_false (by omega : ¬ d.kind ≠ 0)] at hb
  have ok := h.ok
  have htx := text_any h.tree (by have := ok.text.few; omega) (fun l hl => by have := (ok.text.lines l hl).1; omega)
  go_enter Tryz.func27, Tryz.ntmps27
  go_wp2_with fail
  refine hb.mono ?_
  rintro e w1 ⟨rfl, hw⟩
  rw [hw]
  clear hw
  go_wp2_with fail
  refine htx.mono ?_
  rintro e w1 ⟨rfl, hk1⟩
  go_wp2_with fail
  refine (saveActs_any (textOf d.lines) w1 (by have := ok.text.length; omega)).mono ?_
  rintro e w2 ⟨v, rfl, hr, hk2, hf⟩
  obtain ⟨p3, c3, rfl⟩ := Row.slice hr
  obtain ⟨vi, vk, hb0⟩ := h.cells
  have hb2 := (hk1.step hk2).get hb0 (fun h => h)
  obtain ⟨hc2, hf2⟩ := cells_of hb2
  have hT2 := h.tree.kept (hk1.step hk2) (fun _ _ h => h)
  go_wp2
  go_ret
  have hkk : Kept (fun x => x = b) w2 ((w2.setCell ⟨b, 12, none⟩ (.int .i64 2)).setCell ⟨b, 13, none⟩ (.slice p3 (saveActs (textOf d.lines)).length c3)) := Kept.cell1.step Kept.cell1
  have hbl := lt_of_heap hb0
  have hs1 := hk1.size
  have hbm := h.tree.mem
  have hd : d.save.2 = { d with kind := 2, acts := saveActs d.text } := by simp [DocS.save, hk]
  rw [hd]
  refine ⟨rfl, ⟨_, ⟨_, tfp, _, ⟨hT2.store hkk (fun vi vk cnt hh => ?_), (ActsRow.acts hr).kept hkk (fun x hx e => ?_), fun x hx hx2 => ?_, ?_⟩, rfl⟩, fun x hx => ?_⟩, ((hk1.step hk2).mono (fun _ h _ => h.elim)).step' hkk (fun x hx _ => by rw [hx]; exact List.mem_append.2 (.inl hbm))⟩
  · rw [(heap_set2 hh).1]; simp
  · have := hf x hx; omega
  · have h1 := hf x hx
    have h2 := h.tree.lt x hx2
    omega
  · exact ⟨⟨ok.text, ok.every1, ok.every2, ok.half, ok.number, ok.sum, ok.len0, ok.len1⟩, ok.counted, Nat.le_refl 2, by simp [saveActs]⟩
  · rcases List.mem_append.1 hx with hx | hx
    · exact .inl (List.mem_append.2 (.inl hx))
    · have := hf x hx; exact .inr (by omega)
end Go.Proofs.YtdpfohgkikjeaaaGreat
/- Sync, Act. -/
namespace Go.Proofs.YtdpfohgkikjeaaaGreat
open Go.RowKit
set_option linter.unusedVariables false
set_option linter.unusedSimpArgs false

theorem DocIn.doc {w w1 w' : World} {b : Nat} {d' : DocS} {tfp afp : List Nat} (h : DocIn w1 w' b d' tfp afp) (ok : d'.Ok) (hb : b ∈ tfp) (hs : w.heap.size ≤ w1.heap.size) (hk : Kept (fun x => x ∈ tfp ++ afp) w w1) (hlt : ∀ x ∈ tfp, x < w1.heap.size) (hap : ∀ x ∈ afp, x ∉ tfp) : DocTo w w' b (tfp ++ afp) d' := by
  obtain ⟨⟨va', afp', hT, hA, hs2⟩, hk2⟩ := h
  refine ⟨⟨tfp ++ afp', ⟨va', tfp, afp', ⟨hT, hA, fun x hx hx2 => ?_, ok⟩, rfl⟩, fun x hx => ?_⟩, hk.step' hk2 (fun x hx _ => by rw [hx]; exact List.mem_append.2 (.inl hb))⟩
  · rcases hs2 x hx with h1 | h1
    · exact hap x h1 hx2
    · have := hlt x hx2; omega
  · rcases List.mem_append.1 hx with hx | hx
    · exact .inl (List.mem_append.2 (.inl hx))
    · rcases hs2 x hx with h1 | h1
      · exact .inl (List.mem_append.2 (.inr h1))
      · exact .inr (by omega)

theorem DocS.Base.sync_ok {d : DocS} (ok : d.Base) : d.beginSync.Ok :=
  ⟨⟨ok.text, ok.every1, ok.every2, ok.half, ok.number, ok.sum, ok.len0, ok.len1⟩, by show 0 < d.every; have := ok.every1; omega, by show 1 ≤ 2; omega, by show 1 ≠ 0 ↔ d.wr.acts d.text d.file ≠ []; simp [acts_ne]⟩

theorem sync_busy {w b d va tfp afp} (h : DocAt w b d va tfp afp) (hk : d.kind ≠ 0) : Calls Tryz.prog 28 #[.pointer (some ⟨b, 0, none⟩)] w fun e w' => e = .returned (.int .i64 5) ∧ w' = w := by
  have hb := busy_any h
  rw [decide_eq_true hk] at hb
  go_enter Tryz.func28, Tryz.ntmps28
  go_wp2_with (go_at_call 52; refine hb.mono ?_; rintro e w ⟨rfl, rfl⟩)
  go_ret
  exact ⟨rfl, rfl⟩

theorem sync_idle {w b d va tfp afp} (h : DocAt w b d va tfp afp) (hk : d.kind = 0) (he : d.edits = 0) (hn : d.wr.known = true) : Calls Tryz.prog 28 #[.pointer (some ⟨b, 0, none⟩)] w fun e w' => e = .returned (.int .i64 6) ∧ w' = w := by
  have hb := busy_any h
  rw [decide_eq_false (by omega : ¬ d.kind ≠ 0)] at hb
  obtain ⟨vi, vk, hb0⟩ := h.cells
  obtain ⟨hc, hf⟩ := cells_of hb0
  have hfr := fresh_any b 8 true w (by rw [hc, ← hn]; rfl)
  have he' : ((d.edits : Int) == 0) = true := by rw [he]; rfl
  clear he hn hk
  go_enter Tryz.func28, Tryz.ntmps28
  go_wp2_with (first | (go_at_call 52; refine hb.mono ?_; rintro e w ⟨rfl, rfl⟩) | (go_at_call 58; refine hfr.mono ?_; rintro e w ⟨rfl, rfl⟩))
  go_ret
  exact ⟨rfl, rfl⟩

theorem sync_yes {w b d va tfp afp} (h : DocAt w b d va tfp afp) (hk : d.kind = 0) (he : ¬ (d.edits = 0 ∧ d.wr.known = true)) : Calls Tryz.prog 28 #[.pointer (some ⟨b, 0, none⟩)] w fun e w' => e = .returned (.int .i64 0) ∧ DocTo w w' b (tfp ++ afp) d.beginSync := by
  have hb := busy_any h
  rw [decide_eq_false (by omega : ¬ d.kind ≠ 0)] at hb
  have ok := h.ok
  obtain ⟨vi, vk, hb0⟩ := h.cells
  obtain ⟨hc, hf⟩ := cells_of hb0
  have hbs := beginSync_any h.tree ok.toBase
  have hbm := h.tree.mem
  have hlt := h.tree.lt
  have hap := h.apart
  have fin : ∀ w', (∃ v afp', TreeR w' b (docRest d.beginSync v) docT d.lines tfp ∧ ActsAt w' v d.beginSync.acts afp' ∧ (∀ x ∈ afp', w.heap.size ≤ x) ∧ Kept (fun x => x = b) w w') → DocTo w w' b (tfp ++ afp) d.beginSync := fun w' ⟨v, afp', h1, h2, h3, h4⟩ =>
    DocIn.doc (w := w) (w1 := w) ⟨⟨v, afp', h1, h2, fun x hx => .inr (h3 x hx)⟩, h4⟩ ok.toBase.sync_ok hbm (Nat.le_refl _) (Kept.refl _ _) hlt hap
  by_cases h0 : d.edits = 0
  · have hkn : d.wr.known = false := by cases hh : d.wr.known with
      | false => rfl
      | true => exact absurd ⟨h0, hh⟩ he
    have hfr := fresh_any b 8 false w (by rw [hc, ← hkn]; rfl)
    have he' : ((d.edits : Int) == 0) = true := by rw [h0]; rfl
    clear h0 hkn hk he
    go_enter Tryz.func28, Tryz.ntmps28
    go_wp2_with fail
    refine hb.mono ?_
    rintro e w1 ⟨rfl, hw⟩
    rw [hw]
    clear hw
    go_wp2_with fail
    refine hfr.mono ?_
    rintro e w1 ⟨rfl, hw⟩
    rw [hw]
    clear hw
    go_wp2_with fail
    refine hbs.mono ?_
    rintro e w1 ⟨rfl, hx⟩
    go_wp2
    go_ret
    exact ⟨rfl, fin _ hx⟩
  · have he' : ((d.edits : Int) == 0) = false := by rw [beq_eq_false_iff_ne]; omega
    clear hk he
    go_enter Tryz.func28, Tryz.ntmps28
    go_wp2_with fail
    refine hb.mono ?_
    rintro e w1 ⟨rfl, hw⟩
    rw [hw]
    clear hw
    go_wp2_with fail
    refine hbs.mono ?_
    rintro e w1 ⟨rfl, hx⟩
    go_wp2
    go_ret
    exact ⟨rfl, fin _ hx⟩

theorem stored3a {W : World} {Hb : Nat} {T : TypeId} {c0 c1 c2 v0 v1 v2 : Value} (h : W.heap[Hb]? = some (.cells #[c0, c1, c2] T (0, 0))) : ∀ k, ((((W.setCell ⟨Hb, 0, none⟩ v0).setCell ⟨Hb, 1, none⟩ v1).setCell ⟨Hb, 2, none⟩ v2)).cell? ⟨Hb, k, none⟩ = #[v0, v1, v2][k]? := (cells_of (stored3 h).1).1

theorem act_no {w b d va tfp afp} (h : DocAt w b d va tfp afp) (hk : d.kind = 0) : Calls Tryz.prog 42 #[.pointer (some ⟨b, 0, none⟩)] w fun e w' => e = .returned (.tuple #[.agg #[.int .i64 0, .int .i64 0, .string ⟨#[]⟩], .bool false]) ∧ Kept no w w' := by
  obtain ⟨hn1, hsz1, hk1⟩ := new1 w (Obj.cells #[.int .i64 0, .int .i64 0, .string ⟨#[]⟩] actT)
  have h1 : DocAt (w.alloc (Obj.cells #[.int .i64 0, .int .i64 0, .string ⟨#[]⟩] actT)) b d va tfp afp := ⟨h.tree.kept hk1 (fun _ _ h => h), h.acts.kept hk1 (fun _ _ h => h), h.apart, h.ok⟩
  have hb := busy_any h1
  rw [decide_eq_false (by omega : ¬ d.kind ≠ 0)] at hb
  go_enter Tryz.func42, Tryz.ntmps42
  go_wp2_with fail
  refine hb.mono ?_
  rintro e w1 ⟨rfl, hw⟩
  rw [hw]
  clear hw
  obtain ⟨hcz, hfz⟩ := cells_of hn1
  go_wp2
  refine bodyPost_ret (v := .tuple #[.agg #[.int .i64 0, .int .i64 0, .string ⟨#[]⟩], .bool false]) (by simp [results, Tryz.results42, go_sem]) rfl ⟨rfl, ?_⟩
  exact (Kept.refl _ _).alloc _
end Go.Proofs.YtdpfohgkikjeaaaGreat
/- Act of a job; succeeded. -/
namespace Go.Proofs.YtdpfohgkikjeaaaGreat
open Go.RowKit
set_option linter.unusedVariables false
set_option linter.unusedSimpArgs false

theorem act_yes {w b d va tfp afp} (h : DocAt w b d va tfp afp) (a : PAct) (r : List PAct) (hk : d.kind ≠ 0) (ha : d.acts = a :: r) : Calls Tryz.prog 42 #[.pointer (some ⟨b, 0, none⟩)] w fun e w' => e = .returned (.tuple #[a.val, .bool true]) ∧ Kept no w w' := by
  obtain ⟨hn1, hsz1, hk1⟩ := new1 w (Obj.cells #[.int .i64 0, .int .i64 0, .string ⟨#[]⟩] actT)
  have h1 : DocAt (w.alloc (Obj.cells #[.int .i64 0, .int .i64 0, .string ⟨#[]⟩] actT)) b d va tfp afp := ⟨h.tree.kept hk1 (fun _ _ h => h), h.acts.kept hk1 (fun _ _ h => h), h.apart, h.ok⟩
  have hb := busy_any h1
  rw [decide_eq_true hk] at hb
  obtain ⟨vi, vk, hb0⟩ := h1.cells
  rcases h1.acts with ⟨_, h0, _⟩ | ⟨g, o, c, rfl, hf, hg, hn, hcm, hcell⟩
  · rw [h0] at ha; cases ha
  rw [ha] at hb0 hcell hn
  have e0 := hcell 0 (.int .i64 (a.kind : Int)) (by simp [actsCells, actCells])
  have e1 := hcell 1 (.int .i64 (a.at_ : Int)) (by simp [actsCells, actCells])
  have e2 := hcell 2 (.string ⟨a.data.toArray⟩) (by simp [actsCells, actCells])
  rw [Nat.add_zero] at e0
  have hlen : Hid ((a :: r).length = r.length + 1) := rfl
  rw [hlen.out] at hb0
  have hpos : (0 : Int) < ((r.length : Int) + 1) := by omega
  clear hcell ha
  obtain ⟨hc0, _⟩ := cells_of hb0
  obtain ⟨hcz, hfz⟩ := cells_of hn1
  go_enter Tryz.func42, Tryz.ntmps42
  go_wp2_with fail
  generalize hB : w.heap.size = B at hn1 hsz1 hcz hfz ⊢
  generalize w.alloc (Obj.cells #[.int .i64 0, .int .i64 0, .string ⟨#[]⟩] actT) = w1 at hn1 hsz1 hk1 h1 hb hb0 e0 e1 e2 hc0 hcz hfz ⊢
  refine hb.mono ?_
  rintro e w2 ⟨rfl, hw⟩
  rw [hw]
  clear hw
  go_wp2
  obtain ⟨hs1, hs2⟩ := stored3 (v0 := .int .i64 (a.kind : Int)) (v1 := .int .i64 (a.at_ : Int)) (v2 := .string ⟨a.data.toArray⟩) hn1
  have hk3 : Kept no w (((w1.setCell ⟨B, 0, none⟩ (.int .i64 (a.kind : Int))).setCell ⟨B, 1, none⟩ (.int .i64 (a.at_ : Int))).setCell ⟨B, 2, none⟩ (.string ⟨a.data.toArray⟩)) := hk1.step' hs2 (fun x hx hlt => by omega)
  generalize ((w1.setCell ⟨B, 0, none⟩ (.int .i64 (a.kind : Int))).setCell ⟨B, 1, none⟩ (.int .i64 (a.at_ : Int))).setCell ⟨B, 2, none⟩ (.string ⟨a.data.toArray⟩) = w3 at hs1 hk3 ⊢
  clear hcz hfz
  obtain ⟨hcr, _⟩ := cells_of hs1
  exact bodyPost_ret (v := .tuple #[a.val, .bool true]) (by simp [results, Tryz.results42, go_sem, hcr]) rfl ⟨rfl, hk3⟩

/-- A job is over: what stands in its cells is nothing. -/
abbrev DocS.over (d : DocS) : DocS := { d with kind := 0, acts := [] }

theorem heap_set4 {W : World} {Hb : Nat} {T : TypeId} {cs : Array Value} {i j k l : Nat} {v0 v1 v2 v3 : Value} (h : W.heap[Hb]? = some (.cells cs T (0, 0))) :
    ((((W.setCell ⟨Hb, i, none⟩ v0).setCell ⟨Hb, j, none⟩ v1).setCell ⟨Hb, k, none⟩ v2).setCell ⟨Hb, l, none⟩ v3).heap[Hb]? = some (.cells ((((cs.setIfInBounds i v0).setIfInBounds j v1).setIfInBounds k v2).setIfInBounds l v3) T (0, 0)) ∧
    Kept (fun x => x = Hb) W ((((W.setCell ⟨Hb, i, none⟩ v0).setCell ⟨Hb, j, none⟩ v1).setCell ⟨Hb, k, none⟩ v2).setCell ⟨Hb, l, none⟩ v3) :=
  ⟨heap_set_same (heap_set_same (heap_set_same (heap_set_same h))), ((Kept.cell1.step Kept.cell1).step Kept.cell1).step Kept.cell1⟩

set_option maxHeartbeats 1000000 in
set_option maxRecDepth 100000 in
theorem succ_save {w : World} {b : Nat} {d : DocS} {tfp : List Nat} (hT : TreeR w b (docRest d.over (.slice none 0 0)) docT d.lines tfp) (ok : d.Base) :
    Calls Tryz.prog 77 #[.pointer (some ⟨b, 0, none⟩), .int .i64 2] w fun e w' => e = .returned (.tuple #[]) ∧ TreeR w' b (docRest { d.over with file := markOf d.text } (.slice none 0 0)) docT d.lines tfp ∧ Kept (fun x => x = b) w w' := by
  have htx := text_any hT (by have := ok.text.few; omega) (fun l hl => by have := (ok.text.lines l hl).1; omega)
  go_enter Tryz.func77, Tryz.ntmps77
  go_wp2_with fail
  refine htx.mono ?_
  rintro e w1 ⟨rfl, hk1⟩
  go_wp2_with fail
  refine (markOf_any ⟨(textOf d.lines).toArray⟩ w1 (by rw [size_mk]; have := ok.text.length; omega)).mono ?_
  rintro e w2 ⟨rfl, hk2⟩
  have hT2 := (hT.kept hk1 (fun _ _ h => h)).kept hk2 (fun _ _ h => h)
  obtain ⟨vi, vk, hb2⟩ := hT2.count
  obtain ⟨hc2, hf2⟩ := cells_of hb2
  go_wp2
  refine bodyPost_ret (results_none rfl _ _ _) rfl ?_
  have hkk := (heap_set2 (i := 3) (j := 4) (v0 := .int .i64 ((textOf d.lines).length : Int)) (v1 := .int .u32 (crc (textOf d.lines) : Int)) hb2).2
  refine ⟨rfl, hT2.store hkk (fun vi vk cnt hh => ?_), ((hk1.step hk2).mono (fun _ h _ => h.elim)).step hkk⟩
  rw [(heap_set2 hh).1]
  simp [markOf, DocS.text]

set_option maxHeartbeats 1000000 in
set_option maxRecDepth 100000 in
theorem succ_sync {w : World} {b : Nat} {d : DocS} {tfp : List Nat} (hT : TreeR w b (docRest d.over (.slice none 0 0)) docT d.lines tfp) (ok : d.Base) :
    Calls Tryz.prog 77 #[.pointer (some ⟨b, 0, none⟩), .int .i64 1] w fun e w' => e = .returned (.tuple #[]) ∧ TreeR w' b (docRest { d.over with wr := d.wr.written, edits := 0 } (.slice none 0 0)) docT d.lines tfp ∧ Kept (fun x => x = b) w w' := by
  obtain ⟨vi, vk, hb⟩ := hT.count
  obtain ⟨hc, hf⟩ := cells_of hb
  have hh := ok.half
  have hwr := written_any b 8 (d.wr.half : Int) d.wr.number w _ _ (by rw [hc]; rfl) (by rw [hc]; rfl) (by rw [hc]; rfl) (by rw [hc]; rfl) hf (by omega) (by omega) ok.number
  go_enter Tryz.func77, Tryz.ntmps77
  go_wp2_with fail
  refine hwr.mono ?_
  rintro e w1 ⟨rfl, j, hw1⟩
  have hb0 : (w.drewN j).heap[b]? = some (.cells (vi :: vk :: .int .i64 (d.lines.length : Int) :: docRest d.over (.slice none 0 0)).toArray docT (0, 0)) := hb
  obtain ⟨h4, k4⟩ := heap_set4 (i := 8) (j := 8 + 1) (k := 8 + 2) (l := 8 + 3) (v0 := .bool true) (v1 := .bool false) (v2 := .int .i64 (1 - (d.wr.half : Int))) (v3 := .int .u64 (((d.wr.number + 1) % 18446744073709551616 : Nat) : Int)) hb0
  have hT1 : TreeR w1 b (docRest { d.over with wr := d.wr.written } (.slice none 0 0)) docT d.lines tfp := by
    have hk : Kept (fun x => x = b) w w1 := by rw [hw1]; exact ((Kept.refl _ w).drewN j).step k4
    refine hT.store hk (fun vi vk cnt hh => ?_)
    have hh' : (w.drewN j).heap[b]? = _ := hh
    rw [hw1, (heap_set4 hh').1]
    have e : (1 : Int) - (d.wr.half : Int) = ((1 - d.wr.half : Nat) : Int) := by have := ok.half; omega
    simp [Wr.written, Wr.next, e]
  have hk : Kept (fun x => x = b) w w1 := by rw [hw1]; exact ((Kept.refl _ w).drewN j).step k4
  clear hw1 h4 k4 hb0 hc hf
  obtain ⟨vi, vk, hb1⟩ := hT1.count
  obtain ⟨hc1, hf1⟩ := cells_of hb1
  go_wp2
  go_end0
  refine ⟨rfl, hT1.store Kept.cell1 (fun vi vk cnt hh => ?_), hk.step Kept.cell1⟩
  rw [heap_set_same hh]
  simp
end Go.Proofs.YtdpfohgkikjeaaaGreat

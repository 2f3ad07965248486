/- Part 29 of the proof: see its parts. -/
import Derived.Test.YtdpfohgkikjeaaaGreatV25
import Derived.Test.YtdpfohgkikjeaaaGreatV26
import Derived.Test.YtdpfohgkikjeaaaGreatV28
/- The statements' own: a world in memory: twins beside one another, swaps that were handed in. -/
namespace Go.Proofs.YtdpfohgkikjeaaaGreat
open Go.RowKit
set_option linter.unusedVariables false
set_option linter.unusedSimpArgs false

abbrev worldT : TypeId := 69
def inkS : Str := [105, 110, 107]

/-- A swap that was handed in, written over. -/
structure Ink (w : World) (v : Value) (n g : Nat) : Prop where
  ex : ∃ c, v = .slice (some ⟨g, 0, none⟩) n c ∧ n ≤ c ∧ c ≤ 9223372036854775807
  few : n ≤ 1000
  lt : g < w.heap.size
  ink : ∀ j, j < n → w.cell? ⟨g, j, none⟩ = some (sv inkS)

theorem Ink.kept {S : Blocks} {w w' : World} {v : Value} {n g : Nat} (h : Ink w v n g) (k : Kept S w w') (hn : ¬ S g) : Ink w' v n g :=
  ⟨h.ex, h.few, Nat.lt_of_lt_of_le h.lt k.size, fun j hj => k.read (h.ink j hj) hn⟩

abbrev TwL := List (Nat × TwinS × List Nat)
abbrev SwL := List (Value × Nat × Nat)

structure WorldM (w : World) (b : Nat) (l : TwL) (ss : SwL) (va vs : Value) (lab : Nat → Nat) : Prop where
  cells : w.heap[b]? = some (.cells #[va, vs] worldT (0, 0))
  all : Row w 117 1 va l.length (l.map fun t => ptrV t.1)
  swaps : Row w 34 1 vs ss.length (ss.map fun s => s.1)
  twins : ∀ (i : Nat) (t : Nat × TwinS × List Nat), l[i]? = some t → TwinR w t.1 t.2.1 t.2.2
  inks : ∀ (j : Nat) (s : Value × Nat × Nat), ss[j]? = some s → Ink w s.1 s.2.1 s.2.2
  lb : lab b = 0
  lall : ∀ x ∈ fpv va, lab x = 1
  lsw : ∀ x ∈ fpv vs, lab x = 2
  ltw : ∀ (i : Nat) (t : Nat × TwinS × List Nat), l[i]? = some t → ∀ x ∈ t.2.2, lab x = 3 + 2 * i
  lin : ∀ (j : Nat) (s : Value × Nat × Nat), ss[j]? = some s → lab s.2.2 = 4 + 2 * j

abbrev worldFp (b : Nat) (l : TwL) (ss : SwL) (va vs : Value) : List Nat := b :: (fpv va ++ (fpv vs ++ ((l.map fun t => t.2.2).flatten ++ ss.map fun s => s.2.2)))

theorem mem_worldFp {b : Nat} {l : TwL} {ss : SwL} {va vs : Value} {x : Nat} : x ∈ worldFp b l ss va vs ↔ x = b ∨ x ∈ fpv va ∨ x ∈ fpv vs ∨ (∃ (i : Nat) (t : Nat × TwinS × List Nat), l[i]? = some t ∧ x ∈ t.2.2) ∨ ∃ (j : Nat) (s : Value × Nat × Nat), ss[j]? = some s ∧ x = s.2.2 := by
  simp only [worldFp, List.mem_cons, List.mem_append, List.mem_flatten, List.mem_map]
  constructor
  · rintro (h | h | h | ⟨_, ⟨t, ht, rfl⟩, hx⟩ | ⟨s, hs, rfl⟩)
    · exact .inl h
    · exact .inr (.inl h)
    · exact .inr (.inr (.inl h))
    · obtain ⟨i, hi⟩ := List.mem_iff_getElem?.1 ht
      exact .inr (.inr (.inr (.inl ⟨i, t, hi, hx⟩)))
    · obtain ⟨j, hj⟩ := List.mem_iff_getElem?.1 hs
      exact .inr (.inr (.inr (.inr ⟨j, s, hj, rfl⟩)))
  · rintro (h | h | h | ⟨i, t, hi, hx⟩ | ⟨j, s, hj, rfl⟩)
    · exact .inl h
    · exact .inr (.inl h)
    · exact .inr (.inr (.inl h))
    · exact .inr (.inr (.inr (.inl ⟨_, ⟨t, List.mem_of_getElem? hi, rfl⟩, hx⟩)))
    · exact .inr (.inr (.inr (.inr ⟨s, List.mem_of_getElem? hj, rfl⟩)))

section
variable {w w' : World} {b : Nat} {l : TwL} {ss : SwL} {va vs : Value} {lab : Nat → Nat}

theorem WorldM.lt (h : WorldM w b l ss va vs lab) : ∀ x ∈ worldFp b l ss va vs, x < w.heap.size := fun x hx => by
  rcases mem_worldFp.1 hx with rfl | hx | hx | ⟨i, t, hi, hx⟩ | ⟨j, s, hj, rfl⟩
  · exact lt_of_heap h.cells
  · exact h.all.lt x hx
  · exact h.swaps.lt x hx
  · exact (h.twins i t hi).lt x hx
  · exact (h.inks j s hj).lt

theorem WorldM.kept {S : Blocks} (h : WorldM w b l ss va vs lab) (k : Kept S w w') (hn : ∀ x ∈ worldFp b l ss va vs, ¬ S x) : WorldM w' b l ss va vs lab :=
  ⟨k.get h.cells (hn b (mem_worldFp.2 (.inl rfl))), h.all.kept k (fun x hx => hn x (mem_worldFp.2 (.inr (.inl hx)))), h.swaps.kept k (fun x hx => hn x (mem_worldFp.2 (.inr (.inr (.inl hx))))),
    fun i t hi => (h.twins i t hi).kept k (fun x hx => hn x (mem_worldFp.2 (.inr (.inr (.inr (.inl ⟨i, t, hi, hx⟩)))))), fun j s hj => (h.inks j s hj).kept k (hn _ (mem_worldFp.2 (.inr (.inr (.inr (.inr ⟨j, s, hj, rfl⟩)))))),
    h.lb, h.lall, h.lsw, h.ltw, h.lin⟩

theorem set_same_map {α β : Type} (f : α → β) {l : List α} {i : Nat} {t t' : α} (hi : l[i]? = some t) (hf : f t' = f t) : (l.set i t').map f = l.map f := by
  apply List.ext_getElem?
  intro j
  rw [List.getElem?_map, List.getElem?_map, List.getElem?_set]
  split
  · rename_i h
    subst h
    have := (List.getElem?_eq_some_iff.1 hi).1
    rw [if_pos this, hi]
    simp [hf]
  · rfl

/-- A call of one twin. -/
theorem WorldM.twin (h : WorldM w b l ss va vs lab) {i : Nat} {t : Nat × TwinS × List Nat} (hi : l[i]? = some t) {T' : TwinS} {fp' : List Nat} (hT : TwinR w' t.1 T' fp') (hx : ∀ x ∈ fp', x ∈ t.2.2 ∨ x ∉ worldFp b l ss va vs) (hk : Kept (fun x => x ∈ t.2.2) w w') :
    ∃ lab', WorldM w' b (l.set i (t.1, T', fp')) ss va vs lab' := by
  have hlt : ∀ x ∈ t.2.2, lab x = 3 + 2 * i := h.ltw i t hi
  have hno : ∀ x ∈ worldFp b l ss va vs, lab x ≠ 3 + 2 * i → x ∉ fp' := fun x hx' hl hx2 => by
    rcases hx x hx2 with h1 | h1
    · exact hl (hlt x h1)
    · exact h1 hx'
  have hno2 : ∀ x, lab x ≠ 3 + 2 * i → x ∉ t.2.2 := fun x hl hx2 => hl (hlt x hx2)
  have hil := (List.getElem?_eq_some_iff.1 hi).1
  refine ⟨fun x => if x ∈ fp' then 3 + 2 * i else lab x, ?_⟩
  refine ⟨hk.get h.cells (hno2 b (by rw [h.lb]; omega)), ?_, h.swaps.kept hk (fun x hx' => hno2 x (by rw [h.lsw x hx']; omega)), fun j t' hj => ?_, fun j s hj => (h.inks j s hj).kept hk (hno2 _ (by rw [h.lin j s hj]; omega)), ?_, fun x hx' => ?_, fun x hx' => ?_, fun j t' hj x hx' => ?_, fun j s hj => ?_⟩
  · have := h.all.kept hk (fun x hx' => hno2 x (by rw [h.lall x hx']; omega))
    rw [set_same_map (fun t : Nat × TwinS × List Nat => ptrV t.1) (t' := (t.1, T', fp')) hi rfl, List.length_set]
    exact this
  · by_cases e : i = j
    · subst e
      rw [List.getElem?_set_self hil] at hj
      obtain rfl := Option.some.inj hj
      exact hT
    · rw [List.getElem?_set_ne e] at hj
      exact (h.twins j t' hj).kept hk (fun x hx' => hno2 x (by rw [h.ltw j t' hj x hx']; omega))
  · show (if b ∈ fp' then _ else _) = 0
    rw [if_neg (hno b (mem_worldFp.2 (.inl rfl)) (by rw [h.lb]; omega))]; exact h.lb
  · show (if x ∈ fp' then _ else _) = 1
    rw [if_neg (hno x (mem_worldFp.2 (.inr (.inl hx'))) (by rw [h.lall x hx']; omega))]; exact h.lall x hx'
  · show (if x ∈ fp' then _ else _) = 2
    rw [if_neg (hno x (mem_worldFp.2 (.inr (.inr (.inl hx')))) (by rw [h.lsw x hx']; omega))]; exact h.lsw x hx'
  · show (if x ∈ fp' then _ else _) = 3 + 2 * j
    by_cases e : i = j
    · subst e
      rw [List.getElem?_set_self hil] at hj
      obtain rfl := Option.some.inj hj
      rw [if_pos hx']
    · rw [List.getElem?_set_ne e] at hj
      have h1 := h.ltw j t' hj x hx'
      rw [if_neg (hno x (mem_worldFp.2 (.inr (.inr (.inr (.inl ⟨j, t', hj, hx'⟩))))) (by rw [h1]; omega))]; exact h1
  · show (if s.2.2 ∈ fp' then _ else _) = 4 + 2 * j
    have h1 := h.lin j s hj
    rw [if_neg (hno _ (mem_worldFp.2 (.inr (.inr (.inr (.inr ⟨j, s, hj, rfl⟩))))) (by rw [h1]; omega))]; exact h1

theorem getElem?_snoc {α : Type} {l : List α} {x y : α} {j : Nat} (h : (l ++ [x])[j]? = some y) : l[j]? = some y ∨ (j = l.length ∧ y = x) := by
  rw [List.getElem?_append] at h
  split at h
  · exact .inl h
  · rename_i hn
    match hj : j - l.length, h with
    | 0, h => exact .inr ⟨by omega, by simpa using h.symm⟩
    | k + 1, h => simp at h

/-- A twin more: the row has grown, and lies in its cell. -/
theorem WorldM.pushT (h : WorldM w b l ss va vs lab) {bT : Nat} {T : TwinS} {fp : List Nat} (hT : TwinR w bT T fp) (hx : ∀ x ∈ fp, x ∉ worldFp b l ss va vs) {va' : Value} (hr : Row w' 117 1 va' (l.length + 1) ((l.map fun t => ptrV t.1) ++ [ptrV bT])) (hg : Grew w w' va va') :
    w'.heap[b]? = some (.cells #[va, vs] worldT (0, 0)) ∧ (∃ lab', WorldM (w'.setCell ⟨b, 0, none⟩ va') b (l ++ [(bT, T, fp)]) ss va' vs lab') ∧ Kept (fun x => x ∈ worldFp b l ss va vs) w (w'.setCell ⟨b, 0, none⟩ va') := by
  have hk := hg.1
  have hno : ∀ x, lab x ≠ 1 → x ∉ fpv va := fun x hl hx' => hl (h.lall x hx')
  have hvn : ∀ x ∈ worldFp b l ss va vs, lab x ≠ 1 → x ∉ fpv va' := fun x hx' hl hx2 => by
    rcases hg.2 x hx2 with h1 | h1
    · exact hno x hl h1
    · have := h.lt x hx'; omega
  have hvf : ∀ x ∈ fpv va', x ∉ fp := fun x hx' hx2 => by
    rcases hg.2 x hx' with h1 | h1
    · exact hx x hx2 (mem_worldFp.2 (.inr (.inl h1)))
    · have := hT.lt x hx2; omega
  have hs : Kept (fun x => x = b) w' (w'.setCell ⟨b, 0, none⟩ va') := Kept.cell1
  have hb : w'.heap[b]? = _ := hk.get h.cells (hno b (by rw [h.lb]; omega))
  have hbv : b ∉ fpv va' := hvn b (mem_worldFp.2 (.inl rfl)) (by rw [h.lb]; omega)
  have hfl : ∀ x ∈ worldFp b l ss va vs, x ∉ fp := fun x h1 h2 => hx x h2 h1
  refine ⟨hb, ⟨fun x => if x ∈ fp then 3 + 2 * l.length else if x ∈ fpv va' then 1 else lab x, ?_⟩, ?_⟩
  · refine ⟨?_, ?_, ?_, fun j t hj => ?_, fun j s hj => ?_, ?_, fun x hx' => ?_, fun x hx' => ?_, fun j t hj x hx' => ?_, fun j s hj => ?_⟩
    · rw [heap_set_same hb]; simp
    · have := hr.kept hs (fun x hx' e => hbv (e ▸ hx'))
      rw [List.length_append, List.map_append]
      exact this
    · exact (h.swaps.kept hk (fun x hx' => hno x (by rw [h.lsw x hx']; omega))).kept hs (fun x hx' e => by have e : x = b := e; have := h.lsw x hx'; rw [e, h.lb] at this; omega)
    · rcases getElem?_snoc hj with hj | ⟨_, rfl⟩
      · exact ((h.twins j t hj).kept hk (fun x hx' => hno x (by rw [h.ltw j t hj x hx']; omega))).kept hs (fun x hx' e => by have e : x = b := e; have := h.ltw j t hj x hx'; rw [e, h.lb] at this; omega)
      · exact (hT.kept hk (fun x hx' hx2 => hx x hx' (mem_worldFp.2 (.inr (.inl hx2))))).kept hs (fun x hx' e => hx x hx' (mem_worldFp.2 (.inl e)))
    · exact ((h.inks j s hj).kept hk (hno _ (by rw [h.lin j s hj]; omega))).kept hs (fun e => by have e : s.2.2 = b := e; have := h.lin j s hj; rw [e, h.lb] at this; omega)
    · show (if b ∈ fp then _ else if b ∈ fpv va' then _ else _) = 0
      rw [if_neg (hfl b (mem_worldFp.2 (.inl rfl))), if_neg hbv]; exact h.lb
    · show (if x ∈ fp then _ else if x ∈ fpv va' then _ else _) = 1
      rw [if_neg (hvf x hx'), if_pos hx']
    · have hm : x ∈ worldFp b l ss va vs := mem_worldFp.2 (.inr (.inr (.inl hx')))
      show (if x ∈ fp then _ else if x ∈ fpv va' then _ else _) = 2
      rw [if_neg (hfl x hm), if_neg (hvn x hm (by rw [h.lsw x hx']; omega))]; exact h.lsw x hx'
    · show (if x ∈ fp then _ else if x ∈ fpv va' then _ else _) = 3 + 2 * j
      rcases getElem?_snoc hj with hj | ⟨rfl, rfl⟩
      · have hm : x ∈ worldFp b l ss va vs := mem_worldFp.2 (.inr (.inr (.inr (.inl ⟨j, t, hj, hx'⟩))))
        have h1 := h.ltw j t hj x hx'
        rw [if_neg (hfl x hm), if_neg (hvn x hm (by rw [h1]; omega))]; exact h1
      · rw [if_pos hx']
    · have hm : s.2.2 ∈ worldFp b l ss va vs := mem_worldFp.2 (.inr (.inr (.inr (.inr ⟨j, s, hj, rfl⟩))))
      have h1 := h.lin j s hj
      show (if s.2.2 ∈ fp then _ else if s.2.2 ∈ fpv va' then _ else _) = 4 + 2 * j
      rw [if_neg (hfl _ hm), if_neg (hvn _ hm (by rw [h1]; omega))]; exact h1
  · exact (hk.mono (T := fun x => x ∈ worldFp b l ss va vs) (fun x hx' _ => mem_worldFp.2 (.inr (.inl hx')))).step' hs (fun x e _ => mem_worldFp.2 (.inl e))

/-- A swap more. -/
theorem WorldM.pushS (h : WorldM w b l ss va vs lab) {v : Value} {n g : Nat} (hI : Ink w v n g) (hx : g ∉ worldFp b l ss va vs) {vs' : Value} (hr : Row w' 34 1 vs' (ss.length + 1) ((ss.map fun s => s.1) ++ [v])) (hg : Grew w w' vs vs') :
    w'.heap[b]? = some (.cells #[va, vs] worldT (0, 0)) ∧ (∃ lab', WorldM (w'.setCell ⟨b, 1, none⟩ vs') b l (ss ++ [(v, n, g)]) va vs' lab') ∧ Kept (fun x => x ∈ worldFp b l ss va vs) w (w'.setCell ⟨b, 1, none⟩ vs') := by
  have hk := hg.1
  have hno : ∀ x, lab x ≠ 2 → x ∉ fpv vs := fun x hl hx' => hl (h.lsw x hx')
  have hvn : ∀ x ∈ worldFp b l ss va vs, lab x ≠ 2 → x ∉ fpv vs' := fun x hx' hl hx2 => by
    rcases hg.2 x hx2 with h1 | h1
    · exact hno x hl h1
    · have := h.lt x hx'; omega
  have hgv : g ∉ fpv vs' := fun hx' => by
    rcases hg.2 g hx' with h1 | h1
    · exact hx (mem_worldFp.2 (.inr (.inr (.inl h1))))
    · have := hI.lt; omega
  have hs : Kept (fun x => x = b) w' (w'.setCell ⟨b, 1, none⟩ vs') := Kept.cell1
  have hb : w'.heap[b]? = _ := hk.get h.cells (hno b (by rw [h.lb]; omega))
  have hbv : b ∉ fpv vs' := hvn b (mem_worldFp.2 (.inl rfl)) (by rw [h.lb]; omega)
  have hfl : ∀ x ∈ worldFp b l ss va vs, x ≠ g := fun x h1 h2 => hx (h2 ▸ h1)
  refine ⟨hb, ⟨fun x => if x = g then 4 + 2 * ss.length else if x ∈ fpv vs' then 2 else lab x, ?_⟩, ?_⟩
  · refine ⟨?_, ?_, ?_, fun j t hj => ?_, fun j s hj => ?_, ?_, fun x hx' => ?_, fun x hx' => ?_, fun j t hj x hx' => ?_, fun j s hj => ?_⟩
    · rw [heap_set_same hb]; simp
    · exact (h.all.kept hk (fun x hx' => hno x (by rw [h.lall x hx']; omega))).kept hs (fun x hx' e => by have e : x = b := e; have := h.lall x hx'; rw [e, h.lb] at this; omega)
    · have := hr.kept hs (fun x hx' e => hbv (e ▸ hx'))
      rw [List.length_append, List.map_append]
      exact this
    · exact ((h.twins j t hj).kept hk (fun x hx' => hno x (by rw [h.ltw j t hj x hx']; omega))).kept hs (fun x hx' e => by have e : x = b := e; have := h.ltw j t hj x hx'; rw [e, h.lb] at this; omega)
    · rcases getElem?_snoc hj with hj | ⟨_, rfl⟩
      · exact ((h.inks j s hj).kept hk (hno _ (by rw [h.lin j s hj]; omega))).kept hs (fun e => by have e : s.2.2 = b := e; have := h.lin j s hj; rw [e, h.lb] at this; omega)
      · exact (hI.kept hk (fun hx2 => hx (mem_worldFp.2 (.inr (.inr (.inl hx2)))))).kept hs (fun e => hx (mem_worldFp.2 (.inl e)))
    · show (if b = g then _ else if b ∈ fpv vs' then _ else _) = 0
      rw [if_neg (hfl b (mem_worldFp.2 (.inl rfl))), if_neg hbv]; exact h.lb
    · have hm : x ∈ worldFp b l ss va vs := mem_worldFp.2 (.inr (.inl hx'))
      show (if x = g then _ else if x ∈ fpv vs' then _ else _) = 1
      rw [if_neg (hfl x hm), if_neg (hvn x hm (by rw [h.lall x hx']; omega))]; exact h.lall x hx'
    · show (if x = g then _ else if x ∈ fpv vs' then _ else _) = 2
      rw [if_neg (fun e => hgv (by rw [e] at hx'; exact hx')), if_pos hx']
    · have hm : x ∈ worldFp b l ss va vs := mem_worldFp.2 (.inr (.inr (.inr (.inl ⟨j, t, hj, hx'⟩))))
      have h1 := h.ltw j t hj x hx'
      show (if x = g then _ else if x ∈ fpv vs' then _ else _) = 3 + 2 * j
      rw [if_neg (hfl x hm), if_neg (hvn x hm (by rw [h1]; omega))]; exact h1
    · show (if s.2.2 = g then _ else if s.2.2 ∈ fpv vs' then _ else _) = 4 + 2 * j
      rcases getElem?_snoc hj with hj | ⟨rfl, rfl⟩
      · have hm : s.2.2 ∈ worldFp b l ss va vs := mem_worldFp.2 (.inr (.inr (.inr (.inr ⟨j, s, hj, rfl⟩))))
        have h1 := h.lin j s hj
        rw [if_neg (hfl _ hm), if_neg (hvn _ hm (by rw [h1]; omega))]; exact h1
      · rw [if_pos rfl]
  · exact (hk.mono (T := fun x => x ∈ worldFp b l ss va vs) (fun x hx' _ => mem_worldFp.2 (.inr (.inr (.inl hx'))))).step' hs (fun x e _ => mem_worldFp.2 (.inl e))
end

/-- A world at b: its twins l, at most M swaps; its blocks. -/
def WorldR (w : World) (b : Nat) (l : TwL) (M : Nat) (fp : List Nat) : Prop := ∃ ss va vs lab, WorldM w b l ss va vs lab ∧ ss.length ≤ M ∧ fp = worldFp b l ss va vs
theorem WorldR.kept {S : Blocks} {w w' : World} {b l M fp} (h : WorldR w b l M fp) (k : Kept S w w') (hn : ∀ x ∈ fp, ¬ S x) : WorldR w' b l M fp := by
  obtain ⟨ss, va, vs, lab, h, hm, rfl⟩ := h
  exact ⟨ss, va, vs, lab, h.kept k hn, hm, rfl⟩
theorem WorldR.lt {w : World} {b l M fp} (h : WorldR w b l M fp) : ∀ x ∈ fp, x < w.heap.size := by
  obtain ⟨ss, va, vs, lab, h, hm, rfl⟩ := h
  exact h.lt
theorem WorldR.mono {w : World} {b l M M' fp} (h : WorldR w b l M fp) (hm' : M ≤ M') : WorldR w b l M' fp := by
  obtain ⟨ss, va, vs, lab, h, hm, rfl⟩ := h
  exact ⟨ss, va, vs, lab, h, Nat.le_trans hm hm', rfl⟩

/-- What a call leaves of a world. -/
structure WorldTo (w w' : World) (b : Nat) (fp : List Nat) (l' : TwL) (M : Nat) : Prop where
  ex : ∃ fp', WorldR w' b l' M fp' ∧ ∀ x ∈ fp', x ∈ fp ∨ w.heap.size ≤ x
  kept : Kept (fun x => x ∈ fp) w w'

theorem WorldTo.same {w w' : World} {b l M fp} (h : WorldR w b l M fp) (k : Kept no w w') : WorldTo w w' b fp l M := ⟨⟨fp, h.kept k (fun _ _ h => h), fun _ hx => .inl hx⟩, k.mono (fun _ h _ => h.elim)⟩
theorem WorldTo.mono {w w' : World} {b l M M' fp} (h : WorldTo w w' b fp l M) (hm : M ≤ M') : WorldTo w w' b fp l M' := by
  obtain ⟨⟨fp', hr, hx⟩, hk⟩ := h
  exact ⟨⟨fp', hr.mono hm, hx⟩, hk⟩
/-- .. ahead of which nothing old was turned. -/
theorem WorldTo.after {w w1 w' : World} {b l M fp} (h : WorldTo w1 w' b fp l M) (k : Kept no w w1) : WorldTo w w' b fp l M := by
  obtain ⟨⟨fp', hr, hx⟩, hk⟩ := h
  refine ⟨⟨fp', hr, fun x hx' => (hx x hx').imp id (fun h => Nat.le_trans k.size h)⟩, (k.mono (fun _ h _ => h.elim)).step hk⟩

/-- A call of one twin of a world. -/
theorem WorldR.twin {w w' : World} {b : Nat} {l : TwL} {M : Nat} {fp : List Nat} (h : WorldR w b l M fp) {i : Nat} {t : Nat × TwinS × List Nat} (hi : l[i]? = some t) {T' : TwinS} (hT : TwinTo w w' t.1 t.2.2 T') : ∃ fpT, WorldTo w w' b fp (l.set i (t.1, T', fpT)) M := by
  obtain ⟨ss, va, vs, lab, h, hm, rfl⟩ := h
  obtain ⟨⟨fpT, hR, hx⟩, hk⟩ := hT
  obtain ⟨lab', h'⟩ := h.twin hi hR (fun x hx' => (hx x hx').imp id (fun h1 h2 => by have := h.lt x h2; omega)) hk
  refine ⟨fpT, ⟨⟨_, ⟨ss, va, vs, lab', h', hm, rfl⟩, fun x hx' => ?_⟩, hk.mono (fun x hx' _ => mem_worldFp.2 (.inr (.inr (.inr (.inl ⟨i, t, hi, hx'⟩)))))⟩⟩
  rcases mem_worldFp.1 hx' with h1 | h1 | h1 | ⟨j, t', hj, h1⟩ | h1
  · exact .inl (mem_worldFp.2 (.inl h1))
  · exact .inl (mem_worldFp.2 (.inr (.inl h1)))
  · exact .inl (mem_worldFp.2 (.inr (.inr (.inl h1))))
  · by_cases e : i = j
    · subst e
      rw [List.getElem?_set_self (List.getElem?_eq_some_iff.1 hi).1] at hj
      obtain rfl := Option.some.inj hj
      exact (hx x h1).imp (fun h2 => mem_worldFp.2 (.inr (.inr (.inr (.inl ⟨i, t, hi, h2⟩))))) id
    · rw [List.getElem?_set_ne e] at hj
      exact .inl (mem_worldFp.2 (.inr (.inr (.inr (.inl ⟨j, t', hj, h1⟩)))))
  · exact .inl (mem_worldFp.2 (.inr (.inr (.inr (.inr h1)))))
end Go.Proofs.YtdpfohgkikjeaaaGreat
/- The statements' own: recover. -/
namespace Go.Proofs.YtdpfohgkikjeaaaGreat
open Go.RowKit
set_option linter.unusedVariables false
set_option linter.unusedSimpArgs false

/-- What Recover answers, of any swap: its results, the blocks of its document, the world. -/
abbrev RecP := Value → Bool → Int → List Nat → World → Prop

theorem infoStr : (Tryz.prog.info? 9).map (fun i => (i.zero, i.size, i.bytes)) = some (some (.string ⟨#[]⟩), 1, 16) := by kernel_rfl
theorem tyTw : SliceTy Tryz.prog 67 117 1 8 := SliceTy.mk' (z := .pointer none) (by kernel_rfl) (by kernel_rfl) rfl (by decide)

theorem make_strs (n : Nat) (h : n ≤ 1000) (u : World) : (Instr.makeSlice 34 (.int .i64 (n : Int)) (.int .i64 (n : Int))).run Tryz.prog u =
    .ok (.slice (some ⟨u.heap.size, 0, none⟩) n n) (u.alloc (.cells (List.replicate n (sv [])).toArray 9)) := by
  obtain ⟨i0, hi, hz0, hz1, hz2⟩ := info_parts infoStr
  have h := run_make (P := Tryz.prog) u 34 9 i0 (.string ⟨#[]⟩) Tryz.underlying34 hi hz0 .i64 .i64 (n : Int) (n : Int) (by omega) (Int.le_refl _) (by rw [hz2]; omega) (by omega)
  rw [h]
  have e : madeCells (Value.string ⟨#[]⟩).cells ((n : Int).toNat * i0.size) = (List.replicate n (sv [])).toArray := by
    rw [hz1, Nat.mul_one, Int.toNat_natCast]
    apply Array.toList_inj.1
    rw [show (Value.string ⟨#[]⟩).cells = #[Value.string ⟨#[]⟩] from rfl, toList_madeCells_one]
  rw [e]
  simp

abbrev oneV : Value := .string ⟨#[111, 110, 101]⟩
abbrev twoV : Value := .string ⟨#[116, 119, 111]⟩

set_option maxRecDepth 100000 in
set_option maxHeartbeats 8000000 in
theorem recover_w {w : World} {b : Nat} {l : TwL} {M : Nat} {fp : List Nat} (h : WorldR w b l M fp) (hM : M ≤ 1000000000000) (g c : Nat) (secs : List Str) (hr : Row w 9 1 (.slice (some ⟨g, 0, none⟩) secs.length c) secs.length (secs.map sv)) (hg : g ∉ fp) (hn : secs.length ≤ 402) (file : Str) (nI : Int) (P : RecP)
    (hP : ∀ px same er fx w1 w2 S, P px same er fx w1 → Kept S w1 w2 → (∀ x ∈ fx, ¬ S x) → P px same er fx w2)
    (hrec : ∀ w1 v1, Kept no w w1 → Row w1 9 1 v1 secs.length (secs.map sv) → Calls Tryz.prog 20 #[v1, sv file, .int .i64 nI] w1 fun e w2 => ∃ px same er fx, e = .returned (.tuple #[px, .bool same, .int .i64 er]) ∧ P px same er fx w2 ∧ (∀ x ∈ fx, w1.heap.size ≤ x ∧ x < w2.heap.size) ∧ Kept no w1 w2) :
    Calls Tryz.prog 88 #[ptrV b, .slice (some ⟨g, 0, none⟩) secs.length c, sv file, .int .i64 nI] w fun e w' => ∃ px same er fx fp', e = .returned (.tuple #[px, .bool same, .int .i64 er, .bool true]) ∧ P px same er fx w' ∧ (∀ x ∈ fx, w.heap.size ≤ x ∧ x ∉ fp') ∧ WorldR w' b l (M + 1) fp' ∧ (∀ x ∈ fp', x ∈ fp ∨ w.heap.size ≤ x) ∧ Kept (fun x => x ∈ fp) w w' := by
  obtain ⟨ss, va, vs, lab, hW, hm, rfl⟩ := h
  have hcl := hr.cell
  obtain ⟨_, hc1, hc2, hcs⟩ := hcl
  unfold maxLen at hc2
  have hwl := lt_of_heap hW.cells
  have hgl : g < w.heap.size := hr.lt g (by simp [fpv_some])
  have hsl : (secs.map sv).length = secs.length := by simp
  generalize hN : secs.length = n at *
  have hmk := make_strs (n + 2) (by omega) w
  rw [show ((n + 2 : Nat) : Int) = (n : Int) + 2 by omega] at hmk
  obtain ⟨hn1, hsz1, hk1⟩ := new1 w (Obj.cells (Array.replicate (n + 2) (sv [])) 9)
  go_enter Tryz.func88, Tryz.ntmps88
  go_upto_region 3 with (simp only [hmk])
  generalize hG : w.heap.size = G at *
  generalize w.alloc (Obj.cells (Array.replicate (n + 2) (sv [])) 9) = w1 at hn1 hsz1 hk1 ⊢
  clear hmk
  have hn1' : w1.heap[G]? = some (.cells (List.replicate (n + 2) (sv [])).toArray 9 (0, 0)) := by rw [hn1]; simp
  obtain ⟨w2, hcp, h2⟩ := run_copy_row tyS 3 w1 G 0 (n + 2) (n + 2) _ hn1' g 0 n c (secs.map sv) (by rw [hsl]; omega) (fun j v hj => by rw [Nat.zero_add]; exact hk1.read (hcs j v hj) (fun h => h)) (by rw [hsl, List.length_replicate]; omega) (svs_one _)
  have hb2 := h2.row
  have hk2 : Kept no w w2 := hk1.step' h2.kept (fun x e hlt => by have e : x = G := e; omega)
  rw [List.take_zero, List.nil_append, hsl, Nat.zero_add, List.drop_replicate, show n + 2 - n = 2 by omega] at hb2
  clear h2 hn1 hn1'
  obtain ⟨hcG, hfG⟩ := cells_of hb2
  have hGl : G < w2.heap.size := lt_of_heap hb2
  have hcn : ∃ u, w2.cell? ⟨G, n, none⟩ = some u := ⟨sv [], by rw [hcG, List.getElem?_toArray, List.getElem?_append_right (by omega), hsl, Nat.sub_self]; rfl⟩
  have hcn1 : ∃ u, w2.cell? ⟨G, n + 1, none⟩ = some u := ⟨sv [], by rw [hcG, List.getElem?_toArray, List.getElem?_append_right (by omega), hsl, show n + 1 - n = 1 by omega]; rfl⟩
  obtain ⟨u0, hu0⟩ := hcn
  obtain ⟨u1, hu1⟩ := hcn1
  clear hcG
  go_upto_region 4 with (simp only [hcp])
  clear hcp
  go_upto_region 6 with fail
  have hb4 : ((w2.setCell ⟨G, n, none⟩ oneV).setCell ⟨G, n + 1, none⟩ twoV).heap[G]? = some (.cells (secs.map sv ++ [oneV, twoV]).toArray 9 (0, 0)) := by
    rw [heap_set_same (heap_set_same hb2)]
    congr 2
    apply Array.toList_inj.1
    simp [List.set_append, hsl, hN]
  have hk4 : Kept no w ((w2.setCell ⟨G, n, none⟩ oneV).setCell ⟨G, n + 1, none⟩ twoV) := (hk2.setNew (p := ⟨G, n, none⟩) (by show w.heap.size ≤ G; omega) _).setNew (p := ⟨G, n + 1, none⟩) (by show w.heap.size ≤ G; omega) _
  clear hu0 hu1 hfG hGl hb2 hk2 hk1 hsz1
  generalize (w2.setCell ⟨G, n, none⟩ oneV).setCell ⟨G, n + 1, none⟩ twoV = w4 at hb4 hk4 ⊢
  have hrow4 : Row w4 9 1 (.slice (some ⟨G, 0, none⟩) n (n + 2)) n (secs.map sv) := ⟨by simp [hN], .inr ⟨G, n + 2, _, rfl, Nat.zero_le _, hb4, by omega, by unfold maxLen; omega, by simp [hN], by
    rw [List.toList_toArray, Nat.mul_one, List.take_left' (by simp [hN])]⟩⟩
  go_wp2_with fail
  refine (hrec w4 _ hk4 hrow4).mono ?_
  rintro e w5 ⟨px, same, er, fx, rfl, hPx, hfx, hk5⟩
  clear hrec hrow4
  have hb5 := hk5.get hb4 (fun h => h)
  have hGfx : ∀ x ∈ fx, x ≠ G := fun x hx e => by have := (hfx x hx).1; have := lt_of_heap hb4; omega
  have hcn5 : w5.cell? ⟨G, n, none⟩ = some oneV := by rw [(cells_of hb5).1, List.getElem?_toArray, List.getElem?_append_right (by simp [hN]), List.length_map, hN, Nat.sub_self]; rfl
  have hcm5 : w5.cell? ⟨G, n + 1, none⟩ = some twoV := by rw [(cells_of hb5).1, List.getElem?_toArray, List.getElem?_append_right (by simp [hN]), List.length_map, hN, show n + 1 - n = 1 by omega]; rfl
  have hci : ∀ W, Kept no w5 W → ∀ i (hi : i < n), ∃ x, W.cell? ⟨G, i, none⟩ = some (sv x) ∧ W.cell? ⟨g, i, none⟩ = some (sv x) := fun W hW i hi => by
    have hi' : i < secs.length := by omega
    refine ⟨secs[i], hW.read ?_ (fun h => h), hW.read (hk5.read (hk4.read (hcs i _ (by simp [hi'])) (fun h => h)) (fun h => h)) (fun h => h)⟩
    rw [(cells_of hb5).1, List.getElem?_toArray, List.getElem?_append_left (by simp; omega)]
    simp [hi']
  go_upto_region 8 with fail
  clear hcn5 hcm5
  go_wp2_with fail
  go_loopw [17, 18] (fun s17 s18 wr => ∃ i : Nat, i ≤ n ∧ s17 = .bool true ∧ s18 = .int .i64 ((i : Nat) : Int) ∧ Kept no w5 wr) (fun _ s18 _ => n - (intOf s18).toNat)
  case atStart => exact ⟨0, Nat.zero_le _, rfl, rfl, Kept.refl _ _⟩
  case round =>
    obtain ⟨i, hi, rfl, rfl, hkr⟩ := hrel
    by_cases hlt : i < n
    · obtain ⟨x, hx1, hx2⟩ := hci wr hkr i hlt
      clear hci
      go_wp2_with fail
      go_quiet (fail)
      go_wp2
      exact ⟨⟨i + 1, by omega, by simp, by go_num, hkr.drewN _⟩, by simp [intOf]; omega⟩
    · have hin : i = n := by omega
      subst hin
      generalize wr = w6 at *
      have hb6 := hkr.get hb5 (fun h => h)
      have hk6 := hk5.step hkr
      clear hci
      go_wp2_with fail
      go_loopw [19] (fun s19 wx => ∃ (k : Nat) (cur : List Value), k ≤ i + 2 ∧ s19 = .int .i64 ((k : Nat) : Int) ∧ wx.heap[G]? = some (.cells cur.toArray 9 (0, 0)) ∧ cur.length = i + 2 ∧ (∀ j, j < k → cur[j]? = some (sv inkS)) ∧ Kept (fun x => x = G) w6 wx) (fun s19 _ => i + 2 - (intOf s19).toNat)
      case atStart => exact ⟨0, _, Nat.zero_le _, rfl, hb6, by simp [hN], fun j hj => by omega, Kept.refl _ _⟩
      case round =>
        obtain ⟨k, cur, hk, rfl, hbc, hcl, hink, hkx⟩ := hrel
        by_cases hlt2 : k < i + 2
        · obtain ⟨hcc, hff⟩ := cells_of hbc
          have hGx := lt_of_heap hbc
          have hck : wr.cell? ⟨G, k, none⟩ = some cur[k] := by rw [hcc, List.getElem?_toArray]; simp [hcl, hlt2]
          generalize cur[k] = u0 at hck
          have hk2i : (k : Int) < (i : Int) + 2 := by omega
          clear hcc
          go_wp2_with fail
          refine ⟨⟨k + 1, cur.set k (sv inkS), by omega, by go_num, by rw [heap_set_same hbc]; simp [inkS], by simp [hcl], fun j hj => ?_, hkx.step Kept.cell1⟩, by simp [intOf]; omega⟩
          by_cases e : k = j
          · subst e
            rw [List.getElem?_set_self (by omega)]
          · rw [List.getElem?_set_ne e]
            exact hink j (by omega)
        · obtain rfl : k = i + 2 := by omega
          have hkW : Kept no w wr := (hk4.step hk6).step' hkx (fun x e hlt => by have e : x = G := e; omega)
          have hI : Ink wr (.slice (some ⟨G, 0, none⟩) (i + 2) (i + 2)) (i + 2) G := ⟨⟨i + 2, rfl, Nat.le_refl _, by omega⟩, by omega, lt_of_heap hbc, fun j hj => by rw [(cells_of hbc).1, List.getElem?_toArray]; exact hink j hj⟩
          have hW9 := hW.kept hkW (fun _ _ h => h)
          have hGn : G ∉ worldFp b l ss va vs := fun hx => by have := hW.lt G hx; omega
          have hPx9 := hP _ _ _ _ _ _ _ hPx ((hkr.mono (T := fun x => x = G) (fun _ h _ => h.elim)).step hkx) (fun x hx e => hGfx x hx e)
          have hs1 : w.heap.size ≤ w4.heap.size := hk4.size
          have hs2 : w5.heap.size ≤ wr.heap.size := Nat.le_trans hkr.size hkx.size
          have hs3 : w.heap.size ≤ wr.heap.size := hkW.size
          obtain ⟨hc9, hf9⟩ := cells_of hW9.cells
          have hb9l := lt_of_heap hW9.cells
          clear hbc hink hkx hcl
          go_wp2_with (at_builtin; apply hold)
          delta Hid
          refine wpList_push rfl _ _ 50 rfl tyRow vs ss.length (ss.map fun s => s.1) rfl (hW9.swaps.alloc _) _ 1 (.slice (some ⟨G, 0, none⟩) (i + 2) (i + 2)) rfl (by rw [(cells_of heap_alloc_same).1]; rfl) rfl (by decide) (by omega) (fun vs' w10 hr10 hg10 => ?_)
          obtain ⟨hn9, hsz9, hk9⟩ := new1 wr (Obj.cells #[.slice (some ⟨G, 0, none⟩) (i + 2) (i + 2)] 34)
          have hW10 := hW9.kept hk9 (fun _ _ h => h)
          obtain ⟨hb10, ⟨lab', hW11⟩, hk11⟩ := hW10.pushS (hI.kept hk9 (fun h => h)) hGn hr10 hg10
          have hlt := hW.lt
          have hP11 := hP _ _ _ _ _ _ _ hPx9 ((hk9.mono (T := fun x => x ∈ worldFp b l ss va vs) (fun _ h _ => h.elim)).step hk11) (fun x hx hx2 => by have := (hfx x hx).1; have := hlt x hx2; omega)
          have hkF : Kept (fun x => x ∈ worldFp b l ss va vs) w (w10.setCell ⟨b, 1, none⟩ vs') := ((hkW.step hk9).mono (fun _ h _ => h.elim)).step hk11
          obtain ⟨hc10, hf10⟩ := cells_of hb10
          have hb10l := lt_of_heap hb10
          obtain ⟨p11, c11, hv11⟩ := hr10.slice
          clear hr10 hW10 hk11 hk9 hI hW9 hc9 hf9 hPx9
          have hsub : ∀ x ∈ fpv vs', x ∈ fpv vs ∨ wr.heap.size ≤ x := fun x hx => by
            rcases hg10.2 x hx with h1 | h1
            · exact .inl h1
            · exact .inr (by omega)
          clear hg10
          generalize ss.length + 1 = m11 at hv11
          subst hv11
          go_wp2_with fail
          refine bodyPost_ret (v := .tuple #[px, .bool same, .int .i64 er, .bool true]) (by simp [results, Tryz.results88, go_sem]) rfl ⟨px, same, er, fx, _, rfl, hP11, fun x hx => ⟨by have := (hfx x hx).1; omega, fun hx2 => ?_⟩, ⟨_, _, _, _, hW11, by rw [List.length_append]; exact Nat.succ_le_succ hm, rfl⟩, fun x hx => ?_, hkF⟩
          · have h1 := hfx x hx
            rcases mem_worldFp.1 hx2 with h2 | h2 | h2 | ⟨j, t, hj, h2⟩ | ⟨j, s, hj, h2⟩
            · have := hlt x (mem_worldFp.2 (.inl h2)); omega
            · have := hlt x (mem_worldFp.2 (.inr (.inl h2))); omega
            · rcases hsub x h2 with h3 | h3
              · have := hlt x (mem_worldFp.2 (.inr (.inr (.inl h3)))); omega
              · omega
            · have := hlt x (mem_worldFp.2 (.inr (.inr (.inr (.inl ⟨j, t, hj, h2⟩))))); omega
            · rcases getElem?_snoc hj with hj | ⟨_, rfl⟩
              · have := hlt x (mem_worldFp.2 (.inr (.inr (.inr (.inr ⟨j, s, hj, h2⟩))))); omega
              · exact hGfx x hx h2
          · rcases mem_worldFp.1 hx with h2 | h2 | h2 | ⟨j, t, hj, h2⟩ | ⟨j, s, hj, h2⟩
            · exact .inl (mem_worldFp.2 (.inl h2))
            · exact .inl (mem_worldFp.2 (.inr (.inl h2)))
            · rcases hsub x h2 with h3 | h3
              · exact .inl (mem_worldFp.2 (.inr (.inr (.inl h3))))
              · exact .inr (by omega)
            · exact .inl (mem_worldFp.2 (.inr (.inr (.inr (.inl ⟨j, t, hj, h2⟩)))))
            · rcases getElem?_snoc hj with hj | ⟨_, rfl⟩
              · exact .inl (mem_worldFp.2 (.inr (.inr (.inr (.inr ⟨j, s, hj, h2⟩)))))
              · exact .inr (by have h2 : x = G := h2; omega)
end Go.Proofs.YtdpfohgkikjeaaaGreat
/- The statements' own: act. -/
namespace Go.Proofs.YtdpfohgkikjeaaaGreat
open Go.RowKit
set_option linter.unusedVariables false
set_option linter.unusedSimpArgs false

section
variable {w : World} {b : Nat} {d : DocS} {r : RefS} {k : DiskS} {n bx br bd : Nat} {fx fr fd : List Nat}

theorem TwinM.reads (h : TwinM w b d r k n bx br bd fx fr fd) : (∀ j, w.cell? ⟨b, j, none⟩ = (twinCells bx br bd n)[j]?) ∧ (∀ j, w.frozen? ⟨b, j, none⟩ = false) ∧ b < w.heap.size ∧ br < w.heap.size ∧ w.cell? ⟨br, 6, none⟩ = some (.int .i64 (r.job : Int)) := by
  obtain ⟨h1, h2⟩ := cells_of h.cells
  obtain ⟨vl, va, vq, vs, fa, fq, hr, _⟩ := h.ref
  exact ⟨h1, h2, lt_of_heap h.cells, lt_of_heap hr.cells, by rw [(cells_of hr.cells).1]; rfl⟩

set_option maxRecDepth 100000 in
set_option maxHeartbeats 2000000 in
theorem act_t_no (h : TwinM w b d r k n bx br bd fx fr fd) (hj : r.job = 0) : Calls Tryz.prog 70 #[ptrV b, .agg #[.int .i64 0, .int .i64 0, .string ⟨#[]⟩], .bool false] w fun e w' => e = .returned (.bool true) ∧ Kept no w w' := by
  obtain ⟨hc, hf, hbl, hrl, hcj⟩ := h.reads
  have hj' : (r.job : Int) = 0 := by omega
  clear hj
  go_enter Tryz.func70, Tryz.ntmps70
  go_wp2
  go_ret
  exact ⟨rfl, ((Kept.refl _ _).alloc _).alloc _⟩

set_option maxRecDepth 100000 in
set_option maxHeartbeats 2000000 in
theorem act_t_sync (h : TwinM w b d r k n bx br bd fx fr fd) (hj : r.job = 1) (a : PAct) (hr : RightA a) (hk : a.kind = 1 ∨ a.kind = 2) : Calls Tryz.prog 70 #[ptrV b, a.val, .bool true] w fun e w' => e = .returned (.bool true) ∧ Kept no w w' := by
  obtain ⟨hc, hf, hbl, hrl, hcj⟩ := h.reads
  have hj' : (r.job : Int) = 1 := by omega
  have hright := fun w => right_any a hr w
  obtain ⟨ak, aa, ad⟩ := a
  simp only at hk
  clear hj hr
  have HK : Hid ((ak : Int) = 1 ∨ (ak : Int) = 2) := by show _ ∨ _; omega
  clear hk
  go_enter Tryz.func70, Tryz.ntmps70
  go_wp2_with fail
  obtain ⟨hn1, hsz1, hk1⟩ := new2 w (Obj.cells #[.int .i64 (ak : Int), .int .i64 (aa : Int), .string ⟨ad.toArray⟩] actT) (Obj.cells #[.int .i64 0, .int .i64 0, .string ⟨#[]⟩] actT)
  obtain ⟨hsz1, hk1⟩ := hk1
  generalize hB : w.heap.size = B at hn1 hsz1 ⊢
  generalize (w.alloc (Obj.cells #[.int .i64 (ak : Int), .int .i64 (aa : Int), .string ⟨ad.toArray⟩] actT)).alloc (Obj.cells #[.int .i64 0, .int .i64 0, .string ⟨#[]⟩] actT) = w1 at hn1 hsz1 hk1 ⊢
  refine (hright _).mono ?_
  rintro e w2 ⟨rfl, hk2⟩
  obtain ⟨hc2, hf2⟩ := cells_of (hk2.get hn1 (fun h => h))
  clear hright hc hf hcj
  rcases HK.out with hkk | hkk
  · go_wp2
    go_ret
    exact ⟨rfl, hk1.step hk2⟩
  · go_wp2
    go_ret
    exact ⟨rfl, hk1.step hk2⟩

set_option maxRecDepth 100000 in
set_option maxHeartbeats 4000000 in
theorem act_t_save (h : TwinM w b d r k n bx br bd fx fr fd) (hj : r.job = 2) (a : PAct) (A : List PAct) (ha : r.acts = a :: A) (hfew : r.acts.length ≤ 1000) : Calls Tryz.prog 70 #[ptrV b, a.val, .bool true] w fun e w' => e = .returned (.bool true) ∧ Kept no w w' := by
  obtain ⟨hc, hf, hbl, hrl, hcj⟩ := h.reads
  have hj' : (r.job : Int) = 2 := by omega
  obtain ⟨vl, va, vq, vs, fa, fq, hr, _⟩ := h.ref
  have hca : w.cell? ⟨br, 7, none⟩ = some va := by rw [(cells_of hr.cells).1]; rfl
  have hS := hr.acts
  rw [ha] at hS
  rw [ha, List.length_cons] at hfew
  rcases hS with ⟨_, h0, _⟩ | ⟨g, o, c, rfl, h1, h2, _, hgl, hcl⟩
  · simp at h0
  have c0 : w.cell? ⟨g, o, none⟩ = some (.int .i64 (a.kind : Int)) := by simpa [actsCells, actCells] using hcl 0 (.int .i64 (a.kind : Int)) (by simp [actsCells, actCells])
  have c1 : w.cell? ⟨g, o + 1, none⟩ = some (.int .i64 (a.at_ : Int)) := hcl 1 _ (by simp [actsCells, actCells])
  have c2 : w.cell? ⟨g, o + 2, none⟩ = some (.string ⟨a.data.toArray⟩) := hcl 2 _ (by simp [actsCells, actCells])
  rw [List.length_cons] at h1 hca
  obtain ⟨ak, aa, ad⟩ := a
  simp only at c0 c1 c2
  clear hj hcl
  generalize A.length = m at *
  have hm0 : ((m : Int) + 1 > 0) := by omega
  go_enter Tryz.func70, Tryz.ntmps70
  go_wp2_with fail
  obtain ⟨hn1, hsz1, hk1⟩ := new2 w (Obj.cells #[.int .i64 (ak : Int), .int .i64 (aa : Int), .string ⟨ad.toArray⟩] actT) (Obj.cells #[.int .i64 0, .int .i64 0, .string ⟨#[]⟩] actT)
  obtain ⟨hsz1, hk1⟩ := hk1
  generalize hB : w.heap.size = B at hn1 hsz1 ⊢
  generalize (w.alloc (Obj.cells #[.int .i64 (ak : Int), .int .i64 (aa : Int), .string ⟨ad.toArray⟩] actT)).alloc (Obj.cells #[.int .i64 0, .int .i64 0, .string ⟨#[]⟩] actT) = w1 at hn1 hsz1 hk1 ⊢
  have hca1 := hk1.read hca (fun h => h)
  have c01 := hk1.read c0 (fun h => h)
  have c11 := hk1.read c1 (fun h => h)
  have c21 := hk1.read c2 (fun h => h)
  have hb1 := hk1.get h.cells (fun h => h)
  obtain ⟨hcb1, hfb1⟩ := cells_of hb1
  obtain ⟨hcB, hfB⟩ := cells_of hn1
  clear hca c0 c1 c2 hc hf hcj
  go_quiet (fail)
  go_wp2
  go_ret
  exact ⟨by simp, hk1.drewN _⟩
end
end Go.Proofs.YtdpfohgkikjeaaaGreat
/- Recover, of a swap in which nothing is found. -/
namespace Go.Proofs.YtdpfohgkikjeaaaGreat
open Go.RowKit
set_option linter.unusedVariables false
set_option linter.unusedSimpArgs false

/-- Recover, of a swap in which nothing is found. -/
theorem recover_no {w : World} {v : Value} {secs : List Str} (hr : Row w 9 1 v 400 (secs.map sv)) (hl : secs.length = 400) (h64 : ∀ s ∈ secs, s.length = 64) (hno : ∀ h hd t, ¬ Finds (imgOf secs) h hd t) (file : Str) (nI : Int) (h1 : 1 ≤ nI) (h2 : nI ≤ 20) :
    Calls Tryz.prog 20 #[v, sv file, .int .i64 nI] w fun e w' => e = .returned (.tuple #[.pointer none, .bool false, .int .i64 7]) ∧ Kept no w w' := by
  have hlt := hr.lt
  rcases hr.shape with ⟨_, h0, _⟩ | ⟨g, c, rfl, hc1, hc2⟩
  · cases h0
  · have hcell := hr.cell
    have hs : StrsAt w g 0 secs := fun j s hs => by
      rw [Nat.zero_add]
      exact hcell.2.2.2 j (sv s) (by rw [List.getElem?_map, hs]; rfl)
    have hr' : Row w 9 1 (.slice (some ⟨g, 0, none⟩) 400 c) secs.length (secs.map sv) := by rw [hl]; exact hr
    unfold maxLen at hc2
    refine recover_any g 0 c secs w hr' hl h64 file nI h1 h2 _ ?_
    refine (readBack_none g 0 c secs w hs hl h64 hc1 (by omega) (hlt g (by simp [fpv_some])) hno file nI).mono ?_
    rintro e w' ⟨rfl, hk⟩
    exact ⟨_, _, _, rfl, rfl, hk⟩
end Go.Proofs.YtdpfohgkikjeaaaGreat

/- Part 22 of the proof: see its parts. -/
import Derived.ArgAppend
import Derived.Test.YtdpfohgkikjeaaaGreatV3
import Derived.Test.YtdpfohgkikjeaaaGreatV9
import Derived.Test.YtdpfohgkikjeaaaGreatV17
import Derived.Test.YtdpfohgkikjeaaaGreatV21
/- Texts in a row, from some place on; what an append makes of them. -/
namespace Go.Proofs.YtdpfohgkikjeaaaGreat
open Go.RowKit
set_option linter.unusedVariables false
set_option linter.unusedSimpArgs false

abbrev strT : TypeId := 9

/-- Texts in a row that is owned, from some place on. -/
def TextsAt (w : World) (v : Value) (l : List Str) (fp : List Nat) : Prop :=
  (v = .slice none 0 0 ∧ l = [] ∧ fp = []) ∨ ∃ (g o c : Nat) (cur : Array Value), v = .slice (some ⟨g, o, none⟩) l.length c ∧ fp = [g] ∧ w.heap[g]? = some (.cells cur strT (0, 0)) ∧ l.length ≤ c ∧ c ≤ maxLen ∧ o + c ≤ cur.size ∧ ∀ (j : Nat) (s : Str), l[j]? = some s → cur[o + j]? = some (sv s)

theorem TextsAt.kept {S : Blocks} {w w' : World} {v l fp} (h : TextsAt w v l fp) (k : Kept S w w') (hn : ∀ x ∈ fp, ¬ S x) : TextsAt w' v l fp := by
  rcases h with h | ⟨g, o, c, cur, hv, hf, hg, hr⟩
  · exact .inl h
  · exact .inr ⟨g, o, c, cur, hv, hf, k.get hg (hn g (by simp [hf])), hr⟩

theorem TextsAt.lt {w : World} {v l fp} (h : TextsAt w v l fp) : ∀ x ∈ fp, x < w.heap.size := fun x hx => by
  rcases h with ⟨_, _, h⟩ | ⟨g, o, c, cur, hv, hf, hg, hr⟩
  · rw [h] at hx; cases hx
  · rw [hf] at hx; simp at hx; rw [hx]; exact lt_of_heap hg

theorem TextsAt.slice {w : World} {v l fp} (h : TextsAt w v l fp) : ∃ pv c, v = .slice pv l.length c ∧ l.length ≤ c ∧ c ≤ 9223372036854775807 ∧ ∀ k (hk : k < l.length), ∃ b o, pv = some ⟨b, o, none⟩ ∧ w.cell? ⟨b, o + k, none⟩ = some (sv l[k]) := by
  rcases h with ⟨rfl, rfl, _⟩ | ⟨g, o, c, cur, rfl, hf, hg, h1, h2, h3, h4⟩
  · exact ⟨none, 0, rfl, Nat.zero_le _, by decide, fun k hk => by simp at hk⟩
  · refine ⟨some ⟨g, o, none⟩, c, rfl, h1, by unfold maxLen at h2; omega, fun k hk => ⟨g, o, rfl, ?_⟩⟩
    rw [cells_of' hg]
    exact h4 k l[k] (by simp [hk])

theorem TextsAt.of_row {w : World} {v : Value} {l : List Str} (h : Row w strT 1 v l.length (l.map sv)) : TextsAt w v l (fpv v) := by
  rcases h.2 with ⟨rfl, h0⟩ | ⟨g, cap, cur, rfl, hg0, hh, h1, h2, h3, h4⟩
  · exact .inl ⟨rfl, List.eq_nil_of_length_eq_zero h0, fpv_nil⟩
  · refine .inr ⟨g, 0, cap, cur, rfl, fpv_some, hh, h1, h2, by omega, fun j s hs => ?_⟩
    have hs' : (l.map sv)[j]? = some (sv s) := by rw [List.getElem?_map, hs]; rfl
    rw [← h4, List.getElem?_take] at hs'
    split at hs'
    · simpa using hs'
    · cases hs'

/-- The last one alone. -/
theorem TextsAt.last {w : World} {pv : Option Addr} {n c : Nat} {l : List Str} {fp} (h : TextsAt w (.slice pv n c) l fp) (hne : l ≠ []) : ∃ g o, pv = some ⟨g, o, none⟩ ∧ n = l.length ∧ TextsAt w (.slice (some ⟨g, o + (n - 1), none⟩) 1 (c - (n - 1))) (lastOne l) fp := by
  have hl : 0 < l.length := List.length_pos_iff.2 hne
  rcases h with ⟨_, rfl, _⟩ | ⟨g, o, c', cur, hv, hf, hg, h1, h2, h3, h4⟩
  · exact absurd rfl hne
  · simp only [Value.slice.injEq] at hv
    obtain ⟨rfl, rfl, rfl⟩ := hv
    have e : (lastOne l).length = 1 := by simp [lastOne]; omega
    refine ⟨g, o, rfl, rfl, .inr ⟨g, o + (l.length - 1), c - (l.length - 1), cur, by rw [e], hf, hg, by omega, by omega, by omega, fun j s hs => ?_⟩⟩
    have hj : j < 1 := by have := (List.getElem?_eq_some_iff.1 hs).1; omega
    have := h4 (l.length - 1 + j) s (by unfold lastOne at hs; rw [List.getElem?_drop] at hs; exact hs)
    rw [← Nat.add_assoc] at this
    exact this

theorem run_push_text (ty : TypeId) (w : World) (v : Value) (l : List Str) (fp : List Nat) (h : TextsAt w v l fp) (g c : Nat) (s : Str) (hu : w.cell? ⟨g, 0, none⟩ = some (sv s)) (hn : l.length ≤ 1099511627776) :
    ∃ v' w' fp', (Builtin.append_ #[34, 34] ty #[v, .slice (some ⟨g, 0, none⟩) 1 c]).run Tryz.prog w = .ok v' w' ∧ TextsAt w' v' (l ++ [s]) fp' ∧ Kept (fun x => x ∈ fp) w w' ∧ (∀ x ∈ fp', x ∈ fp ∨ w.heap.size ≤ x) ∧ ∃ pv cv, v' = .slice pv (l.length + 1) cv := by
  have hcell : ∀ j u', [sv s][j]? = some u' → w.cell? ⟨g, 0 + j, none⟩ = some u' := fun j u' hj => by
    match j, hj with
    | 0, hj => simp at hj; subst hj; simpa using hu
  have hone : ∀ u' ∈ [sv s], u'.oneCell' = true := fun u' hu' => by simp at hu'; subst hu'; rfl
  have hap : (l ++ [s]).map sv = l.map sv ++ [sv s] := by simp
  rcases h with ⟨rfl, rfl, rfl⟩ | ⟨G, o, C, cur, rfl, rfl, hg, h1, h2, h3, h4⟩
  · obtain ⟨v', w', hr, h2, h3, _⟩ := run_app tyStr ty w (.slice none 0 0) 0 [] ⟨rfl, .inl ⟨rfl, rfl⟩⟩ g 0 1 c [sv s] rfl hcell hone (by decide) (by decide)
    refine ⟨v', w', fpv v', hr, TextsAt.of_row (by simpa using h2), h3.1.mono (fun i hi _ => by simp [fpv_nil] at hi), fun x hx => ?_, ?_⟩
    · rcases h3.2 x hx with hx | hx
      · simp [fpv_nil] at hx
      · exact .inr hx
    · obtain ⟨pv, cv, e⟩ := h2.slice
      exact ⟨pv, cv, e⟩
  · obtain ⟨i, z, hi, hz, hs, hb, hzs⟩ := tyStr.info
    unfold maxLen at h2
    by_cases hroom : l.length + 1 ≤ C
    · obtain ⟨hc, hf⟩ := cells_of hg
      have hrun := run_append_room_cells (P := Tryz.prog) w 34 ty strT i tyStr.under hi G o l.length C ⟨g, 0, none⟩ 1 c [sv s] (by rw [hs]; rfl) (fun j u hj => by rw [add_at]; exact hcell j u hj) hone hroom
        (fun j hj => by
          rw [hc, hs]
          have : o + l.length * 1 + j < cur.size := by simp at hj; omega
          rw [Array.getElem?_eq_getElem this]; rfl) (fun j hj => hf _)
      rw [hs, Nat.mul_one] at hrun
      refine ⟨_, _, [G], hrun, .inr ⟨G, o, C, cur.setIfInBounds (o + l.length) (sv s), by simp, rfl, ?_, by simpa using hroom, by unfold maxLen; omega, by simpa using h3, fun j x hx => ?_⟩, ?_, fun x hx => .inl hx, ⟨_, _, rfl⟩⟩
      · show (w.setCell ⟨G, o + l.length, none⟩ (sv s)).heap[G]? = _
        exact heap_set_same hg
      · rw [Array.getElem?_setIfInBounds]
        by_cases hj : j < l.length
        · rw [List.getElem?_append_left hj] at hx
          rw [if_neg (by omega)]
          exact h4 j x hx
        · have hj2 : j = l.length := by
            have := (List.getElem?_eq_some_iff.1 hx).1
            simp at this; omega
          subst hj2
          rw [List.getElem?_append_right (Nat.le_refl _)] at hx
          simp at hx
          subst hx
          rw [if_pos rfl, if_pos (by omega)]
      · show Kept _ w (w.setCell ⟨G, o + l.length, none⟩ (sv s))
        exact (Kept.cell1 (b := G)).mono (fun i e _ => by rw [e]; simp)
    · have hcl : ∀ (j : Nat) (u : Value), (l.map sv)[j]? = some u → w.cell? (Addr.add ⟨G, o, none⟩ j) = some u := fun j u hj => by
        rw [add_at, cells_of' hg]
        simp only [List.getElem?_map, Option.map_eq_some_iff] at hj
        obtain ⟨x, hx, rfl⟩ := hj
        exact h4 j x hx
      obtain ⟨v', w', hr, hown, hgr⟩ := run_append_arg_grows (P := Tryz.prog) w 34 ty strT i z 1 16 tyStr.under hi hz hs hb hzs (by decide) ⟨G, o, none⟩ l.length C (l.map sv) (by simp) hcl ⟨g, 0, none⟩ 1 c [sv s] rfl (fun j u hj => by rw [add_at]; exact hcell j u hj) (by omega) (by unfold maxLen; omega) (by omega)
      have hrow : Row w' strT 1 v' (l ++ [s]).length ((l ++ [s]).map sv) := by
        rw [hap, List.length_append]
        exact ⟨hown.1, hown.2.imp id (fun ⟨g, cap, cur, hv, _, hr⟩ => ⟨g, cap, cur, hv, Nat.zero_le _, hr⟩)⟩
      refine ⟨v', w', fpv v', hr, TextsAt.of_row hrow, (Kept.of_grown hgr (fun k hk _ => by cases hk)), fun x hx => ?_, ?_⟩
      · rcases hown.2 with ⟨e, _⟩ | ⟨g', cap, cur', hv, hge, _⟩
        · rw [e, fpv_nil] at hx; cases hx
        · rw [hv, fpv_some] at hx; simp at hx; exact .inr (hx ▸ hge)
      · obtain ⟨pv, cv, e⟩ := hrow.slice
        exact ⟨pv, cv, by rw [e]; simp⟩

theorem wp_push_text {w : World} {o : Oper} {a : Act} {Q : Exit → Act → World → Prop} {K : Act → World → Prop} (s x : Operand) (ho : o.op = .call { callee := .builtin .append, args := #[s, x], argTypes := #[34, 34] })
    (v : Value) (l : List Str) (fp : List Nat) (hs : a.eval s = v) (h : TextsAt w v l fp) (g c : Nat) (u : Str) (hx : a.eval x = .slice (some ⟨g, 0, none⟩) 1 c) (hu : w.cell? ⟨g, 0, none⟩ = some (sv u)) (hn : l.length ≤ 1099511627776)
    (k : ∀ v' w' fp', TextsAt w' v' (l ++ [u]) fp' → Kept (fun x => x ∈ fp) w w' → (∀ x ∈ fp', x ∈ fp ∨ w.heap.size ≤ x) → (∃ pv cv, v' = .slice pv (l.length + 1) cv) → K (a.put o.dst v') w') : o.wp Tryz.prog a w K Q := by
  obtain ⟨v', w', fp', hr, h1, h2, h3, h4⟩ := run_push_text o.type w v l fp h g c u hu hn
  unfold Oper.wp execOp
  simp only [ho, resolve, invoke, builtin, Sem.run_bind, Sem.run_pure, Result.andThen_ok, List.map_toArray, List.map_cons, List.map_nil, hs, hx, hr]
  exact k v' w' fp' h1 h2 h3 h4
end Go.Proofs.YtdpfohgkikjeaaaGreat
/- A desk in memory. -/
namespace Go.Proofs.YtdpfohgkikjeaaaGreat
open Go.RowKit
set_option linter.unusedVariables false
set_option linter.unusedSimpArgs false

abbrev deskT : TypeId := 36

/-- What the cells of a desk tell beside its parts. -/
structure Nums where
  now : Str
  every : Nat
  since : Nat
  most : Nat

abbrev deskCells (bx bd : Nat) (vt vf : Value) (n : Nums) : Array Value := #[.pointer (some ⟨bx, 0, none⟩), .pointer (some ⟨bd, 0, none⟩), vt, vf, sv n.now, .int .i64 (n.every : Int), .int .i64 (n.since : Int), .int .i64 (n.most : Int)]

/-- Lists of blocks that have nothing in common. -/
abbrev Apart (l : List (List Nat)) : Prop := l.Pairwise fun a b => ∀ x ∈ a, x ∉ b

structure DeskM (w : World) (b : Nat) (d : DocS) (k : DiskS) (texts files : List Str) (n : Nums) (bx bd : Nat) (vt vf : Value) (fx fd ft ff : List Nat) : Prop where
  cells : w.heap[b]? = some (.cells (deskCells bx bd vt vf n) deskT (0, 0))
  doc : DocR w bx d fx
  disk : DiskR w bd k fd
  texts : TextsAt w vt texts ft
  files : TextsAt w vf files ff
  apart : Apart [[b], fx, fd, ft, ff]

abbrev deskFp (b : Nat) (fx fd ft ff : List Nat) : List Nat := b :: (fx ++ (fd ++ (ft ++ ff)))

theorem DeskM.kept {S : Blocks} {w w' : World} {b d k texts files n bx bd vt vf fx fd ft ff} (h : DeskM w b d k texts files n bx bd vt vf fx fd ft ff) (hk : Kept S w w') (hn : ∀ x ∈ deskFp b fx fd ft ff, ¬ S x) : DeskM w' b d k texts files n bx bd vt vf fx fd ft ff :=
  ⟨hk.get h.cells (hn b (by simp)), h.doc.kept hk (fun x hx => hn x (by simp [hx])), h.disk.kept hk (fun x hx => hn x (by simp [hx])), h.texts.kept hk (fun x hx => hn x (by simp [hx])), h.files.kept hk (fun x hx => hn x (by simp [hx])), h.apart⟩

theorem DeskM.lt {w : World} {b d k texts files n bx bd vt vf fx fd ft ff} (h : DeskM w b d k texts files n bx bd vt vf fx fd ft ff) : ∀ x ∈ deskFp b fx fd ft ff, x < w.heap.size := fun x hx => by
  simp only [deskFp, List.mem_cons, List.mem_append] at hx
  rcases hx with rfl | hx | hx | hx | hx
  · exact lt_of_heap h.cells
  · exact h.doc.lt x hx
  · exact h.disk.lt x hx
  · exact h.texts.lt x hx
  · exact h.files.lt x hx

/-- Blocks that are of the old ones or new have nothing in common with what was apart from the old ones. -/
theorem apart_new {w : World} {fp fp' l : List Nat} (h : ∀ x ∈ fp', x ∈ fp ∨ w.heap.size ≤ x) (hl : ∀ x ∈ l, x < w.heap.size) (ha : ∀ x ∈ fp, x ∉ l) : ∀ x ∈ fp', x ∉ l := fun x hx hx2 => by
  rcases h x hx with h | h
  · exact ha x h hx2
  · have := hl x hx2; omega

section
variable {w w' : World} {b : Nat} {d d' : DocS} {k k' : DiskS} {texts files texts' : List Str} {n n' : Nums} {bx bd : Nat} {vt vf vt' : Value} {fx fd ft ff ft' : List Nat}

theorem DeskM.ap (h : DeskM w b d k texts files n bx bd vt vf fx fd ft ff) : (b ∉ fx ∧ b ∉ fd ∧ b ∉ ft ∧ b ∉ ff) ∧ ((∀ x ∈ fx, x ∉ fd) ∧ (∀ x ∈ fx, x ∉ ft) ∧ (∀ x ∈ fx, x ∉ ff)) ∧ ((∀ x ∈ fd, x ∉ ft) ∧ (∀ x ∈ fd, x ∉ ff)) ∧ (∀ x ∈ ft, x ∉ ff) := by
  have := h.apart
  simpa [Apart, List.pairwise_cons] using this

theorem apart_mk (h1 : b ∉ fx ∧ b ∉ fd ∧ b ∉ ft ∧ b ∉ ff) (h2 : (∀ x ∈ fx, x ∉ fd) ∧ (∀ x ∈ fx, x ∉ ft) ∧ (∀ x ∈ fx, x ∉ ff)) (h3 : (∀ x ∈ fd, x ∉ ft) ∧ (∀ x ∈ fd, x ∉ ff)) (h4 : ∀ x ∈ ft, x ∉ ff) : Apart [[b], fx, fd, ft, ff] := by
  simpa [Apart, List.pairwise_cons] using And.intro h1 ⟨h2, h3, h4⟩

/-- A call of the document. -/
theorem DeskM.doc_to (h : DeskM w b d k texts files n bx bd vt vf fx fd ft ff) (t : DocTo w w' bx fx d') : ∃ fx', DeskM w' b d' k texts files n bx bd vt vf fx' fd ft ff ∧ (∀ x ∈ fx', x ∈ fx ∨ w.heap.size ≤ x) := by
  obtain ⟨⟨fx', hd, hx⟩, hk⟩ := t
  obtain ⟨⟨a1, a2, a3, a4⟩, ⟨b1, b2, b3⟩, c1, c2⟩ := h.ap
  have hlt := h.lt
  have hbl : b < w.heap.size := hlt b (by simp)
  refine ⟨fx', ⟨hk.get h.cells a1, hd, h.disk.kept hk (fun x hx hx2 => b1 x hx2 hx), h.texts.kept hk (fun x hx hx2 => b2 x hx2 hx), h.files.kept hk (fun x hx hx2 => b3 x hx2 hx), apart_mk ⟨fun hb => ?_, a2, a3, a4⟩ ⟨?_, ?_, ?_⟩ c1 c2⟩, hx⟩
  · rcases hx b hb with hb | hb
    · exact a1 hb
    · omega
  · exact apart_new hx h.disk.lt b1
  · exact apart_new hx h.texts.lt b2
  · exact apart_new hx h.files.lt b3

/-- A call of the disk. -/
theorem DeskM.disk_to (h : DeskM w b d k texts files n bx bd vt vf fx fd ft ff) (t : DiskTo w w' bd fd k') : ∃ fd', DeskM w' b d k' texts files n bx bd vt vf fx fd' ft ff ∧ (∀ x ∈ fd', x ∈ fd ∨ w.heap.size ≤ x) := by
  obtain ⟨⟨fd', hd, hx⟩, hk⟩ := t
  obtain ⟨⟨a1, a2, a3, a4⟩, ⟨b1, b2, b3⟩, ⟨c1, c2⟩, c3⟩ := h.ap
  have hlt := h.lt
  have hbl : b < w.heap.size := hlt b (by simp)
  refine ⟨fd', ⟨hk.get h.cells a2, h.doc.kept hk (fun x hx hx2 => b1 x hx hx2), hd, h.texts.kept hk (fun x hx hx2 => c1 x hx2 hx), h.files.kept hk (fun x hx hx2 => c2 x hx2 hx), apart_mk ⟨a1, fun hb => ?_, a3, a4⟩ ⟨fun x hx1 hx2 => ?_, b2, b3⟩ ⟨?_, ?_⟩ c3⟩, hx⟩
  · rcases hx b hb with hb | hb
    · exact a2 hb
    · omega
  · rcases hx x hx2 with h2 | h2
    · exact b1 x hx1 h2
    · have := h.doc.lt x hx1; omega
  · exact apart_new hx h.texts.lt c1
  · exact apart_new hx h.files.lt c2

/-- The cells of the desk are turned. -/
theorem DeskM.store (h : DeskM w b d k texts files n bx bd vt vf fx fd ft ff) (hk : Kept (fun x => x = b) w w') (hc : w'.heap[b]? = some (.cells (deskCells bx bd vt' vf n') deskT (0, 0))) (ht : TextsAt w vt' texts' ft') (ha : (b ∉ ft') ∧ (∀ x ∈ fx, x ∉ ft') ∧ (∀ x ∈ fd, x ∉ ft') ∧ (∀ x ∈ ft', x ∉ ff)) : DeskM w' b d k texts' files n' bx bd vt' vf fx fd ft' ff := by
  obtain ⟨⟨a1, a2, a3, a4⟩, ⟨b1, b2, b3⟩, ⟨c1, c2⟩, c3⟩ := h.ap
  refine ⟨hc, h.doc.kept hk (fun x hx e => a1 (e ▸ hx)), h.disk.kept hk (fun x hx e => a2 (e ▸ hx)), ht.kept hk (fun x hx e => ha.1 (e ▸ hx)), h.files.kept hk (fun x hx e => a4 (e ▸ hx)), apart_mk ⟨a1, a2, ha.1, a4⟩ ⟨b1, ha.2.1, b3⟩ ⟨ha.2.2.1, c2⟩ ha.2.2.2⟩

theorem DeskM.store0 (h : DeskM w b d k texts files n bx bd vt vf fx fd ft ff) (hk : Kept (fun x => x = b) w w') (hc : w'.heap[b]? = some (.cells (deskCells bx bd vt vf n') deskT (0, 0))) : DeskM w' b d k texts files n' bx bd vt vf fx fd ft ff := by
  obtain ⟨⟨a1, a2, a3, a4⟩, ⟨b1, b2, b3⟩, ⟨c1, c2⟩, c3⟩ := h.ap
  exact h.store hk hc h.texts ⟨a3, b2, c1, c3⟩

/-- The files' row is turned. -/
theorem DeskM.storeF {vf' : Value} {files' : List Str} {ff' : List Nat} (h : DeskM w b d k texts files n bx bd vt vf fx fd ft ff) (hk : Kept (fun x => x = b) w w') (hc : w'.heap[b]? = some (.cells (deskCells bx bd vt vf' n') deskT (0, 0))) (ht : TextsAt w vf' files' ff') (ha : (b ∉ ff') ∧ (∀ x ∈ fx, x ∉ ff') ∧ (∀ x ∈ fd, x ∉ ff') ∧ (∀ x ∈ ft, x ∉ ff')) : DeskM w' b d k texts files' n' bx bd vt vf' fx fd ft ff' := by
  obtain ⟨⟨a1, a2, a3, a4⟩, ⟨b1, b2, b3⟩, ⟨c1, c2⟩, c3⟩ := h.ap
  exact ⟨hc, h.doc.kept hk (fun x hx e => a1 (e ▸ hx)), h.disk.kept hk (fun x hx e => a2 (e ▸ hx)), h.texts.kept hk (fun x hx e => a3 (e ▸ hx)), ht.kept hk (fun x hx e => ha.1 (e ▸ hx)), apart_mk ⟨a1, a2, a3, ha.1⟩ ⟨b1, b2, ha.2.1⟩ ⟨c1, ha.2.2.1⟩ ha.2.2.2⟩

/-- The texts' row has grown. -/
theorem DeskM.grewT (h : DeskM w b d k texts files n bx bd vt vf fx fd ft ff) (hk : Kept (fun x => x ∈ ft) w w') (hx : ∀ x ∈ ft', x ∈ ft ∨ w.heap.size ≤ x) :
    w'.heap[b]? = some (.cells (deskCells bx bd vt vf n) deskT (0, 0)) ∧ DocR w' bx d fx ∧ DiskR w' bd k fd ∧ TextsAt w' vf files ff ∧ Apart [[b], fx, fd, ft', ff] := by
  obtain ⟨⟨a1, a2, a3, a4⟩, ⟨b1, b2, b3⟩, ⟨c1, c2⟩, c3⟩ := h.ap
  have hbl : b < w.heap.size := h.lt b (by simp)
  refine ⟨hk.get h.cells a3, h.doc.kept hk (fun x hx hx2 => b2 x hx hx2), h.disk.kept hk (fun x hx hx2 => c1 x hx hx2), h.files.kept hk (fun x hx hx2 => c3 x hx2 hx), apart_mk ⟨a1, a2, fun hb => ?_, a4⟩ ⟨b1, fun x h1 h2 => ?_, b3⟩ ⟨fun x h1 h2 => ?_, c2⟩ ?_⟩
  · rcases hx b hb with hb | hb
    · exact a3 hb
    · omega
  · rcases hx x h2 with h2 | h2
    · exact b2 x h1 h2
    · have := h.doc.lt x h1; omega
  · rcases hx x h2 with h2 | h2
    · exact c1 x h1 h2
    · have := h.disk.lt x h1; omega
  · exact apart_new hx h.files.lt c3

theorem DeskM.grewF {ff' : List Nat} (h : DeskM w b d k texts files n bx bd vt vf fx fd ft ff) (hk : Kept (fun x => x ∈ ff) w w') (hx : ∀ x ∈ ff', x ∈ ff ∨ w.heap.size ≤ x) :
    w'.heap[b]? = some (.cells (deskCells bx bd vt vf n) deskT (0, 0)) ∧ DocR w' bx d fx ∧ DiskR w' bd k fd ∧ TextsAt w' vt texts ft ∧ Apart [[b], fx, fd, ft, ff'] := by
  obtain ⟨⟨a1, a2, a3, a4⟩, ⟨b1, b2, b3⟩, ⟨c1, c2⟩, c3⟩ := h.ap
  have hbl : b < w.heap.size := h.lt b (by simp)
  refine ⟨hk.get h.cells a4, h.doc.kept hk (fun x hx hx2 => b3 x hx hx2), h.disk.kept hk (fun x hx hx2 => c2 x hx hx2), h.texts.kept hk (fun x hx hx2 => c3 x hx hx2), apart_mk ⟨a1, a2, a3, fun hb => ?_⟩ ⟨b1, b2, fun x h1 h2 => ?_⟩ ⟨c1, fun x h1 h2 => ?_⟩ (fun x h1 h2 => ?_)⟩
  · rcases hx b hb with hb | hb
    · exact a4 hb
    · omega
  · rcases hx x h2 with h2 | h2
    · exact b3 x h1 h2
    · have := h.doc.lt x h1; omega
  · rcases hx x h2 with h2 | h2
    · exact c2 x h1 h2
    · have := h.disk.lt x h1; omega
  · rcases hx x h2 with h2 | h2
    · exact c3 x h1 h2
    · have := h.texts.lt x h1; omega
end

/-- The desk D lies at b, its document at bx, its disk at bd; its blocks are fp. -/
def DeskR (w : World) (b bx bd : Nat) (D : DeskS) (fp : List Nat) : Prop := ∃ vt vf fx fd ft ff, DeskM w b D.doc D.disk D.mt D.mf ⟨D.doc.text, D.doc.every, D.doc.counted, D.most⟩ bx bd vt vf fx fd ft ff ∧ fp = deskFp b fx fd ft ff

theorem DeskR.kept {S : Blocks} {w w' : World} {b bx bd D fp} (h : DeskR w b bx bd D fp) (k : Kept S w w') (hn : ∀ x ∈ fp, ¬ S x) : DeskR w' b bx bd D fp := by
  obtain ⟨vt, vf, fx, fd, ft, ff, h, rfl⟩ := h
  exact ⟨vt, vf, fx, fd, ft, ff, h.kept k hn, rfl⟩
theorem DeskR.lt {w : World} {b bx bd D fp} (h : DeskR w b bx bd D fp) : ∀ x ∈ fp, x < w.heap.size := by
  obtain ⟨vt, vf, fx, fd, ft, ff, h, rfl⟩ := h
  exact h.lt

/-- What a call leaves of a desk. -/
structure DeskTo (w w' : World) (b bx bd : Nat) (fp : List Nat) (D' : DeskS) : Prop where
  ex : ∃ fp', DeskR w' b bx bd D' fp' ∧ ∀ x ∈ fp', x ∈ fp ∨ w.heap.size ≤ x
  kept : Kept (fun x => x ∈ fp) w w'

/-- A desk whose own numbers are nm, whatever its document tells. -/
def DeskRn (w : World) (b bx bd : Nat) (D : DeskS) (nm : Nums) (fp : List Nat) : Prop := ∃ vt vf fx fd ft ff, DeskM w b D.doc D.disk D.mt D.mf nm bx bd vt vf fx fd ft ff ∧ fp = deskFp b fx fd ft ff
structure DeskTon (w w' : World) (b bx bd : Nat) (nm : Nums) (fp : List Nat) (D' : DeskS) : Prop where
  ex : ∃ fp', DeskRn w' b bx bd D' nm fp' ∧ ∀ x ∈ fp', x ∈ fp ∨ w.heap.size ≤ x
  kept : Kept (fun x => x ∈ fp) w w'
end Go.Proofs.YtdpfohgkikjeaaaGreat
/- The document's own answer in memory; Text. -/
namespace Go.Proofs.YtdpfohgkikjeaaaGreat
open Go.RowKit
set_option linter.unusedVariables false
set_option linter.unusedSimpArgs false

abbrev refT : TypeId := 124
abbrev chT : TypeId := 188
def chCells (c : Str × Mark) : List Value := [sv c.1, .int .i64 c.2.len, .int .i64 (c.2.sum : Int)]
def chsCells (l : List (Str × Mark)) : List Value := (l.map chCells).flatten
theorem chsCells_length (l : List (Str × Mark)) : (chsCells l).length = l.length * 3 := by
  induction l with
  | nil => rfl
  | cons a l ih =>
    have e : chsCells (a :: l) = chCells a ++ chsCells l := rfl
    rw [e, List.length_append, ih]; simp [chCells]; omega
theorem chsCells_append (a b : List (Str × Mark)) : chsCells (a ++ b) = chsCells a ++ chsCells b := by simp [chsCells]
theorem chsCells_one (l : List (Str × Mark)) : ∀ u ∈ chsCells l, u.oneCell' = true := by
  intro u hu
  simp only [chsCells, List.mem_flatten, List.mem_map] at hu
  obtain ⟨_, ⟨a, _, rfl⟩, hu⟩ := hu
  simp only [chCells, List.mem_cons, List.not_mem_nil, or_false] at hu
  rcases hu with rfl | rfl | rfl <;> rfl
theorem tyCh : SliceTy Tryz.prog 122 chT 3 32 := SliceTy.mk' (z := .agg #[.string ⟨#[]⟩, .int .i64 0, .int .i64 0]) (by kernel_rfl) (by kernel_rfl) rfl (by decide)

abbrev ChRow (w : World) (v : Value) (l : List (Str × Mark)) : Prop := Row w chT 3 v l.length (chsCells l)

/-- Cells that are only read, from some place of a block on. -/
def Seen (w : World) (v : Value) (n : Nat) (cs : List Value) (fp : List Nat) : Prop :=
  (v = .slice none 0 0 ∧ n = 0 ∧ cs = [] ∧ fp = []) ∨ ∃ b o c, v = .slice (some ⟨b, o, none⟩) n c ∧ n ≤ c ∧ c ≤ 9223372036854775807 ∧ fp = [b] ∧ b < w.heap.size ∧ ∀ j u, cs[j]? = some u → w.cell? ⟨b, o + j, none⟩ = some u

theorem Seen.kept {S : Blocks} {w w' : World} {v n cs fp} (h : Seen w v n cs fp) (k : Kept S w w') (hn : ∀ x ∈ fp, ¬ S x) : Seen w' v n cs fp := by
  rcases h with h | ⟨b, o, c, hv, h1, h2, rfl, hb, hc⟩
  · exact .inl h
  · exact .inr ⟨b, o, c, hv, h1, h2, rfl, Nat.lt_of_lt_of_le hb k.size, fun j u hj => k.read (hc j u hj) (hn b (by simp))⟩
theorem Seen.lt {w : World} {v n cs fp} (h : Seen w v n cs fp) : ∀ x ∈ fp, x < w.heap.size := fun x hx => by
  rcases h with ⟨_, _, _, rfl⟩ | ⟨b, o, c, _, _, _, rfl, hb, _⟩
  · cases hx
  · rw [List.mem_singleton.1 hx]; exact hb
theorem Seen.nil (w : World) : Seen w (.slice none 0 0) 0 [] [] := .inl ⟨rfl, rfl, rfl, rfl⟩
theorem Seen.slice {w : World} {v n cs fp} (h : Seen w v n cs fp) : ∃ p c, v = .slice p n c := by
  rcases h with ⟨rfl, rfl, _, _⟩ | ⟨b, o, c, rfl, _⟩
  · exact ⟨_, _, rfl⟩
  · exact ⟨_, _, rfl⟩
theorem Seen.of_row {w : World} {e : TypeId} {size : Nat} {v : Value} {n : Nat} {xs : List Value} (h : Row w e size v n xs) (hl : xs.length = n * size) : Seen w v n xs (fpv v) := by
  rcases h.shape with ⟨rfl, h0, hx⟩ | ⟨g, c, rfl, h1, h2⟩
  · subst h0
    exact .inl ⟨rfl, rfl, by simpa using hl, fpv_nil⟩
  · have hc := h.cell
    refine .inr ⟨g, 0, c, rfl, h1, by unfold maxLen at h2; omega, fpv_some, h.lt g (by simp [fpv_some]), fun j u hj => ?_⟩
    rw [Nat.zero_add]; exact hc.2.2.2 j u hj

abbrev refCells (r : RefS) (vl va vq vs : Value) : Array Value := #[vl, sv r.file, .int .i64 (r.every : Int), .int .i64 (r.begun : Int), .int .i64 (r.edits : Int), .bool r.idle, .int .i64 (r.job : Int), va, sv r.saved, vq, vs]

structure RefAt (w : World) (b : Nat) (r : RefS) (vl va vq vs : Value) (fa fq : List Nat) : Prop where
  cells : w.heap[b]? = some (.cells (refCells r vl va vq vs) refT (0, 0))
  lines : Row w 9 1 vl r.lines.length (r.lines.map sv)
  acts : Seen w va r.acts.length (actsCells r.acts) fa
  last : Seen w vq r.last.length (chsCells r.last) fq
  since : ChRow w vs r.since
  apart : Apart [[b], fpv vl, fa, fq, fpv vs]

abbrev refFp (b : Nat) (vl : Value) (fa fq : List Nat) (vs : Value) : List Nat := b :: (fpv vl ++ (fa ++ (fq ++ fpv vs)))

section
variable {w w' : World} {b : Nat} {r r' : RefS} {vl va vq vs vl' va' vq' vs' : Value} {fa fq fa' fq' : List Nat}

theorem RefAt.kept {S : Blocks} (h : RefAt w b r vl va vq vs fa fq) (hk : Kept S w w') (hn : ∀ x ∈ refFp b vl fa fq vs, ¬ S x) : RefAt w' b r vl va vq vs fa fq :=
  ⟨hk.get h.cells (hn b (by simp)), h.lines.kept hk (fun x hx => hn x (by simp [hx])), h.acts.kept hk (fun x hx => hn x (by simp [hx])), h.last.kept hk (fun x hx => hn x (by simp [hx])), h.since.kept hk (fun x hx => hn x (by simp [hx])), h.apart⟩

theorem RefAt.lt (h : RefAt w b r vl va vq vs fa fq) : ∀ x ∈ refFp b vl fa fq vs, x < w.heap.size := fun x hx => by
  simp only [refFp, List.mem_cons, List.mem_append] at hx
  rcases hx with rfl | hx | hx | hx | hx
  · exact lt_of_heap h.cells
  · exact h.lines.lt x hx
  · exact h.acts.lt x hx
  · exact h.last.lt x hx
  · exact h.since.lt x hx

theorem RefAt.ap (h : RefAt w b r vl va vq vs fa fq) : (b ∉ fpv vl ∧ b ∉ fa ∧ b ∉ fq ∧ b ∉ fpv vs) ∧ ((∀ x ∈ fpv vl, x ∉ fa) ∧ (∀ x ∈ fpv vl, x ∉ fq) ∧ (∀ x ∈ fpv vl, x ∉ fpv vs)) ∧ ((∀ x ∈ fa, x ∉ fq) ∧ (∀ x ∈ fa, x ∉ fpv vs)) ∧ (∀ x ∈ fq, x ∉ fpv vs) := by
  have := h.apart
  simpa [Apart, List.pairwise_cons] using this

/-- Cells of the block itself are turned, nothing else. -/
theorem RefAt.store (h : RefAt w b r vl va vq vs fa fq) (hk : Kept (fun x => x = b) w w') (hc : w'.heap[b]? = some (.cells (refCells r' vl va vq vs) refT (0, 0))) (e1 : r'.lines = r.lines) (e2 : r'.acts = r.acts) (e3 : r'.last = r.last) (e4 : r'.since = r.since) : RefAt w' b r' vl va vq vs fa fq := by
  obtain ⟨⟨a1, a2, a3, a4⟩, _⟩ := h.ap
  refine ⟨hc, ?_, ?_, ?_, ?_, h.apart⟩
  · rw [e1]; exact h.lines.kept hk (fun x hx e => a1 (e ▸ hx))
  · rw [e2]; exact h.acts.kept hk (fun x hx e => a2 (e ▸ hx))
  · rw [e3]; exact h.last.kept hk (fun x hx e => a3 (e ▸ hx))
  · rw [e4]; exact h.since.kept hk (fun x hx e => a4 (e ▸ hx))
end

def RefR (w : World) (b : Nat) (r : RefS) (fp : List Nat) : Prop := ∃ vl va vq vs fa fq, RefAt w b r vl va vq vs fa fq ∧ fp = refFp b vl fa fq vs
theorem RefR.kept {S : Blocks} {w w' : World} {b r fp} (h : RefR w b r fp) (k : Kept S w w') (hn : ∀ x ∈ fp, ¬ S x) : RefR w' b r fp := by
  obtain ⟨vl, va, vq, vs, fa, fq, h, rfl⟩ := h
  exact ⟨vl, va, vq, vs, fa, fq, h.kept k hn, rfl⟩
theorem RefR.lt {w : World} {b r fp} (h : RefR w b r fp) : ∀ x ∈ fp, x < w.heap.size := by
  obtain ⟨vl, va, vq, vs, fa, fq, h, rfl⟩ := h
  exact h.lt

/-- What a call leaves of it. -/
structure RefTo (w w' : World) (b : Nat) (fp : List Nat) (r' : RefS) : Prop where
  ex : ∃ fp', RefR w' b r' fp' ∧ ∀ x ∈ fp', x ∈ fp ∨ w.heap.size ≤ x
  kept : Kept (fun x => x ∈ fp) w w'

set_option maxHeartbeats 1000000 in
theorem ref_text {w : World} {b : Nat} {r : RefS} {vl va vq vs : Value} {fa fq : List Nat} (h : RefAt w b r vl va vq vs fa fq) (hok : TextOk r.lines) :
    Calls Tryz.prog 65 #[.pointer (some ⟨b, 0, none⟩)] w fun e w' => e = .returned (sv (textOf r.lines)) ∧ Kept no w w' := by
  obtain ⟨hc, hf⟩ := cells_of h.cells
  obtain ⟨pl, cl, rfl⟩ := h.lines.slice
  have hcl : ∀ k (hk : k < r.lines.length), ∃ g, pl = some ⟨g, 0, none⟩ ∧ w.cell? ⟨g, k, none⟩ = some (sv r.lines[k]) := fun k hk => by
    rcases h.lines.shape with ⟨_, h0, _⟩ | ⟨g, c, hv, _, _⟩
    · omega
    · simp only [Value.slice.injEq] at hv
      obtain ⟨rfl, _, rfl⟩ := hv
      have := h.lines.cell
      exact ⟨g, rfl, this.2.2.2 k _ (by simp [hk])⟩
  have h0 : w.cell? ⟨b, 0, none⟩ = some (.slice pl r.lines.length cl) := by rw [hc]; rfl
  have hbd : ∀ k, (textOf (r.lines.take k)).length ≤ 2460 := fun k => TextOk.length ⟨by have := hok.few; rw [List.length_take]; omega, fun l hl => hok.lines l (List.mem_of_mem_take hl)⟩
  have hsn : ∀ k (hk : k < r.lines.length), textOf (r.lines.take (k + 1)) = textOf (r.lines.take k) ++ r.lines[k] ++ [10] := fun k hk => by
    rw [List.take_succ_eq_append_getElem hk, textOf_append]; simp [textOf]
  have hll : ∀ k (hk : k < r.lines.length), (r.lines[k]).length ≤ 40 := fun k hk => (hok.lines _ (List.getElem_mem hk)).1
  have h60 := hok.few
  clear h hc hf hok
  generalize hL : r.lines = L at *
  clear hL
  have HS : Hid (∀ k (hk : k < L.length), textOf (L.take (k + 1)) = textOf (L.take k) ++ L[k] ++ [10]) := hsn
  clear hsn
  go_enter Tryz.func65, Tryz.ntmps65
  go_wp2_with fail
  go_loopw [3, 4] (fun s3 s4 wr => ∃ k : Nat, k ≤ L.length ∧ s4 = .int .i64 ((k : Nat) : Int) ∧ s3 = sv (textOf (L.take k)) ∧ wr = w) (fun _ i _ => L.length - (intOf i).toNat)
  case atStart => exact ⟨0, by omega, rfl, by simp [textOf], rfl⟩
  case round =>
    obtain ⟨k, hk, rfl, rfl, rfl⟩ := hrel
    have hbk := hbd k
    by_cases h1 : k < L.length
    · obtain ⟨g, rfl, hcg⟩ := hcl k h1
      have hst := HS.out k h1
      have hlk := hll k h1
      generalize L[k] = x at hcg hst hlk
      obtain ⟨t, ht⟩ : ∃ t, t = textOf (L.take k) := ⟨_, rfl⟩
      rw [← ht] at hbk hst ⊢
      have HST : Hid (textOf (L.take (k + 1)) = t ++ x ++ [10]) := hst
      clear hst ht hcl hbd hll
      have e1 := sv_append t x
      have e2 := sv_append (t ++ x) [10]
      have e3 : (t ++ x).length ≤ 3000 := by rw [List.length_append]; omega
      have e4 : (t ++ x ++ [10]).length ≤ 3000 := by simp only [List.length_append, List.length_cons, List.length_nil]; omega
      go_wp2
      refine ⟨⟨k + 1, by omega, by go_num, ?_, trivial⟩, by simp [intOf]; omega⟩
      rw [HST.out]
      simp
    · obtain rfl : k = L.length := by omega
      go_wp2
      go_ret
      refine ⟨?_, Kept.refl _ _⟩
      simp
end Go.Proofs.YtdpfohgkikjeaaaGreat
/- Regions that draw, a fifth time: behind the reads single operations and pure ones, mixed. -/
namespace Go.Proofs.YtdpfohgkikjeaaaGreat
open Go.RowKit
set_option linter.unusedVariables false
set_option linter.unusedSimpArgs false

section
variable {P : Program} {ops : Array Oper} {Q : Exit → Act → World → Prop} {md : Region.Mode} {C : World → Prop} {N : Nat → Bool}

def mixB (md : Region.Mode) (ops : Array Oper) : List (Nat × Bool) → Array Bool → Bool
  | [], listed => Region.ready md ops listed == []
  | i :: l, listed => (if i.2 then (Region.ready md ops listed).contains i.1 && Region.free md ops listed i.1 else Region.ready md ops listed == [i.1]) && mixB md ops l (listed.setIfInBounds i.1 true)

/-- Single operations (false) and pure ones (true), in this order. -/
def wpMix (P : Program) (ops : Array Oper) (C : World → Prop) (N : Nat → Bool) (Q : Exit → Act → World → Prop) : List (Nat × Bool) → Act → World → Prop
  | [], a, w => Q .normal a w
  | (i, true) :: l, a, w => ∃ o v, ops[i]? = some o ∧ Reads P ops (fun w => true = true ∨ C w) o v a ∧ wpMix P ops C N Q l (a.put o.dst v) w
  | (i, false) :: l, a, w => wpOp P ops Q i (fun a' w' => (N i = true → C w → C w') ∧ wpMix P ops C N Q l a' w') a w

theorem wpGo3_mix (hs : Region.noSelect ops = true) (hQ : ∀ c a d v w, Q (.panic c) (Act.put a d v) w → Q (.panic c) a w) : ∀ (m : List (Nat × Bool)) (listed : Array Bool) (a : Act) (w : World), Closed md ops listed → mixB md ops m listed = true → wpMix P ops C N Q m a w → wpGo3 P md ops C N Q m.length listed a w
  | [], listed, a, w, hcl, hB, h => ⟨by simpa [mixB] using hB, h⟩
  | (i, true) :: m, listed, a, w, hcl, hB, h => by
    simp only [mixB, if_true, Bool.and_eq_true] at hB
    obtain ⟨⟨hr, hf⟩, hB'⟩ := hB
    obtain ⟨o, v, ho, hy, hK⟩ := h
    have hr' : i ∈ Region.ready md ops listed := by simpa using hr
    exact wpGo3_first true ho (Region.noSelect_spec hs) (fun e => (by cases e)) (fun c a w => hQ c a _ _ w) _ listed a w hcl (fun e => (by cases e)) (Region.free_spec ho hf) hr' hy
      (wpGo3_mix hs hQ m _ _ w (hcl.step hr') hB' hK)
  | (i, false) :: m, listed, a, w, hcl, hB, h => by
    simp only [mixB, Bool.false_eq_true, if_false, Bool.and_eq_true, beq_iff_eq] at hB
    unfold wpMix at h
    have hmem : i ∈ Region.ready md ops listed := by rw [hB.1]; simp
    refine ⟨fun h0 => (by rw [hB.1] at h0; cases h0), fun j hj => ?_⟩
    rw [hB.1] at hj
    simp only [List.mem_cons, List.not_mem_nil, or_false] at hj
    subst hj
    exact wpOp_mono (fun a' w' h' => ⟨h'.1, wpGo3_mix hs hQ m _ _ _ (hcl.step hmem) hB.2 h'.2⟩) h

theorem closed_all : ∀ (p : List Nat) (listed : Array Bool), Closed md ops listed → preOnly md ops p listed = true → Closed md ops (listAll p listed)
  | [], listed, h, _ => h
  | i :: p, listed, h, hB => by
    simp only [preOnly, Bool.and_eq_true] at hB
    have hr : i ∈ Region.ready md ops listed := by simpa using hB.1.1
    exact closed_all p _ (h.step hr) hB.2

theorem wpPre3_mono {R R' : Act → Prop} (h : ∀ a, R a → R' a) : ∀ (p : List (Nat × Bool)) (a : Act), wpPre3 P ops C R p a → wpPre3 P ops C R' p a
  | [], a, hh => h a hh
  | i :: p, a, ⟨o, v, ho, hy, hK⟩ => ⟨o, v, ho, hy, wpPre3_mono h p _ hK⟩

theorem wp_region5 {id : Nat} {a : Act} {w : World} (C : World → Prop) (p m : List (Nat × Bool)) (hm : P.follows .mixedOrders = true)
    (hB : (Region.noSelect ops && (p.length + m.length == ops.size) && preOnly .any ops (p.map (·.1)) (Array.replicate ops.size false) && mixB .any ops m (listAll (p.map (·.1)) (Array.replicate ops.size false))) = true)
    (hQ : ∀ c a d v w, Q (.panic c) (Act.put a d v) w → Q (.panic c) a w) (hC : C w.drew)
    (h : wpPre3 P ops C (fun a' => wpMix P ops C (needB3 .any ops p) Q m a' w.drew) p a) : (Code.region id ops true).wp P Q a w := by
  simp only [Bool.and_eq_true] at hB
  obtain ⟨⟨⟨hs, hl⟩, hB1⟩, hB2⟩ := hB
  refine wp_region4 C p m.length hm (by simp only [Bool.and_eq_true]; exact ⟨⟨hs, hl⟩, hB1⟩) hQ hC ?_
  have hcl := closed_all (md := .any) (ops := ops) (p.map (·.1)) _ closed_start hB1
  have hw : ∀ a', wpMix P ops C (needB3 .any ops p) Q m a' w.drew → wpGo3 P .any ops C (needB3 .any ops p) Q m.length (listAll (p.map (·.1)) (Array.replicate ops.size false)) a' w.drew := fun a' h' => wpGo3_mix hs hQ m _ a' w.drew hcl hB2 h'
  exact wpPre3_mono hw p a h

theorem wpMix_nil {a : Act} {w : World} (h : Q .normal a w) : wpMix P ops C N Q [] a w := h
theorem wpMix_pure {a : Act} {w : World} {i : Nat} {l : List (Nat × Bool)} {o : Oper} {v : Value} (ho : ops.toList[i]? = some o) (hg : o.guard = none)
    (hr : ∀ w, (execOp a.eval o).run P w = .ok (.value v) w) (h : wpMix P ops C N Q l (a.put o.dst v) w) : wpMix P ops C N Q ((i, true) :: l) a w := by
  exact ⟨o, v, by simpa using ho, .inl ⟨by simp [Region.wanted, hg], fun w _ => hr w⟩, h⟩
theorem wpMix_cons {a : Act} {w : World} {i : Nat} {l : List (Nat × Bool)} {o : Oper} (ho : ops.toList[i]? = some o) (hg : o.guard = none)
    (h : ∀ K : Act → World → Prop, (∀ a' w', (C w → C w') ∧ wpMix P ops C N Q l a' w' → K a' w') → o.wp P a w K Q) : wpMix P ops C N Q ((i, false) :: l) a w := by
  have ho' : ops[i]? = some o := by simpa using ho
  unfold wpMix
  unfold wpOp
  simp only [ho']
  rw [if_pos (by simp [Region.wanted, hg])]
  exact .inl (h _ (fun _ _ h => ⟨fun _ => h.1, h.2⟩))
theorem wpMix_last {a : Act} {w : World} {i : Nat} {l : List (Nat × Bool)} {o : Oper} (hn : N i = false) (ho : ops.toList[i]? = some o) (hg : o.guard = none)
    (h : ∀ K : Act → World → Prop, (∀ a w, wpMix P ops C N Q l a w → K a w) → o.wp P a w K Q) : wpMix P ops C N Q ((i, false) :: l) a w := by
  have ho' : ops[i]? = some o := by simpa using ho
  unfold wpMix
  unfold wpOp
  simp only [ho']
  rw [if_pos (by simp [Region.wanted, hg])]
  exact .inl (h _ (fun _ _ h => ⟨fun hh => (by rw [hn] at hh; cases hh), h⟩))
end
end Go.Proofs.YtdpfohgkikjeaaaGreat

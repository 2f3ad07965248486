/- Part 10 of the proof: see its parts. -/
import Derived.Deep.DeepCutAuto
import Derived.Test.YtdpfohgkikjeaaaGreatU3
import Derived.Test.YtdpfohgkikjeaaaGreatU6
import Derived.Test.YtdpfohgkikjeaaaGreatU7
import Derived.Test.YtdpfohgkikjeaaaGreatU9
/- join. -/
namespace Go.Proofs.YtdpfohgkikjeaaaGreat
open Go.RowKit
set_option linter.unusedVariables false
set_option linter.unusedSimpArgs false

theorem Row.slice {w : World} {e : TypeId} {size n : Nat} {v : Value} {xs : List Value} (h : Row w e size v n xs) : ∃ p c, v = .slice p n c := by
  rcases h.shape with ⟨rfl, rfl, _⟩ | ⟨g, c, rfl, _, _⟩
  · exact ⟨_, _, rfl⟩
  · exact ⟨_, _, rfl⟩

theorem sv_one (xs : List Str) : ∀ u ∈ xs.map sv, u.oneCell' = true := fun u hu => by
  obtain ⟨_, _, rfl⟩ := List.mem_map.1 hu; rfl
theorem ptr_one (ks : List Kid) : ∀ u ∈ ks.map Kid.ptr, u.oneCell' = true := fun u hu => by
  obtain ⟨_, _, rfl⟩ := List.mem_map.1 hu; rfl

set_option maxHeartbeats 2000000 in
set_option maxRecDepth 100000 in
theorem nodejoin_any (b b2 : Nat) (vi vk ui uk cnt cnt2 : Value) (rest rest2 : List Value) (T T2 : TypeId) (xs ys : List Str) (ks ks2 : List Kid) (w : World)
    (hb : w.heap[b]? = some (.cells (vi :: vk :: cnt :: rest).toArray T (0, 0))) (hb2 : w.heap[b2]? = some (.cells (ui :: uk :: cnt2 :: rest2).toArray T2 (0, 0)))
    (hri : Row w 9 1 vi xs.length (xs.map sv)) (hui : Row w 9 1 ui ys.length (ys.map sv)) (hk : KidsAt w vk ks) (hk2 : KidsAt w uk ks2)
    (hbb : b ≠ b2) (hd : ∀ x, x ∈ fpv vi ∨ x ∈ fpv vk → x ≠ b ∧ x ≠ b2 ∧ x ∉ fpv ui ∧ x ∉ fpv uk ∧ ∀ c ∈ ks ++ ks2, c.b ≠ x) (hd2 : ∀ x, x ∈ fpv vi → x ∉ fpv vk) (hd3 : ∀ c ∈ ks ++ ks2, c.b ≠ b) (hd4 : b ∉ fpv uk) (hx : xs.length + ys.length ≤ 1000000) (hks : ks.length + ks2.length ≤ 1000000) (hl : (itemsOf (ks ++ ks2)).length ≤ 1099511627776) :
    Calls Tryz.prog 134 #[.pointer (some ⟨b, 0, none⟩), .pointer (some ⟨b2, 0, none⟩)] w fun e w' => e = .returned (.tuple #[]) ∧ ∃ vi' vk', w'.heap[b]? = some (.cells (vi' :: vk' :: .int .i64 ((xs.length + ys.length + (itemsOf (ks ++ ks2)).length : Nat) : Int) :: rest).toArray T (0, 0)) ∧
      Row w' 9 1 vi' (xs.length + ys.length) ((xs ++ ys).map sv) ∧ KidsAt w' vk' (ks ++ ks2) ∧ Kept (fun k => k = b ∨ k ∈ fpv vi ∨ k ∈ fpv vk) w w' ∧ (∀ x ∈ fpv vi', x ∈ fpv vi ∨ w.heap.size ≤ x) ∧ (∀ x ∈ fpv vk', x ∈ fpv vk ∨ w.heap.size ≤ x) ∧ (vi = nilS → ys = [] → vi' = nilS) ∧ (vk = nilS → ks2 = [] → vk' = nilS) := by
  go_enter Tryz.func134, Tryz.ntmps134
  go_wp2
  refine wp_region_last (fun W => W.heap[b]? = some (.cells (vi :: vk :: cnt :: rest).toArray T (0, 0)) ∧ W.heap[b2]? = some (.cells (ui :: uk :: cnt2 :: rest2).toArray T2 (0, 0))) [0, 1, 2, 3, 4, 5, 6, 7, 8] [9, 10, 11, 12] (by kernel_rfl) (by kernel_rfl) (fun _ _ d _ _ h => by cases d <;> exact h) ⟨hb, hb2⟩ ?_
  repeat (refine wpPre_cons rfl rfl (fun W hW => (by obtain ⟨hc1, _⟩ := cells_of hW.1; obtain ⟨hc2, _⟩ := cells_of hW.2; go_simp; rfl)) ?_; simp only [Act.put, List.setIfInBounds_toArray, List.set])
  refine wpPre_nil ?_
  refine wpTail2_cons rfl rfl (fun K hK => ?_)
  refine wp_app_any _ _ 34 rfl tyS vi _ _ rfl hri.drew ui _ _ rfl hui.drew (sv_one ys) (by decide) (by omega) (fun v1 w1 hr1 hg1 hn1 => hK _ _ ⟨⟨hg1.1.get (w := w.drew) hb (fun h => (hd _ (.inl h)).1 rfl), hg1.1.get (w := w.drew) hb2 (fun h => (hd _ (.inl h)).2.1 rfl)⟩, ?_⟩)
  clear hK
  obtain ⟨p1, c1, rfl⟩ := hr1.slice
  simp only [Act.put, List.setIfInBounds_toArray, List.set]
  have hb1 : w1.heap[b]? = some (.cells (vi :: vk :: cnt :: rest).toArray T (0, 0)) := hg1.1.get (w := w.drew) hb (fun h => (hd _ (.inl h)).1 rfl)
  have hb21 : w1.heap[b2]? = some (.cells (ui :: uk :: cnt2 :: rest2).toArray T2 (0, 0)) := hg1.1.get (w := w.drew) hb2 (fun h => (hd _ (.inl h)).2.1 rfl)
  obtain ⟨hc1, hf1⟩ := cells_of hb1
  refine wpTail2_last (by kernel_rfl) rfl rfl (fun K hK => ?_)
  go_wp2_with fail
  refine wpTail2_last (by kernel_rfl) rfl rfl (fun K hK => ?_)
  go_wp2_with fail
  refine wpTail2_last (by kernel_rfl) rfl rfl (fun K hK => ?_)
  go_wp2_with fail
  refine wpTail2_nil ?_
  have hlt := hri.lt
  have hb_2 : (w1.setCell ⟨b, 0, none⟩ (.slice p1 (xs.length + ys.length) c1)).heap[b]? = some (.cells (.slice p1 (xs.length + ys.length) c1 :: vk :: cnt :: rest).toArray T (0, 0)) := by rw [heap_set_same hb1]; simp
  have hk_2 : Kept (fun k => k = b ∨ k ∈ fpv vi) w (w1.setCell ⟨b, 0, none⟩ (.slice p1 (xs.length + ys.length) c1)) := (hg1.1.of_drew.mono (fun x hx _ => .inr hx)).setCell (p := ⟨b, 0, none⟩) (fun _ => .inl rfl) _
  have hr_2 : Row (w1.setCell ⟨b, 0, none⟩ (.slice p1 (xs.length + ys.length) c1)) 9 1 (.slice p1 (xs.length + ys.length) c1) (xs.length + ys.length) ((xs ++ ys).map sv) := by
    rw [List.map_append]
    refine hr1.kept (S := fun k => k = b) Kept.cell1 (fun x hx e => ?_)
    subst e
    rcases hg1.2 x hx with h | h
    · exact (hd x (.inl h)).1 rfl
    · have := lt_of_heap hb
      have h2 : w.heap.size ≤ x := h
      omega
  have hf_2 : ∀ x ∈ fpv (.slice p1 (xs.length + ys.length) c1), x ∈ fpv vi ∨ w.heap.size ≤ x := hg1.2
  have hb2_2 : (w1.setCell ⟨b, 0, none⟩ (.slice p1 (xs.length + ys.length) c1)).heap[b2]? = some (.cells (ui :: uk :: cnt2 :: rest2).toArray T2 (0, 0)) := by rw [heap_set_other hbb]; exact hb21
  generalize w1.setCell ⟨b, 0, none⟩ (.slice p1 (xs.length + ys.length) c1) = w2 at hb_2 hk_2 hr_2 hb2_2
  have hkA : KidsAt w2 vk ks := hk.kept hk_2 (fun x hx => fun h => by
    rcases h with h | h
    · exact (hd x (.inr hx)).1 h
    · exact hd2 x h hx) (fun c hm => fun h => by
    rcases h with h | h
    · exact hd3 c (by simp [hm]) h
    · exact (hd _ (.inl h)).2.2.2.2 c (by simp [hm]) rfl)
  have hkB : KidsAt w2 uk ks2 := hk2.kept hk_2 (fun x hx => fun h => by
    rcases h with h | h
    · exact hd4 (h ▸ hx)
    · exact (hd x (.inl h)).2.2.2.1 hx) (fun c hm => fun h => by
    rcases h with h | h
    · exact hd3 c (by simp [hm]) h
    · exact (hd _ (.inl h)).2.2.2.2 c (by simp [hm]) rfl)
  clear hb1 hb21 hc1 hf1 hr1 hg1
  go_wp2
  refine wp_region_last (fun W => W.heap[b]? = some (.cells (.slice p1 (xs.length + ys.length) c1 :: vk :: cnt :: rest).toArray T (0, 0)) ∧ W.heap[b2]? = some (.cells (ui :: uk :: cnt2 :: rest2).toArray T2 (0, 0))) [0, 1, 2, 3, 4, 5, 6, 7, 8] [9, 10, 11, 12] (by kernel_rfl) (by kernel_rfl) (fun _ _ d _ _ h => by cases d <;> exact h) ⟨hb_2, hb2_2⟩ ?_
  repeat (refine wpPre_cons rfl rfl (fun W hW => (by obtain ⟨hc1, _⟩ := cells_of hW.1; obtain ⟨hc2, _⟩ := cells_of hW.2; go_simp; rfl)) ?_; simp only [Act.put, List.setIfInBounds_toArray, List.set])
  refine wpPre_nil ?_
  refine wpTail2_cons rfl rfl (fun K hK => ?_)
  have hgb : ∀ {u : Value} {W : World}, Grew w2.drew W vk u → W.heap[b]? = some (.cells (.slice p1 (xs.length + ys.length) c1 :: vk :: cnt :: rest).toArray T (0, 0)) ∧ W.heap[b2]? = some (.cells (ui :: uk :: cnt2 :: rest2).toArray T2 (0, 0)) := fun h =>
    ⟨h.1.get (w := w2.drew) hb_2 (fun h => (hd _ (.inr h)).1 rfl), h.1.get (w := w2.drew) hb2_2 (fun h => (hd _ (.inr h)).2.1 rfl)⟩
  refine wp_app_any _ _ 86 rfl tyK vk _ _ rfl hkA.row.drew uk _ _ rfl hkB.row.drew (ptr_one ks2) (by decide) (by omega) (fun v3 w3 hr3 hg3 hn3 => hK _ _ ⟨hgb hg3, ?_⟩)
  clear hK
  obtain ⟨p3, c3, rfl⟩ := hr3.slice
  obtain ⟨hb_3, _⟩ := hgb hg3
  obtain ⟨hc1, hf1⟩ := cells_of hb_3
  simp only [Act.put, List.setIfInBounds_toArray, List.set]
  refine wpTail2_last (by kernel_rfl) rfl rfl (fun K hK => ?_)
  go_wp2_with fail
  refine wpTail2_last (by kernel_rfl) rfl rfl (fun K hK => ?_)
  go_wp2_with fail
  refine wpTail2_last (by kernel_rfl) rfl rfl (fun K hK => ?_)
  go_wp2_with fail
  refine wpTail2_nil ?_
  have hlt2 : ∀ x ∈ fpv vk, x < w.heap.size := hk.row.lt
  have hsz : w.heap.size ≤ w2.heap.size := hk_2.size
  have hb_4 : (w3.setCell ⟨b, 1, none⟩ (.slice p3 (ks.length + ks2.length) c3)).heap[b]? = some (.cells (.slice p1 (xs.length + ys.length) c1 :: .slice p3 (ks.length + ks2.length) c3 :: cnt :: rest).toArray T (0, 0)) := by rw [heap_set_same hb_3]; simp
  have hk_3 : Kept (fun k => k = b ∨ k ∈ fpv vk) w2 (w3.setCell ⟨b, 1, none⟩ (.slice p3 (ks.length + ks2.length) c3)) := (hg3.1.of_drew.mono (fun x hx _ => .inr hx)).setCell (p := ⟨b, 1, none⟩) (fun _ => .inl rfl) _
  have hf_3 : ∀ x ∈ fpv (.slice p3 (ks.length + ks2.length) c3), x ∈ fpv vk ∨ w2.heap.size ≤ x := hg3.2
  have hr_3 : Row (w3.setCell ⟨b, 1, none⟩ (.slice p3 (ks.length + ks2.length) c3)) 141 1 (.slice p3 (ks.length + ks2.length) c3) (ks.length + ks2.length) ((ks ++ ks2).map Kid.ptr) := by
    rw [List.map_append]
    refine hr3.kept (S := fun k => k = b) Kept.cell1 (fun x hx e => ?_)
    subst e
    rcases hf_3 x hx with h | h
    · exact (hd x (.inr h)).1 rfl
    · have := lt_of_heap hb_2
      omega
  generalize w3.setCell ⟨b, 1, none⟩ (.slice p3 (ks.length + ks2.length) c3) = w4 at hb_4 hk_3 hr_3
  have hkids : KidsAt w4 (.slice p3 (ks.length + ks2.length) c3) (ks ++ ks2) := by
    refine ⟨by rw [List.length_append]; exact hr_3, fun c hm => ?_⟩
    have hh : ∃ a b r T, w2.heap[c.b]? = some (.cells (a :: b :: c.count :: r).toArray T (0, 0)) := by
      rcases List.mem_append.1 hm with h | h
      · exact hkA.counts c h
      · exact hkB.counts c h
    obtain ⟨a, b', r, T', hh⟩ := hh
    exact ⟨a, b', r, T', hk_3.get hh (fun h => by
      rcases h with h | h
      · exact hd3 c hm h
      · exact (hd _ (.inr h)).2.2.2.2 c hm rfl)⟩
  have hbw := lt_of_heap hb
  have hv1 : b ∉ fpv (.slice p1 (xs.length + ys.length) c1) := fun h => by
    rcases hf_2 b h with h | h
    · exact (hd b (.inl h)).1 rfl
    · omega
  have hv3 : b ∉ fpv (.slice p3 (ks.length + ks2.length) c3) := fun h => by
    rcases hf_3 b h with h | h
    · exact (hd b (.inr h)).1 rfl
    · omega
  go_wp2_with (go_at_call 115; refine (tally_any b _ _ cnt rest T (ks ++ ks2) p1 (xs.length + ys.length) c1 rfl w4 hb_4 hkids hd3 hv3 (by rw [List.length_append]; omega) hl hx).mono ?_; rintro e w5 ⟨rfl, hb5, hk5⟩)
  go_end0
  refine ⟨rfl, .slice p1 (xs.length + ys.length) c1, .slice p3 (ks.length + ks2.length) c3, hb5, ?_, ?_, ?_, hf_2, ?_, ?_, ?_⟩
  · refine (hr_2.kept hk_3 (fun x hx h => ?_)).kept hk5 (fun x hx h => hv1 (h ▸ hx))
    rcases h with h | h
    · exact hv1 (h ▸ hx)
    · rcases hf_2 x hx with h' | h'
      · exact hd2 x h' h
      · have := hlt2 x h; omega
  · exact hkids.kept hk5 (fun x hx h => hv3 (h ▸ hx)) hd3
  · refine ((hk_2.mono (T := fun k => k = b ∨ k ∈ fpv vi ∨ k ∈ fpv vk) (fun x hx _ => hx.elim .inl (fun h => .inr (.inl h)))).step' hk_3 (fun x hx _ => hx.elim .inl (fun h => .inr (.inr h)))).step' hk5 (fun x hx _ => .inl hx)
  · exact fun x hx => (hf_3 x hx).imp id (fun h => by omega)
  · exact fun h1 h2 => hn1.2 ⟨h1, by rw [h2]; rfl⟩
  · exact fun h1 h2 => hn3.2 ⟨h1, by rw [h2]; rfl⟩
end Go.Proofs.YtdpfohgkikjeaaaGreat
/- Regions that draw, a third time: an operation that is pure comes up wherever it likes; of the others, whoever waits for them by whatever way. -/
namespace Go.Proofs.YtdpfohgkikjeaaaGreat
open Go.RowKit
set_option linter.unusedVariables false
set_option linter.unusedSimpArgs false

section
variable {P : Program} {ops : Array Oper} {Q : Exit → Act → World → Prop} {md : Region.Mode} {C : World → Prop} {N : Nat → Bool}

/-- What is listed has all listed that it waits for. -/
def Closed (md : Region.Mode) (ops : Array Oper) (listed : Array Bool) : Prop := ∀ k ok, ops[k]? = some ok → listed.getD k false = true → ∀ e ∈ ok.after, Region.binds md e = true → listed.getD e.on false = true

theorem Closed.step {listed : Array Bool} {j : Nat} (h : Closed md ops listed) (hj : j ∈ Region.ready md ops listed) : Closed md ops (listed.setIfInBounds j true) := by
  intro k ok hk hl e he hb
  obtain ⟨_, o, ho, hall⟩ := mem_ready.1 hj
  by_cases hjk : j = k
  · subst hjk
    obtain rfl : o = ok := Option.some.inj (ho.symm.trans hk)
    exact getD_set_true (hall e he hb)
  · rw [getD_set_ne false hjk] at hl
    exact getD_set_true (h k ok hk hl e he hb)

theorem closed_start : Closed md ops (Array.replicate ops.size false) := by
  intro k ok hk hl
  have hlt : k < ops.size := (Array.getElem?_eq_some_iff.1 hk).1
  rw [Array.getD_eq_getD_getElem?, Array.getElem?_replicate, if_pos hlt] at hl
  cases hl

/-- Does j wait for i, by way of others? -/
def waitsB (md : Region.Mode) (ops : Array Oper) : Nat → Nat → Nat → Bool
  | 0, _, _ => false
  | n + 1, j, i => match ops[j]? with
    | some o => o.after.any fun e => Region.binds md e && (e.on == i || waitsB md ops n e.on i)
    | none => false

theorem waitsB_listed {listed : Array Bool} (hc : Closed md ops listed) {i : Nat} : ∀ (n j : Nat), listed.getD j false = true → waitsB md ops n j i = true → listed.getD i false = true
  | 0, _, _, h => by cases h
  | n + 1, j, hj, h => by
    unfold waitsB at h
    cases ho : ops[j]? with
    | none => rw [ho] at h; cases h
    | some o =>
      rw [ho] at h
      simp only [Array.any_eq_true'] at h
      obtain ⟨e, he, h⟩ := h
      simp only [Bool.and_eq_true, Bool.or_eq_true, beq_iff_eq] at h
      have h1 := hc j o ho hj e he h.1
      rcases h.2 with h2 | h2
      · rw [← h2]; exact h1
      · exact waitsB_listed hc n e.on h1 h2

theorem waitsB_ready {listed : Array Bool} (hc : Closed md ops listed) {i j n : Nat} (hj : j ∈ Region.ready md ops listed) (h : waitsB md ops n j i = true) : listed.getD i false = true := by
  obtain ⟨_, o, ho, hall⟩ := mem_ready.1 hj
  cases n with
  | zero => cases h
  | succ n =>
    unfold waitsB at h
    rw [ho] at h
    simp only [Array.any_eq_true'] at h
    obtain ⟨e, he, h⟩ := h
    simp only [Bool.and_eq_true, Bool.or_eq_true, beq_iff_eq] at h
    have h1 := hall e he h.1
    rcases h.2 with h2 | h2
    · rw [← h2]; exact h1
    · exact waitsB_listed hc n e.on h1 h2

/-- Does the operation j not wait for all of p? -/
def needB3 (md : Region.Mode) (ops : Array Oper) (p : List (Nat × Bool)) (j : Nat) : Bool := !(p.all fun i => i.2 || waitsB md ops 5 j i.1)

/-- Whoever is not among N waits for i. -/
def Waits3 (md : Region.Mode) (ops : Array Oper) (N : Nat → Bool) (i : Nat) : Prop := ∀ j, N j = false → waitsB md ops 5 j i = true

theorem Waits3.need {i j : Nat} {listed : Array Bool} (hc : Closed md ops listed) (h : Waits3 md ops N i) (hi : i ∈ Region.ready md ops listed) (hj : j ∈ Region.ready md ops listed) : N j = true := by
  by_cases hN : N j = true
  · exact hN
  · have h1 := waitsB_ready hc hj (h j (by simpa using hN))
    have h2 := (mem_ready.1 hi).1
    by_cases hs : i < listed.size
    · rw [Array.getD_eq_getD_getElem?, Array.getElem?_eq_getElem hs] at h1 h2
      simp only [Option.getD_some] at h1 h2
      rw [h1] at h2; cases h2
    · rw [Array.getD_eq_getD_getElem?, Array.getElem?_eq_none (by omega)] at h1
      cases h1

def wpGo3 (P : Program) (md : Region.Mode) (ops : Array Oper) (C : World → Prop) (N : Nat → Bool) (Q : Exit → Act → World → Prop) : Nat → Array Bool → Act → World → Prop
  | 0, listed, a, w => Region.ready md ops listed = [] ∧ Q .normal a w
  | fuel + 1, listed, a, w =>
    (Region.ready md ops listed = [] → Q .normal a w) ∧
    ∀ i ∈ Region.ready md ops listed, wpOp P ops Q i (fun a' w' => (N i = true → C w → C w') ∧ wpGo3 P md ops C N Q fuel (listed.setIfInBounds i true) a' w') a w

theorem wpAny_of_go3 : ∀ (fuel : Nat) (listed : Array Bool) (a : Act) (w : World), wpGo3 P md ops C N Q fuel listed a w → wpAny P md ops Q fuel listed a w
  | 0, _, _, _, h => h
  | fuel + 1, _, _, _, h => ⟨h.1, fun i hi => wpOp_mono (fun a' w' h' => wpAny_of_go3 fuel _ a' w' h'.2) (h.2 i hi)⟩

theorem wpGo3_first {i : Nat} {oi : Oper} {v : Value} (pure : Bool) (hi : ops[i]? = some oi) (hsel : ∀ (j : Nat) (o : Oper) cs b, ops[j]? = some o → o.op ≠ .select cs b) (hwt : pure = false → Waits3 md ops N i)
    (hQ : ∀ c a w, Q (.panic c) (a.put oi.dst v) w → Q (.panic c) a w) :
    ∀ (fuel : Nat) (listed : Array Bool) (a : Act) (w : World), Closed md ops listed → (pure = false → C w) → Free md ops i oi listed → i ∈ Region.ready md ops listed → Reads P ops (fun w => pure = true ∨ C w) oi v a →
      wpGo3 P md ops C N Q fuel (listed.setIfInBounds i true) (a.put oi.dst v) w → wpGo3 P md ops C N Q (fuel + 1) listed a w
  | 0, listed, a, w, hcl, hC, _, hr, hy, H => by
    have hC' : pure = true ∨ C w := by cases pure <;> simp_all
    refine ⟨fun h0 => (by rw [h0] at hr; cases hr), fun j hj => ?_⟩
    rcases Nat.decEq j i with hne | rfl
    · exact absurd (ready_mono hj hne) (by rw [H.1]; exact List.not_mem_nil)
    · exact hy.wpOp hi hC' ⟨fun _ h => h, H⟩
  | n + 1, listed, a, w, hcl, hC, hf, hr, hy, H => by
    have hC' : pure = true ∨ C w := by cases pure <;> simp_all
    refine ⟨fun h0 => (by rw [h0] at hr; cases hr), fun j hj => ?_⟩
    rcases Nat.decEq j i with hne | rfl
    · obtain ⟨hjun, oj, hoj, _⟩ := mem_ready.1 hj
      have hput := reads_put hoj (hf.beside hr hj hoj hne) (fun cs b => hsel i oi cs b hi) (fun cs b => hsel j oj cs b hoj) hQ hy (H.2 j (ready_mono hj hne))
      refine wpOp_mono (fun a' w' hh => ⟨hh.2.1, ?_⟩) hput
      refine wpGo3_first pure hi hsel hwt hQ n _ a' w' (hcl.step hj) (fun hp => hh.2.1 ((hwt hp).need hcl hr hj) (hC hp)) (hf.step hjun) (ready_mono hr (Ne.symm hne)) hh.1 ?_
      rw [Array.setIfInBounds_comm _ _ hne]
      exact hh.2.2
    · exact hy.wpOp hi hC' ⟨fun _ h => h, H⟩

/-- What only reads (false), or not even that (true), one by one. -/
def wpPre3 (P : Program) (ops : Array Oper) (C : World → Prop) (R : Act → Prop) : List (Nat × Bool) → Act → Prop
  | [], a => R a
  | i :: l, a => ∃ o v, ops[i.1]? = some o ∧ Reads P ops (fun w => i.2 = true ∨ C w) o v a ∧ wpPre3 P ops C R l (a.put o.dst v)

/-- The rest, in its one order. -/
def wpTail3 (P : Program) (ops : Array Oper) (C : World → Prop) (N : Nat → Bool) (Q : Exit → Act → World → Prop) : List Nat → Act → World → Prop
  | [], a, w => Q .normal a w
  | i :: l, a, w => wpOp P ops Q i (fun a' w' => (N i = true → C w → C w') ∧ wpTail3 P ops C N Q l a' w') a w

theorem wpGo3_tail : ∀ (t : List Nat) (listed : Array Bool) (a : Act) (w : World), tailB md ops t listed = true → wpTail3 P ops C N Q t a w → wpGo3 P md ops C N Q t.length listed a w
  | [], _, _, _, hB, h => ⟨by simpa [tailB] using hB, h⟩
  | i :: t, listed, a, w, hB, h => by
    simp only [tailB, Bool.and_eq_true, beq_iff_eq] at hB
    refine ⟨fun h0 => (by rw [hB.1] at h0; cases h0), fun j hj => ?_⟩
    rw [hB.1] at hj
    simp only [List.mem_cons, List.not_mem_nil, or_false] at hj
    subst hj
    exact wpOp_mono (fun a' w' h' => ⟨h'.1, wpGo3_tail t _ a' w' hB.2 h'.2⟩) h

theorem wpGo3_pre (hs : Region.noSelect ops = true) (hQ : ∀ c a d v w, Q (.panic c) (Act.put a d v) w → Q (.panic c) a w) (t : List Nat) : ∀ (p : List (Nat × Bool)), (∀ i ∈ p, i.2 = false → Waits3 md ops N i.1) → ∀ (listed : Array Bool) (a : Act) (w : World), Closed md ops listed → C w →
    preB md ops t (p.map (·.1)) listed = true → wpPre3 P ops C (fun a' => wpTail3 P ops C N Q t a' w) p a → wpGo3 P md ops C N Q (p.length + t.length) listed a w
  | [], _, listed, a, w, hcl, hC, hB, h => by
    simp only [List.length_nil, Nat.zero_add]
    exact wpGo3_tail t listed a w hB h
  | i :: p, hW, listed, a, w, hcl, hC, hB, h => by
    simp only [List.map_cons, preB, Bool.and_eq_true] at hB
    obtain ⟨⟨hr, hf⟩, hB'⟩ := hB
    obtain ⟨o, v, ho, hy, hK⟩ := h
    have e : (i :: p).length + t.length = (p.length + t.length) + 1 := by simp; omega
    have hr' : i.1 ∈ Region.ready md ops listed := by simpa using hr
    rw [e]
    exact wpGo3_first i.2 ho (Region.noSelect_spec hs) (hW i (by simp)) (fun c a w => hQ c a _ _ w) _ listed a w hcl (fun _ => hC) (Region.free_spec ho hf) hr' hy
      (wpGo3_pre hs hQ t p (fun k hk => hW k (by simp [hk])) _ _ w (hcl.step hr') hC hB' hK)

def drawB3 (ops : Array Oper) (p : List (Nat × Bool)) (t : List Nat) : Bool := drawB ops (p.map (·.1)) t

/-- A region that draws: reads, pure ones, then the rest in its order. Of the rest, whoever does not wait for all reads keeps the class. -/
theorem wp_region3 {id : Nat} {a : Act} {w : World} (C : World → Prop) (p : List (Nat × Bool)) (t : List Nat) (hm : P.follows .mixedOrders = true) (hB : drawB3 ops p t = true)
    (hQ : ∀ c a d v w, Q (.panic c) (Act.put a d v) w → Q (.panic c) a w) (hC : C w.drew)
    (h : wpPre3 P ops C (fun a' => wpTail3 P ops C (needB3 .any ops p) Q t a' w.drew) p a) : (Code.region id ops true).wp P Q a w := by
  simp only [drawB3, drawB, Bool.and_eq_true, beq_iff_eq] at hB
  obtain ⟨⟨hs, hl⟩, hB⟩ := hB
  refine wp_region_any hm (wpAny_of_go3 (C := C) (N := needB3 .any ops p) _ _ _ _ ?_)
  have hW : ∀ i ∈ p, i.2 = false → Waits3 .any ops (needB3 .any ops p) i.1 := fun i hi h2 j hj => by
    unfold needB3 at hj
    simp only [Bool.not_eq_false'] at hj
    have := List.all_eq_true.1 hj i hi
    rw [h2] at this
    simpa using this
  have hg := wpGo3_pre hs hQ t p hW _ a w.drew closed_start hC hB h
  rw [List.length_map] at hl
  rw [hl] at hg
  exact hg

theorem wpPre3_nil {R : Act → Prop} {a : Act} (h : R a) : wpPre3 P ops C R [] a := h
theorem wpPre3_pure {R : Act → Prop} {a : Act} {i : Nat} {l : List (Nat × Bool)} {o : Oper} {v : Value} (ho : ops.toList[i]? = some o) (hg : o.guard = none)
    (hr : ∀ w, (execOp a.eval o).run P w = .ok (.value v) w) (h : wpPre3 P ops C R l (a.put o.dst v)) : wpPre3 P ops C R ((i, true) :: l) a :=
  ⟨o, v, by simpa using ho, .inl ⟨by simp [Region.wanted, hg], fun w _ => hr w⟩, h⟩
theorem wpPre3_read {R : Act → Prop} {a : Act} {i : Nat} {l : List (Nat × Bool)} {o : Oper} {v : Value} (ho : ops.toList[i]? = some o) (hg : o.guard = none)
    (hr : ∀ w, C w → (execOp a.eval o).run P w = .ok (.value v) w) (h : wpPre3 P ops C R l (a.put o.dst v)) : wpPre3 P ops C R ((i, false) :: l) a :=
  ⟨o, v, by simpa using ho, .inl ⟨by simp [Region.wanted, hg], fun w hw => hr w (by simpa using hw)⟩, h⟩
theorem wpTail3_nil {a : Act} {w : World} (h : Q .normal a w) : wpTail3 P ops C N Q [] a w := h
/-- At an operation of the rest; it keeps the class. -/
theorem wpTail3_cons {a : Act} {w : World} {i : Nat} {l : List Nat} {o : Oper} (ho : ops.toList[i]? = some o) (hg : o.guard = none)
    (h : ∀ K : Act → World → Prop, (∀ a' w', (C w → C w') ∧ wpTail3 P ops C N Q l a' w' → K a' w') → o.wp P a w K Q) : wpTail3 P ops C N Q (i :: l) a w := by
  have ho' : ops[i]? = some o := by simpa using ho
  unfold wpTail3 wpOp
  simp only [ho']
  rw [if_pos (by simp [Region.wanted, hg])]
  exact .inl (h _ (fun _ _ h => ⟨fun _ => h.1, h.2⟩))
/-- One that waits for all reads. -/
theorem wpTail3_last {a : Act} {w : World} {i : Nat} {l : List Nat} {o : Oper} (hn : N i = false) (ho : ops.toList[i]? = some o) (hg : o.guard = none)
    (h : ∀ K : Act → World → Prop, (∀ a w, wpTail3 P ops C N Q l a w → K a w) → o.wp P a w K Q) : wpTail3 P ops C N Q (i :: l) a w := by
  have ho' : ops[i]? = some o := by simpa using ho
  unfold wpTail3 wpOp
  simp only [ho']
  rw [if_pos (by simp [Region.wanted, hg])]
  exact .inl (h _ (fun _ _ h => ⟨fun hh => (by rw [hn] at hh; cases hh), h⟩))
end
end Go.Proofs.YtdpfohgkikjeaaaGreat
/- Regions that draw, a fourth time: behind the reads whatever may come up, one by one, by hand. -/
namespace Go.Proofs.YtdpfohgkikjeaaaGreat
open Go.RowKit
set_option linter.unusedVariables false
set_option linter.unusedSimpArgs false

section
variable {P : Program} {ops : Array Oper} {Q : Exit → Act → World → Prop} {md : Region.Mode} {C : World → Prop} {N : Nat → Bool}

def listAll (l : List Nat) (listed : Array Bool) : Array Bool := l.foldl (fun s i => s.setIfInBounds i true) listed

def preOnly (md : Region.Mode) (ops : Array Oper) : List Nat → Array Bool → Bool
  | [], _ => true
  | i :: l, listed => (Region.ready md ops listed).contains i && Region.free md ops listed i && preOnly md ops l (listed.setIfInBounds i true)

theorem wpGo3_pre' (hs : Region.noSelect ops = true) (hQ : ∀ c a d v w, Q (.panic c) (Act.put a d v) w → Q (.panic c) a w) (fuel : Nat) : ∀ (p : List (Nat × Bool)), (∀ i ∈ p, i.2 = false → Waits3 md ops N i.1) → ∀ (listed : Array Bool) (a : Act) (w : World), Closed md ops listed → C w →
    preOnly md ops (p.map (·.1)) listed = true → wpPre3 P ops C (fun a' => wpGo3 P md ops C N Q fuel (listAll (p.map (·.1)) listed) a' w) p a → wpGo3 P md ops C N Q (p.length + fuel) listed a w
  | [], _, listed, a, w, hcl, hC, hB, h => by
    simp only [List.length_nil, Nat.zero_add]
    exact h
  | i :: p, hW, listed, a, w, hcl, hC, hB, h => by
    simp only [List.map_cons, preOnly, Bool.and_eq_true] at hB
    obtain ⟨⟨hr, hf⟩, hB'⟩ := hB
    obtain ⟨o, v, ho, hy, hK⟩ := h
    have e : (i :: p).length + fuel = (p.length + fuel) + 1 := by simp; omega
    have hr' : i.1 ∈ Region.ready md ops listed := by simpa using hr
    rw [e]
    exact wpGo3_first i.2 ho (Region.noSelect_spec hs) (hW i (by simp)) (fun c a w => hQ c a _ _ w) _ listed a w hcl (fun _ => hC) (Region.free_spec ho hf) hr' hy
      (wpGo3_pre' hs hQ fuel p (fun k hk => hW k (by simp [hk])) _ _ w (hcl.step hr') hC hB' hK)

theorem wp_region4 {id : Nat} {a : Act} {w : World} (C : World → Prop) (p : List (Nat × Bool)) (fuel : Nat) (hm : P.follows .mixedOrders = true) (hB : (Region.noSelect ops && (p.length + fuel == ops.size) && preOnly .any ops (p.map (·.1)) (Array.replicate ops.size false)) = true)
    (hQ : ∀ c a d v w, Q (.panic c) (Act.put a d v) w → Q (.panic c) a w) (hC : C w.drew)
    (h : wpPre3 P ops C (fun a' => wpGo3 P .any ops C (needB3 .any ops p) Q fuel (listAll (p.map (·.1)) (Array.replicate ops.size false)) a' w.drew) p a) : (Code.region id ops true).wp P Q a w := by
  simp only [Bool.and_eq_true, beq_iff_eq] at hB
  obtain ⟨⟨hs, hl⟩, hB⟩ := hB
  refine wp_region_any hm (wpAny_of_go3 (C := C) (N := needB3 .any ops p) _ _ _ _ ?_)
  have hW : ∀ i ∈ p, i.2 = false → Waits3 .any ops (needB3 .any ops p) i.1 := fun i hi h2 j hj => by
    unfold needB3 at hj
    simp only [Bool.not_eq_false'] at hj
    have := List.all_eq_true.1 hj i hi
    rw [h2] at this
    simpa using this
  have hg := wpGo3_pre' hs hQ fuel p hW _ a w.drew closed_start hC hB h
  rw [hl] at hg
  exact hg

/-- One operation, whatever comes behind it. -/
def OpTo (P : Program) (ops : Array Oper) (C : World → Prop) (Q : Exit → Act → World → Prop) (i : Nat) (a : Act) (w : World) (K : Act → World → Prop) : Prop :=
  ∃ o, ops.toList[i]? = some o ∧ o.guard = none ∧ ∀ K' : Act → World → Prop, (∀ a' w', (C w → C w') ∧ K a' w' → K' a' w') → o.wp P a w K' Q

theorem OpTo.wpOp {i : Nat} {a : Act} {w : World} {K : Act → World → Prop} (h : OpTo P ops C Q i a w K) : wpOp P ops Q i (fun a' w' => (N i = true → C w → C w') ∧ K a' w') a w := by
  obtain ⟨o, ho, hg, h⟩ := h
  have ho' : ops[i]? = some o := by simpa using ho
  unfold Go.wpOp
  simp only [ho']
  rw [if_pos (by simp [Region.wanted, hg])]
  exact .inl (h _ (fun _ _ h => ⟨fun _ => h.1, h.2⟩))

theorem OpTo.mk {i : Nat} {a : Act} {w : World} {K : Act → World → Prop} {o : Oper} (ho : ops.toList[i]? = some o) (hg : o.guard = none) (h : ∀ K' : Act → World → Prop, (∀ a' w', (C w → C w') ∧ K a' w' → K' a' w') → o.wp P a w K' Q) : OpTo P ops C Q i a w K := ⟨o, ho, hg, h⟩

theorem wpGo3_nil {listed : Array Bool} {a : Act} {w : World} (hr : Region.ready md ops listed = []) (h : Q .normal a w) : wpGo3 P md ops C N Q 0 listed a w := ⟨hr, h⟩
theorem wpGo3_one {fuel : Nat} {listed : Array Bool} {a : Act} {w : World} (i : Nat) (hr : Region.ready md ops listed = [i]) (h : OpTo P ops C Q i a w (wpGo3 P md ops C N Q fuel (listed.setIfInBounds i true))) : wpGo3 P md ops C N Q (fuel + 1) listed a w :=
  ⟨fun h0 => (by rw [h0] at hr; cases hr), fun k hk => by
    rw [hr] at hk
    simp only [List.mem_cons, List.not_mem_nil, or_false] at hk
    subst hk
    exact h.wpOp⟩
theorem wpGo3_two {fuel : Nat} {listed : Array Bool} {a : Act} {w : World} (i j : Nat) (hr : Region.ready md ops listed = [i, j]) (h : OpTo P ops C Q i a w (wpGo3 P md ops C N Q fuel (listed.setIfInBounds i true))) (h' : OpTo P ops C Q j a w (wpGo3 P md ops C N Q fuel (listed.setIfInBounds j true))) : wpGo3 P md ops C N Q (fuel + 1) listed a w :=
  ⟨fun h0 => (by rw [h0] at hr; cases hr), fun k hk => by
    rw [hr] at hk
    simp only [List.mem_cons, List.not_mem_nil, or_false] at hk
    rcases hk with rfl | rfl
    · exact h.wpOp
    · exact h'.wpOp⟩
end
end Go.Proofs.YtdpfohgkikjeaaaGreat
/- Rows of acts. -/
namespace Go.Proofs.YtdpfohgkikjeaaaGreat
open Go.RowKit
set_option linter.unusedVariables false
set_option linter.unusedSimpArgs false

abbrev PAct.val (a : PAct) : Value := .agg #[.int .i64 (a.kind : Int), .int .i64 (a.at_ : Int), .string ⟨a.data.toArray⟩]
def actCells (a : PAct) : List Value := [.int .i64 (a.kind : Int), .int .i64 (a.at_ : Int), .string ⟨a.data.toArray⟩]
def actsCells (l : List PAct) : List Value := (l.map actCells).flatten
theorem actsCells_length (l : List PAct) : (actsCells l).length = l.length * 3 := by
  induction l with
  | nil => rfl
  | cons a l ih =>
    have e : actsCells (a :: l) = actCells a ++ actsCells l := rfl
    rw [e, List.length_append, ih]; simp [actCells]; omega
theorem actsCells_append (a b : List PAct) : actsCells (a ++ b) = actsCells a ++ actsCells b := by simp [actsCells]
theorem actsCells_one (l : List PAct) : ∀ u ∈ actsCells l, u.oneCell' = true := by
  intro u hu
  simp only [actsCells, List.mem_flatten, List.mem_map] at hu
  obtain ⟨_, ⟨a, _, rfl⟩, hu⟩ := hu
  simp only [actCells, List.mem_cons, List.not_mem_nil, or_false] at hu
  rcases hu with rfl | rfl | rfl <;> rfl

abbrev actT : TypeId := 80
theorem tyA : SliceTy Tryz.prog 97 actT 3 32 := SliceTy.mk' (z := .agg #[.int .i64 0, .int .i64 0, .string ⟨#[]⟩]) (by kernel_rfl) (by kernel_rfl) rfl (by decide)

/-- A slice that owns these acts. -/
abbrev ActsRow (w : World) (v : Value) (l : List PAct) : Prop := Row w actT 3 v l.length (actsCells l)
theorem ActsRow.nil (w : World) : ActsRow w (.slice none 0 0) [] := ⟨rfl, .inl ⟨rfl, rfl⟩⟩

theorem wpList_acts {w : World} {ops : Array Oper} {rest : List Oper} {o : Oper} {a : Act} {Q : Exit → Act → World → Prop} (hgd : o.guard = none) (s x : Operand) (ho : o.op = .call { callee := .builtin .append, args := #[s, x], argTypes := #[97, 97] })
    (v : Value) (l : List PAct) (hs : a.eval s = v) (hown : ActsRow w v l) (g m c : Nat) (news : List PAct) (hx : a.eval x = .slice (some ⟨g, 0, none⟩) m c) (hl : news.length = m) (hg : w.heap[g]? = some (.cells (actsCells news).toArray actT (0, 0))) (hn : l.length + m ≤ 1000000)
    (h : ∀ v' w', ActsRow w' v' (l ++ news) → Grew w w' v v' → wpList Tryz.prog ops Q rest (a.put o.dst v') w') : wpList Tryz.prog ops Q (o :: rest) a w := by
  refine wpList_app hgd s x 97 ho tyA v l.length (actsCells l) hs hown g 0 m c (actsCells news) hx (by rw [actsCells_length, hl]) (fun j u hj => ?_) (actsCells_one _) (by omega) (by omega) (fun v' w' hr hg => h v' w' ?_ hg)
  · rw [cells_of' hg]; simpa using hj
  · show Row w' actT 3 v' (l ++ news).length (actsCells (l ++ news))
    rw [List.length_append, hl, actsCells_append]; exact hr

theorem wp_acts {w : World} {o : Oper} {a : Act} {Q : Exit → Act → World → Prop} {K : Act → World → Prop} (s x : Operand) (ho : o.op = .call { callee := .builtin .append, args := #[s, x], argTypes := #[97, 97] })
    (v : Value) (l : List PAct) (hs : a.eval s = v) (hown : ActsRow w v l) (g m c : Nat) (news : List PAct) (hx : a.eval x = .slice (some ⟨g, 0, none⟩) m c) (hl : news.length = m) (hg : w.heap[g]? = some (.cells (actsCells news).toArray actT (0, 0))) (hn : l.length + m ≤ 1000000)
    (h : ∀ v' w', ActsRow w' v' (l ++ news) → Grew w w' v v' → K (a.put o.dst v') w') : o.wp Tryz.prog a w K Q := by
  obtain ⟨v', w', hr, h2, h3, _⟩ := run_app tyA o.type w v l.length (actsCells l) hown g 0 m c (actsCells news) (by rw [actsCells_length, hl]) (fun j u hj => by rw [cells_of' hg]; simpa using hj) (actsCells_one _) (by omega) (by omega)
  unfold Oper.wp execOp
  simp only [ho, resolve, invoke, builtin, Sem.run_bind, Sem.run_pure, Result.andThen_ok, List.map_toArray, List.map_cons, List.map_nil, hs, hx, hr]
  refine h v' w' ?_ h3
  show Row w' actT 3 v' (l ++ news).length (actsCells (l ++ news))
  rw [List.length_append, hl, actsCells_append]; exact h2

theorem pad_full {l : Str} (h : l.length = 64) : pad l = l := by simp [pad, h, zs]

theorem settle_act (w : World) : Calls Tryz.prog 117 #[] w fun e w' => e = .returned pSettle.val ∧ Kept no w w' := settle_any w
theorem write_act (p : Nat) (pI : Int) (hp : pI = (p : Int)) (s : Str) (w : World) (hs : s.length ≤ 64) : Calls Tryz.prog 119 #[.int .i64 pI, .string ⟨s.toArray⟩] w fun e w' => e = .returned (pWrite p s).val ∧ Kept no w w' := by
  subst hp
  refine (write_any p ⟨s.toArray⟩ w (by simpa [ByteArray.size] using hs)).mono ?_
  rintro e w' ⟨rfl, hk⟩
  exact ⟨rfl, hk⟩
theorem blot_act (h : Nat) (hI : Int) (hh : hI = (h : Int)) (w : World) (h1 : h ≤ 1) : Calls Tryz.prog 118 #[.int .i64 hI] w fun e w' => e = .returned (pWrite (40 * h) []).val ∧ Kept no w w' := by
  subst hh
  refine (blot_any h w (by omega) (by omega)).mono ?_
  rintro e w' ⟨rfl, hk⟩
  refine ⟨?_, hk⟩
  have e : (h : Int) * 40 = ((40 * h : Nat) : Int) := by omega
  rw [e]; rfl
end Go.Proofs.YtdpfohgkikjeaaaGreat

/- Part 21 of the proof: see its parts. -/
import Derived.Deep.QuietTactic
import Derived.Test.YtdpfohgkikjeaaaGreatU20
/- Do: a Write. -/
namespace Go.Proofs.YtdpfohgkikjeaaaGreat
open Go.RowKit
set_option linter.unusedVariables false
set_option linter.unusedSimpArgs false

/-- What is known of a sector in memory. -/
theorem DiskAt.sec {w b d vs vals bl} (h : DiskAt w b d vs vals bl) {p : Nat} {l : List Str} (hl : d.sw[p]? = some l) : ∃ g c g2 o2 c2, vs = .slice (some ⟨g, 0, none⟩) vals.length c ∧ p < vals.length ∧ vals.length ≤ c ∧ c ≤ 9223372036854775807 ∧ g ≠ b ∧ g < w.heap.size ∧ w.cell? ⟨g, p, none⟩ = some (.slice (some ⟨g2, o2, none⟩) l.length c2) ∧ g2 ∈ bl ∧ g2 < w.heap.size ∧ l.length ≤ c2 ∧ c2 ≤ 9223372036854775807 ∧ StrsAt w g2 o2 l := by
  have hlen := h.len
  have hp : p < d.sw.length := (List.getElem?_eq_some_iff.1 hl).1
  obtain ⟨g, c, hvs, hc1, hc2⟩ : ∃ g c, vs = .slice (some ⟨g, 0, none⟩) vals.length c ∧ vals.length ≤ c ∧ c ≤ maxLen := by
    rcases h.row.shape with ⟨_, h1, _⟩ | ⟨g, c, hv, h1, h2⟩
    · omega
    · exact ⟨g, c, hv, h1, h2⟩
  have hv : vals[p]? = some (vals[p]'(by omega)) := by simp [show p < vals.length by omega]
  obtain ⟨g2, o2, c2, hv2, hg2, h21, h22, hs2⟩ := h.secs p _ l hv hl
  rw [hv2] at hv
  have hrow := h.row
  rw [hvs] at hrow
  have hcell := hrow.cell
  refine ⟨g, c, g2, o2, c2, hvs, by omega, hc1, by unfold maxLen at hc2; omega, fun e => h.b_vs (by rw [hvs, fpv_some, ← e]; simp), h.row.lt g (by rw [hvs, fpv_some]; simp), hcell.2.2.2 p _ hv, hg2, h.low g2 hg2, h21, by unfold maxLen at h22; omega, hs2⟩

/-- A row one cell of which is turned. -/
theorem Row.put {w : World} {e : TypeId} {g n c : Nat} {xs : List Value} (h : Row w e 1 (.slice (some ⟨g, 0, none⟩) n c) n xs) {p : Nat} (hp : p < n) (u : Value) : Row (w.setCell ⟨g, p, none⟩ u) e 1 (.slice (some ⟨g, 0, none⟩) n c) n (xs.set p u) := by
  have hl := h.len
  rcases h.2 with ⟨h0, _⟩ | ⟨g', cap, cur, hv, hg0, hh, h1, h2, h3, h4⟩
  · cases h0
  · simp only [Value.slice.injEq, Option.some.injEq, Addr.mk.injEq, and_true, true_and] at hv
    obtain ⟨rfl, rfl⟩ := hv
    refine ⟨by simp [hl], .inr ⟨g, c, cur.setIfInBounds p u, rfl, hg0, heap_set_same hh, h1, h2, by simpa using h3, ?_⟩⟩
    rw [← h4, Array.toList_setIfInBounds, Nat.mul_one]
    rw [List.take_set]

theorem Row.heap {w : World} {e : TypeId} {g n c : Nat} {xs : List Value} (h : Row w e 1 (.slice (some ⟨g, 0, none⟩) n c) n xs) : ∃ cur : Array Value, w.heap[g]? = some (.cells cur e (0, 0)) ∧ n ≤ cur.size := by
  rcases h.2 with ⟨h0, _⟩ | ⟨g', cap, cur, hv, hg0, hh, h1, h2, h3, h4⟩
  · cases h0
  · simp only [Value.slice.injEq, Option.some.injEq, Addr.mk.injEq, and_true, true_and] at hv
    obtain ⟨rfl, rfl⟩ := hv
    exact ⟨cur, hh, by omega⟩

theorem DiskAt.put {w w4 : World} {b d vs vals bl} (h : DiskAt w b d vs vals bl) (hk : Kept no w w4) {p g c : Nat} (hvs : vs = .slice (some ⟨g, 0, none⟩) vals.length c) (hp : p < vals.length) {v2 : Value} {l2 : List Str} {bl2 : List Nat}
    (hs : SecAt w4 v2 l2 bl2) (hsub : ∀ x ∈ bl, x ∈ bl2) (hlow : ∀ x ∈ bl2, x < w4.heap.size) (hap : ∀ x ∈ bl2, x ≠ b ∧ x ≠ g) :
    DiskAt (w4.setCell ⟨g, p, none⟩ v2) b { d with sw := d.sw.set p l2 } vs (vals.set p v2) bl2 := by
  have hf : fpv vs = [g] := by rw [hvs]; exact fpv_some
  have hbg : b ≠ g := fun e => h.b_vs (by rw [hf, e]; simp)
  have h4 := h.kept hk (fun _ _ h => h)
  have hks : Kept (fun x => x = g) w4 (w4.setCell ⟨g, p, none⟩ v2) := Kept.cell1
  have hlen := h.len
  refine ⟨?_, ?_, by simp [hlen], ?_, fun x hx => Nat.lt_of_lt_of_le (hlow x hx) hks.size, h.b_vs, fun hx => (hap b hx).1 rfl, fun x hx hx2 => ?_⟩
  · exact hks.get h4.cells hbg
  · have hrow := h4.row
    rw [hvs] at hrow ⊢
    have := hrow.put hp v2
    rw [List.length_set]
    exact this
  · intro i v l hv hl
    by_cases e : i = p
    · subst e
      have h1 : v2 = v := by
        rw [List.getElem?_set_self hp] at hv; exact Option.some.inj hv
      have h2 : l2 = l := by
        rw [List.getElem?_set_self (by omega)] at hl; exact Option.some.inj hl
      subst h1; subst h2
      exact hs.kept hks hlow (fun x hx => (hap x hx).2)
    · rw [List.getElem?_set_ne (Ne.symm e)] at hv
      rw [List.getElem?_set_ne (Ne.symm e)] at hl
      exact ((h4.secs i v l hv hl).mono hsub).kept hks hlow (fun x hx => (hap x hx).2)
  · rw [hf] at hx
    simp only [List.mem_cons, List.not_mem_nil, or_false] at hx
    exact (hap x hx2).2 hx

theorem wp_app1 {P : Program} {w : World} {o : Oper} {a : Act} {Q : Exit → Act → World → Prop} {K : Act → World → Prop} (s x : Operand) (t : TypeId) (ho : o.op = .call { callee := .builtin .append, args := #[s, x], argTypes := #[t, t] })
    {e : TypeId} {bytes : Nat} (T : SliceTy P t e 1 bytes) (v : Value) (n : Nat) (xs : List Value) (hs : a.eval s = v) (hown : Row w e 1 v n xs)
    (g off m c : Nat) (news : List Value) (hx : a.eval x = .slice (some ⟨g, off, none⟩) m c) (hl : news.length = m) (hu : ∀ j u, news[j]? = some u → w.cell? ⟨g, off + j, none⟩ = some u) (h1 : ∀ u ∈ news, u.oneCell' = true) (hb : bytes ≤ 16) (hn : n + m ≤ 8000000000000)
    (h : ∀ v' w', Row w' e 1 v' (n + m) (xs ++ news) → Grew w w' v v' → K (a.put o.dst v') w') : o.wp P a w K Q := by
  obtain ⟨v', w', hr, h2, h3, _⟩ := run_app T o.type w v n xs hown g off m c news (by omega) hu h1 (by
    have : (n + m) * bytes ≤ 8000000000000 * 16 := Nat.mul_le_mul (by omega) hb
    omega) (by omega)
  unfold Oper.wp execOp
  simp only [ho, resolve, invoke, builtin, Sem.run_bind, Sem.run_pure, Result.andThen_ok, List.map_toArray, List.map_cons, List.map_nil, hs, hx, hr]
  exact h v' w' h2 h3

theorem wp_push16 {P : Program} {w : World} {o : Oper} {a : Act} {Q : Exit → Act → World → Prop} {K : Act → World → Prop} (s x : Operand) (t : TypeId) (ho : o.op = .call { callee := .builtin .append, args := #[s, x], argTypes := #[t, t] })
    {e : TypeId} {bytes : Nat} (T : SliceTy P t e 1 bytes) (v : Value) (n : Nat) (xs : List Value) (hs : a.eval s = v) (hown : Row w e 1 v n xs)
    (g c : Nat) (u : Value) (hx : a.eval x = .slice (some ⟨g, 0, none⟩) 1 c) (hu : w.cell? ⟨g, 0, none⟩ = some u) (h1 : u.oneCell' = true) (hb : bytes ≤ 16) (hn : n ≤ 8000000000000)
    (h : ∀ v' w', Row w' e 1 v' (n + 1) (xs ++ [u]) → Grew w w' v v' → K (a.put o.dst v') w') : o.wp P a w K Q := by
  obtain ⟨v', w', hr, h2, h3, _⟩ := run_app T o.type w v n xs hown g 0 1 c [u] rfl (fun j u' hj => by
    match j, hj with
    | 0, hj => simp at hj; subst hj; simpa using hu) (fun u' hu' => by simp at hu'; subst hu'; exact h1) (by
    have : (n + 1) * bytes ≤ 8000000000001 * 16 := Nat.mul_le_mul (by omega) hb
    omega) (by omega)
  unfold Oper.wp execOp
  simp only [ho, resolve, invoke, builtin, Sem.run_bind, Sem.run_pure, Result.andThen_ok, List.map_toArray, List.map_cons, List.map_nil, hs, hx, hr]
  exact h v' w' h2 h3

theorem tyStr : SliceTy Tryz.prog 34 9 1 16 := SliceTy.mk' (z := .string ⟨#[]⟩) (by kernel_rfl) (by kernel_rfl) rfl (by decide)

set_option maxRecDepth 100000 in
set_option maxHeartbeats 2000000 in
theorem do_write {w b d vs vals bl} (h : DiskAt w b d vs vals bl) (p : Nat) (s : Str) (l : List Str) (hl : d.sw[p]? = some l) (hN : l.length ≤ 8000000000000) (hne : l ≠ []) :
    Calls Tryz.prog 44 #[.pointer (some ⟨b, 0, none⟩), .agg #[.int .i64 1, .int .i64 (p : Int), sv s]] w fun e w' => e = .returned (.tuple #[]) ∧ DiskTo w w' b (b :: (fpv vs ++ bl)) { d with sw := d.sw.set p (l ++ [s]) } := by
  obtain ⟨g, c, g2, o2, c2, hvs, hpv, hc1, hc2, hgb, hgl, hcp, hg2, hg2l, h21, h22, hs2⟩ := h.sec hl
  have hbw : b < w.heap.size := lt_of_heap h.cells
  have hln : 0 < l.length := List.length_pos_iff.2 hne
  generalize hn : vals.length = n at *
  go_enter Tryz.func44, Tryz.ntmps44
  go_wp2_with fail
  obtain ⟨hn1, hsz1, hk1⟩ := new1 w (Obj.cells #[.int .i64 1, .int .i64 (p : Int), sv s] 80)
  have hb1 := hk1.get h.cells (fun h => h)
  have hcp1 := hk1.read hcp (fun h => h)
  have hs21 := hs2.kept hk1 (fun h => h)
  generalize hA : w.heap.size = A at *
  generalize w.alloc (Obj.cells #[.int .i64 1, .int .i64 (p : Int), sv s] 80) = w1 at *
  obtain ⟨hcb, hfb⟩ := cells_of hb1
  obtain ⟨hca, hfa⟩ := cells_of hn1
  rw [hvs] at hcb
  have h0 : (0 : Int) ≤ (p : Int) := by omega
  go_quiet (fail)
  go_wp2_with fail
  have hkn : Kept no w1 (w1.drewN nq) := (Kept.refl _ _).drewN _
  have hB0 : ∀ W, Kept no w1 W → W.cell? ⟨b, 0, none⟩ = some (.slice (some ⟨g, 0, none⟩) n c) := fun W hW => hW.read (by rw [hcb]; rfl) (fun h => h)
  have hA1 : ∀ W, Kept no w1 W → W.cell? ⟨A, 1, none⟩ = some (.int .i64 (p : Int)) := fun W hW => hW.read (by rw [hca]; rfl) (fun h => h)
  have hgp : ∀ W, Kept no w1 W → W.cell? ⟨g, p, none⟩ = some (.slice (some ⟨g2, o2, none⟩) l.length c2) := fun W hW => hW.read hcp1 (fun h => h)
  refine wp_region3 (fun W => Kept no w1 W) [(0, true), (1, true), (2, true), (3, true), (4, false), (5, true), (6, false), (7, true), (8, false)] [9, 10] (by kernel_rfl) (by kernel_rfl) (fun _ _ d _ _ h => by cases d <;> exact h) hkn.drew ?_
  repeat ((first | refine wpPre3_pure rfl rfl (fun W => (by go_simp; rfl)) ?_ | refine wpPre3_read rfl rfl (fun W hW => (by have h1 := hB0 W hW; have h2 := hA1 W hW; have h3 := hgp W hW; go_simp; rfl)) ?_); simp only [Act.put, List.setIfInBounds_toArray, List.set])
  refine wpPre3_nil ?_
  have hk12 : Kept no w1 (w1.drewN nq).drew := hkn.drew
  generalize (w1.drewN nq).drew = w2 at hk12 ⊢
  clear hkn hca hfa hcb hfb
  have hs22 := hs21.kept hk12 (fun h => h)
  refine wpTail3_last (by kernel_rfl) rfl rfl (fun K hK => ?_)
  refine wp_app1 _ _ 34 rfl tyStr (.slice none 0 0) 0 [] rfl ⟨rfl, .inl ⟨rfl, rfl⟩⟩ g2 o2 l.length c2 (l.map sv) rfl (by simp) (fun j u hu => ?_) (fun u hu => ?_) (by decide) (by omega) ?_
  · simp only [List.getElem?_map, Option.map_eq_some_iff] at hu
    obtain ⟨x, hx, rfl⟩ := hu
    exact hs22 j x hx
  · simp only [List.mem_map] at hu
    obtain ⟨x, _, rfl⟩ := hu
    rfl
  intro v3 w3 hr3 hG3
  rw [Nat.zero_add, List.nil_append] at hr3
  refine hK _ _ ?_
  clear hK
  have hk23 : Kept no w2 w3 := hG3.1.mono (fun i hi _ => by simp [fpv_nil] at hi)
  have hk13 := hk12.step hk23
  have hv3 : ∀ x ∈ fpv v3, w2.heap.size ≤ x := fun x hx => by
    rcases hG3.2 x hx with hx | hx
    · simp [fpv_nil] at hx
    · exact hx
  have hs12 := hk12.size
  obtain ⟨g3, c3, rfl, hc31, hc32⟩ : ∃ g3 c3, v3 = .slice (some ⟨g3, 0, none⟩) l.length c3 ∧ l.length ≤ c3 ∧ c3 ≤ maxLen := by
    rcases hr3.shape with ⟨_, h1, _⟩ | ⟨g, c, hv, h1, h2⟩
    · omega
    · exact ⟨g, c, hv, h1, h2⟩
  have hg3 := hv3 g3 (by simp [fpv_some])
  refine wpTail3_last (by kernel_rfl) rfl rfl (fun K hK => ?_)
  go_wp2_with fail
  refine wpTail3_nil ?_
  go_wp2_with fail
  have hB0 : ∀ W, Kept (fun x => x = g3) w3 W → W.cell? ⟨b, 0, none⟩ = some (.slice (some ⟨g, 0, none⟩) n c) := fun W hW => hW.read (hB0 w3 hk13) (fun e => by omega)
  have hA1 : ∀ W, Kept (fun x => x = g3) w3 W → W.cell? ⟨A, 1, none⟩ = some (.int .i64 (p : Int)) := fun W hW => hW.read (hA1 w3 hk13) (fun e => by omega)
  have hA2 : ∀ W, Kept (fun x => x = g3) w3 W → W.cell? ⟨A, 2, none⟩ = some (sv s) := fun W hW => hW.read (hk13.read (v := sv s) (by rw [(cells_of hn1).1]; rfl) (fun h => h)) (fun e => by omega)
  refine wp_region3 (fun W => Kept (fun x => x = g3) w3 W) [(0, true), (1, true), (2, true), (3, false), (4, true), (5, false), (6, true), (7, true), (8, false)] [9, 10, 11, 12] (by kernel_rfl) (by kernel_rfl) (fun _ _ d _ _ h => by cases d <;> exact h) ((Kept.refl _ _).drew) ?_
  repeat ((first | refine wpPre3_pure rfl rfl (fun W => (by go_simp; rfl)) ?_ | refine wpPre3_read rfl rfl (fun W hW => (by have h1 := hB0 W hW; have h2 := hA1 W hW; have h3 := hA2 W hW; go_simp; rfl)) ?_); simp only [Act.put, List.setIfInBounds_toArray, List.set])
  refine wpPre3_nil ?_
  have hk34 : Kept no w3 w3.drew := (Kept.refl _ _).drew
  have hr4 : Row w3.drew 9 1 (.slice (some ⟨g3, 0, none⟩) l.length c3) l.length (l.map sv) := hr3.drew
  generalize w3.drew = w4 at hk34 hr4 ⊢
  have hs34 := hk34.size
  have hs23 := hk23.size
  refine wpTail3_cons rfl rfl (fun K hK => ?_)
  go_wp2_with fail
  obtain ⟨hn5, hsz5, hk5⟩ := new1 w4 (Obj.cells #[sv s] 9)
  refine ⟨fun h => h.alloc _, ?_⟩
  generalize hG5 : w4.heap.size = G5 at hn5 hsz5 ⊢
  generalize w4.alloc (Obj.cells #[sv s] 9) = w5 at hn5 hsz5 hk5 ⊢
  refine wpTail3_cons rfl rfl (fun K hK => ?_)
  refine wp_push16 _ _ 34 rfl tyStr (.slice (some ⟨g3, 0, none⟩) l.length c3) _ _ rfl (hr4.kept hk5 (fun _ _ h => h)) G5 1 (sv s) rfl (by rw [(cells_of hn5).1]; rfl) rfl (by decide) (by omega) ?_
  intro v6 w6 hr6 hG6
  refine hK _ _ ⟨fun hh => hh.step (hG6.1.mono (fun i hi _ => by rw [fpv_some] at hi; simpa using hi)), ?_⟩
  clear hK
  have hk15 : Kept no w1 w5 := (hk13.step hk34).step hk5
  have hk16 : Kept no w1 w6 := hk15.step' hG6.1 (fun i hi hlt => by rw [fpv_some] at hi; simp at hi; omega)
  have hk06 : Kept no w w6 := hk1.step hk16
  have hrow6 := (h.kept hk06 (fun _ _ h => h)).row
  have hput := fun v2 l2 bl2 hs h1 h2 h3 => h.put (v2 := v2) (l2 := l2) (bl2 := bl2) hk06 (p := p) (g := g) (c := c) (by rw [hn]; exact hvs) (by omega) hs h1 h2 h3
  rw [hn, hvs] at hrow6
  obtain ⟨cur, hcur, hcs⟩ := hrow6.heap
  obtain ⟨hcg, hfg⟩ := cells_of hcur
  have hcg2 : w6.cell? ⟨g, p, none⟩ = some (cur[p]'(by omega)) := by rw [hcg]; simp [show p < cur.size by omega]
  have hfg2 := hfg p
  have hv6 := hr6.lt
  have hr6s := hr6.shape
  obtain ⟨g6, c6, rfl, hc61, hc62⟩ : ∃ g6 c6, v6 = .slice (some ⟨g6, 0, none⟩) (l.length + 1) c6 ∧ l.length + 1 ≤ c6 ∧ c6 ≤ maxLen := by
    rcases hr6s with ⟨_, h1, _⟩ | ⟨g, c, hv, h1, h2⟩
    · omega
    · exact ⟨g, c, hv, h1, h2⟩
  have hg6 : A + 1 ≤ g6 := by
    have hs5 := hk5.size
    rcases hG6.2 g6 (by simp [fpv_some]) with hx | hx
    · rw [fpv_some] at hx; simp at hx; omega
    · omega
  have hg6l := hv6 g6 (by simp [fpv_some])
  clear hcg hfg hcur hr6s
  refine wpTail3_last (by kernel_rfl) rfl rfl (fun K hK => ?_)
  go_wp2_with fail
  refine wpTail3_last (by kernel_rfl) rfl rfl (fun K hK => ?_)
  go_wp2_with fail
  refine wpTail3_nil ?_
  go_wp2
  have hbl := h.low
  go_end0
  refine ⟨rfl, ⟨_, ⟨_, _, _, hput _ (l ++ [s]) (g6 :: bl) ⟨g6, 0, c6, by simp, by simp, by simpa using hc61, hc62, ?_⟩ (fun x hx => List.mem_cons_of_mem _ hx) ?_ ?_, rfl⟩, ?_⟩, ?_⟩
  · intro j x hx
    have hh := hr6.cell.2.2.2 j (sv x) (by
      have e : l.map sv ++ [sv s] = (l ++ [s]).map sv := by simp
      rw [e, List.getElem?_map, hx]; rfl)
    simpa using hh
  · intro x hx
    rcases List.mem_cons.1 hx with rfl | hx
    · exact hg6l
    · have := hbl x hx; have := hk06.size; omega
  · intro x hx
    rcases List.mem_cons.1 hx with rfl | hx
    · exact ⟨by omega, by omega⟩
    · exact ⟨fun e => h.b_bl (e ▸ hx), fun e => h.vs_bl g (by rw [hvs, fpv_some]; simp) (e ▸ hx)⟩
  · intro x hx
    simp only [List.mem_cons, List.mem_append] at hx ⊢
    rcases hx with rfl | hx | rfl | hx
    · exact .inl (.inl rfl)
    · exact .inl (.inr (.inl hx))
    · exact .inr (by omega)
    · exact .inl (.inr (.inr hx))
  · exact (hk06.mono (fun _ h _ => h.elim)).setCell (p := ⟨g, p, none⟩) (fun _ => by rw [hvs, fpv_some]; simp) _
end Go.Proofs.YtdpfohgkikjeaaaGreat
/- Do: what turns one cell of the disk. -/
namespace Go.Proofs.YtdpfohgkikjeaaaGreat
open Go.RowKit
set_option linter.unusedVariables false
set_option linter.unusedSimpArgs false

/-- The cells of a disk are turned, its sectors stay. -/
theorem DiskAt.store {w w' : World} {b d d' vs vals bl} (h : DiskAt w b d vs vals bl) (hk : Kept (fun x => x = b) w w') (hc : w'.heap[b]? = some (.cells (diskCells d' vs) diskT (0, 0))) (hsw : d'.sw = d.sw) : DiskAt w' b d' vs vals bl := by
  refine ⟨hc, h.row.kept hk (fun x hx e => h.b_vs (e ▸ hx)), by rw [hsw]; exact h.len, fun i v l hv hl => ?_, fun x hx => Nat.lt_of_lt_of_le (h.low x hx) hk.size, h.b_vs, h.b_bl, h.vs_bl⟩
  rw [hsw] at hl
  exact (h.secs i v l hv hl).kept hk h.low (fun x hx e => h.b_bl (e ▸ hx))

theorem DiskAt.to {w w' : World} {b d d' vs vals bl} (h : DiskAt w b d vs vals bl) (hk : Kept (fun x => x = b) w w') (hc : w'.heap[b]? = some (.cells (diskCells d' vs) diskT (0, 0))) (hsw : d'.sw = d.sw) : DiskTo w w' b (b :: (fpv vs ++ bl)) d' :=
  ⟨⟨_, ⟨_, _, _, h.store hk hc hsw, rfl⟩, fun x hx => .inl hx⟩, hk.mono (fun i e _ => by rw [e]; simp)⟩

set_option maxRecDepth 100000 in
set_option maxHeartbeats 1000000 in
theorem do_begin {w b d vs vals bl} (h : DiskAt w b d vs vals bl) :
    Calls Tryz.prog 44 #[.pointer (some ⟨b, 0, none⟩), .agg #[.int .i64 3, .int .i64 0, .string ⟨#[]⟩]] w fun e w' => e = .returned (.tuple #[]) ∧ DiskTo w w' b (b :: (fpv vs ++ bl)) { d with new := [], newSafe := 0 } := by
  have hbw : b < w.heap.size := lt_of_heap h.cells
  obtain ⟨hc, hf⟩ := cells_of h.cells
  have hb1 := (new1 w (Obj.cells #[.int .i64 3, .int .i64 0, .string ⟨#[]⟩] 80)).2.2.get h.cells (fun h => h)
  have hka := (new1 w (Obj.cells #[.int .i64 3, .int .i64 0, .string ⟨#[]⟩] 80)).2.2
  have hkb := hka.mono (T := fun x => x = b) (fun _ h _ => h.elim)
  go_enter Tryz.func44, Tryz.ntmps44
  go_wp2
  go_end0
  refine ⟨rfl, h.to ((Kept.cell1.step Kept.cell1).alloc _) ?_ rfl⟩
  rw [heap_alloc_lt (by simpa using hbw), heap_set_same (heap_set_same h.cells)]
  simp [diskCells]

set_option maxRecDepth 100000 in
set_option maxHeartbeats 1000000 in
theorem do_append {w b d vs vals bl} (h : DiskAt w b d vs vals bl) (s : Str) (hs : d.new.length + s.length ≤ 1099511627776) :
    Calls Tryz.prog 44 #[.pointer (some ⟨b, 0, none⟩), .agg #[.int .i64 4, .int .i64 0, sv s]] w fun e w' => e = .returned (.tuple #[]) ∧ DiskTo w w' b (b :: (fpv vs ++ bl)) { d with new := d.new ++ s } := by
  have hbw : b < w.heap.size := lt_of_heap h.cells
  obtain ⟨hc, hf⟩ := cells_of h.cells
  have hb1 := (new1 w (Obj.cells #[.int .i64 4, .int .i64 0, sv s] 80)).2.2.get h.cells (fun h => h)
  have hka := (new1 w (Obj.cells #[.int .i64 4, .int .i64 0, sv s] 80)).2.2
  have hkb := hka.mono (T := fun x => x = b) (fun _ h _ => h.elim)
  go_enter Tryz.func44, Tryz.ntmps44
  have hap := sv_append d.new s
  have hl2 : (d.new ++ s).length ≤ 1099511627776 := by rw [List.length_append]; exact hs
  go_wp2_with fail
  obtain ⟨hn1, hsz1, hk1⟩ := new1 w (Obj.cells #[.int .i64 4, .int .i64 0, sv s] 80)
  clear hka hkb
  generalize hA : w.heap.size = A at *
  generalize w.alloc (Obj.cells #[.int .i64 4, .int .i64 0, sv s] 80) = w1 at *
  have hB5 : ∀ W, Kept no w1 W → W.cell? ⟨b, 5, none⟩ = some (sv d.new) := fun W hW => hW.read (by rw [(cells_of hb1).1]; rfl) (fun h => h)
  have hA2 : ∀ W, Kept no w1 W → W.cell? ⟨A, 2, none⟩ = some (sv s) := fun W hW => hW.read (by rw [(cells_of hn1).1]; rfl) (fun h => h)
  refine wp_region3 (fun W => Kept no w1 W) [(0, true), (1, true), (2, true), (3, true), (4, false), (5, true), (6, false), (7, true)] [8, 9, 10] (by kernel_rfl) (by kernel_rfl) (fun _ _ d _ _ h => by cases d <;> exact h) ((Kept.refl _ _).drew) ?_
  repeat ((first | refine wpPre3_pure rfl rfl (fun W => (by go_simp; rfl)) ?_ | refine wpPre3_read rfl rfl (fun W hW => (by have h1 := hB5 W hW; have h2 := hA2 W hW; go_simp; rfl)) ?_); simp only [Act.put, List.setIfInBounds_toArray, List.set])
  refine wpPre3_pure rfl rfl (v := sv (d.new ++ s)) (fun W => ?_) ?_
  · go_simp
    omega
  simp only [Act.put, List.setIfInBounds_toArray, List.set]
  refine wpPre3_nil ?_
  have hk12 : Kept no w1 w1.drew := (Kept.refl _ _).drew
  generalize w1.drew = w2 at hk12 ⊢
  have hb2 := hk12.get hb1 (fun h => h)
  obtain ⟨hc2, hf2⟩ := cells_of hb2
  refine wpTail3_last (by kernel_rfl) rfl rfl (fun K hK => ?_)
  go_wp2_with fail
  refine wpTail3_last (by kernel_rfl) rfl rfl (fun K hK => ?_)
  go_wp2_with fail
  refine wpTail3_last (by kernel_rfl) rfl rfl (fun K hK => ?_)
  go_wp2_with fail
  refine wpTail3_nil ?_
  go_wp2
  go_end0
  refine ⟨rfl, h.to (((hk1.step hk12).mono (fun _ h _ => h.elim)).step Kept.cell1) ?_ rfl⟩
  rw [heap_set_same hb2]
  simp [diskCells]

set_option maxRecDepth 100000 in
set_option maxHeartbeats 1000000 in
theorem do_syncFile {w b d vs vals bl} (h : DiskAt w b d vs vals bl) :
    Calls Tryz.prog 44 #[.pointer (some ⟨b, 0, none⟩), .agg #[.int .i64 5, .int .i64 0, .string ⟨#[]⟩]] w fun e w' => e = .returned (.tuple #[]) ∧ DiskTo w w' b (b :: (fpv vs ++ bl)) { d with newSafe := d.new.length } := by
  have hbw : b < w.heap.size := lt_of_heap h.cells
  obtain ⟨hc, hf⟩ := cells_of h.cells
  have hb1 := (new1 w (Obj.cells #[.int .i64 5, .int .i64 0, .string ⟨#[]⟩] 80)).2.2.get h.cells (fun h => h)
  have hka := (new1 w (Obj.cells #[.int .i64 5, .int .i64 0, .string ⟨#[]⟩] 80)).2.2
  have hkb := hka.mono (T := fun x => x = b) (fun _ h _ => h.elim)
  go_enter Tryz.func44, Tryz.ntmps44
  go_wp2
  go_end0
  refine ⟨rfl, h.to (Kept.cell1.alloc _) ?_ rfl⟩
  rw [heap_alloc_lt (by simpa using hbw), heap_set_same h.cells]
  simp [diskCells]

set_option maxRecDepth 100000 in
set_option maxHeartbeats 1000000 in
theorem do_rename {w b d vs vals bl} (h : DiskAt w b d vs vals bl) :
    Calls Tryz.prog 44 #[.pointer (some ⟨b, 0, none⟩), .agg #[.int .i64 6, .int .i64 0, .string ⟨#[]⟩]] w fun e w' => e = .returned (.tuple #[]) ∧ DiskTo w w' b (b :: (fpv vs ++ bl)) { d with before := if d.renamed then d.before else d.file, renamed := true, file := d.new, safe := d.newSafe } := by
  have hbw : b < w.heap.size := lt_of_heap h.cells
  obtain ⟨hc, hf⟩ := cells_of h.cells
  have hb1 := (new1 w (Obj.cells #[.int .i64 6, .int .i64 0, .string ⟨#[]⟩] 80)).2.2.get h.cells (fun h => h)
  have hka := (new1 w (Obj.cells #[.int .i64 6, .int .i64 0, .string ⟨#[]⟩] 80)).2.2
  have hkb := hka.mono (T := fun x => x = b) (fun _ h _ => h.elim)
  go_enter Tryz.func44, Tryz.ntmps44
  cases hre : d.renamed with
  | true =>
    go_wp2
    go_end0
    refine ⟨rfl, h.to (((Kept.cell1.step Kept.cell1).step Kept.cell1).alloc _) ?_ rfl⟩
    rw [heap_alloc_lt (by simpa using hbw), heap_set_same (heap_set_same (heap_set_same h.cells))]
    simp [diskCells]
  | false =>
    have hD := h
    clear h
    go_wp2
    go_end0
    refine ⟨rfl, hD.to ((((Kept.cell1.step Kept.cell1).step Kept.cell1).step Kept.cell1).alloc _) ?_ rfl⟩
    rw [heap_alloc_lt (by simpa using hbw), heap_set_same (heap_set_same (heap_set_same (heap_set_same hD.cells)))]
    simp [diskCells]

set_option maxRecDepth 100000 in
set_option maxHeartbeats 1000000 in
theorem do_syncDir {w b d vs vals bl} (h : DiskAt w b d vs vals bl) :
    Calls Tryz.prog 44 #[.pointer (some ⟨b, 0, none⟩), .agg #[.int .i64 7, .int .i64 0, .string ⟨#[]⟩]] w fun e w' => e = .returned (.tuple #[]) ∧ DiskTo w w' b (b :: (fpv vs ++ bl)) { d with renamed := false } := by
  have hbw : b < w.heap.size := lt_of_heap h.cells
  obtain ⟨hc, hf⟩ := cells_of h.cells
  have hb1 := (new1 w (Obj.cells #[.int .i64 7, .int .i64 0, .string ⟨#[]⟩] 80)).2.2.get h.cells (fun h => h)
  have hka := (new1 w (Obj.cells #[.int .i64 7, .int .i64 0, .string ⟨#[]⟩] 80)).2.2
  have hkb := hka.mono (T := fun x => x = b) (fun _ h _ => h.elim)
  go_enter Tryz.func44, Tryz.ntmps44
  go_wp2
  go_end0
  refine ⟨rfl, h.to (Kept.cell1.alloc _) ?_ rfl⟩
  rw [heap_alloc_lt (by simpa using hbw), heap_set_same h.cells]
  simp [diskCells]

end Go.Proofs.YtdpfohgkikjeaaaGreat
/- Do: Sync. -/
namespace Go.Proofs.YtdpfohgkikjeaaaGreat
open Go.RowKit
set_option linter.unusedVariables false
set_option linter.unusedSimpArgs false

/-- The rows behind k Syncs of one sector each. -/
def syncTo (sw : List (List Str)) (k : Nat) : List (List Str) := (sw.take k).map (fun l => [lastOf l]) ++ sw.drop k
theorem syncTo_length (sw : List (List Str)) (k : Nat) : (syncTo sw k).length = sw.length := by simp [syncTo]; omega
theorem syncTo_zero (sw : List (List Str)) : syncTo sw 0 = sw := by simp [syncTo]
theorem syncTo_end (sw : List (List Str)) {k : Nat} (h : sw.length ≤ k) : syncTo sw k = sw.map fun l => [lastOf l] := by
  simp [syncTo, List.take_of_length_le h, List.drop_eq_nil_of_le h]
theorem syncTo_get (sw : List (List Str)) {k : Nat} {l : List Str} (h : sw[k]? = some l) : (syncTo sw k)[k]? = some l := by
  have hk := (List.getElem?_eq_some_iff.1 h).1
  unfold syncTo
  rw [List.getElem?_append_right (by simp; omega)]
  simp [Nat.min_eq_left (Nat.le_of_lt hk), h]
theorem syncTo_set (sw : List (List Str)) {k : Nat} {l : List Str} (h : sw[k]? = some l) : (syncTo sw k).set k [lastOf l] = syncTo sw (k + 1) := by
  have hk := (List.getElem?_eq_some_iff.1 h).1
  have hl := (List.getElem?_eq_some_iff.1 h).2
  unfold syncTo
  rw [List.set_append_right _ _ (by simp; omega)]
  have e : sw.drop k = l :: sw.drop (k + 1) := by rw [List.drop_eq_getElem_cons hk, hl]
  rw [e, List.take_succ_eq_append_getElem hk, hl]
  simp [Nat.min_eq_left (Nat.le_of_lt hk)]

set_option maxRecDepth 100000 in
set_option maxHeartbeats 2000000 in
theorem do_sync {w b d vs vals bl} (h : DiskAt w b d vs vals bl) (hne : ∀ r ∈ d.sw, r ≠ []) (hN : ∀ r ∈ d.sw, r.length ≤ 8000000000000) (hM : d.sw.length ≤ 8000000000000) :
    Calls Tryz.prog 44 #[.pointer (some ⟨b, 0, none⟩), .agg #[.int .i64 2, .int .i64 0, .string ⟨#[]⟩]] w fun e w' => e = .returned (.tuple #[]) ∧ DiskTo w w' b (b :: (fpv vs ++ bl)) { d with sw := d.sw.map fun l => [lastOf l] } := by
  have hbw : b < w.heap.size := lt_of_heap h.cells
  have hlen := h.len
  have hvs : ∃ pv c, vs = .slice pv vals.length c := by
    obtain ⟨pv, c, e⟩ := h.row.slice
    exact ⟨pv, c, e⟩
  obtain ⟨pv, c, hvs⟩ := hvs
  go_enter Tryz.func44, Tryz.ntmps44
  go_wp2_with fail
  obtain ⟨hn1, hsz1, hk1⟩ := new1 w (Obj.cells #[.int .i64 2, .int .i64 0, .string ⟨#[]⟩] 80)
  have h1 := h.kept hk1 (fun _ _ h => h)
  generalize w.alloc (Obj.cells #[.int .i64 2, .int .i64 0, .string ⟨#[]⟩] 80) = w1 at *
  have h0 : DiskAt w1 b { d with sw := syncTo d.sw 0 } vs vals bl := by rw [syncTo_zero]; exact h1
  go_loopw [5] (fun s5 wr => ∃ (k : Nat) (vals' : List Value), k ≤ d.sw.length ∧ s5 = .int .i64 ((k : Nat) : Int) ∧ vals'.length = vals.length ∧ DiskAt wr b { d with sw := syncTo d.sw k } vs vals' bl ∧ Kept (fun x => x ∈ b :: (fpv vs ++ bl)) w wr) (fun s5 _ => d.sw.length - (intOf s5).toNat)
  case atStart => exact ⟨0, vals, Nat.zero_le _, rfl, rfl, h0, hk1.mono (fun _ h _ => h.elim)⟩
  case round =>
    obtain ⟨k, vals', hk, rfl, hvl, hd, hkw⟩ := hrel
    have hB0 : ∀ W, Kept no wr W → W.cell? ⟨b, 0, none⟩ = some (.slice pv vals.length c) := fun W hW => hW.read (by rw [(cells_of hd.cells).1, hvs]; rfl) (fun h => h)
    have hB := hB0 wr (Kept.refl _ _)
    have hVL : vals.length ≤ 8000000000000 := by omega
    by_cases hlt : k < d.sw.length
    · obtain ⟨l, hl⟩ : ∃ l, d.sw[k]? = some l := ⟨d.sw[k], by simp [hlt]⟩
      have hlm : l ∈ d.sw := List.mem_of_getElem? hl
      have hlne := hne l hlm
      have hll := hN l hlm
      have hlp : 0 < l.length := List.length_pos_iff.2 hlne
      have hgl := syncTo_get d.sw hl
      have HSET : Hid ((syncTo d.sw k).set k [lastOf l] = syncTo d.sw (k + 1)) := syncTo_set d.sw hl
      obtain ⟨g, c', g2, o2, c2, hvs', hpv, hc1, hc2, hgb, hgl', hcp, hg2, hg2l, h21, h22, hs2⟩ := hd.sec (p := k) hgl
      rw [hvs, hvl] at hvs'
      simp only [Value.slice.injEq, true_and] at hvs'
      obtain ⟨rfl, rfl⟩ := hvs'
      have hgp : ∀ W, Kept no wr W → W.cell? ⟨g, k, none⟩ = some (.slice (some ⟨g2, o2, none⟩) l.length c2) := fun W hW => hW.read hcp (fun h => h)
      have hkV : k < vals.length := by omega
      generalize hn : vals.length = n at *
      generalize hm : l.length = m at *
      clear hN hne hgl h0 h1
      go_wp2_with fail
      refine wp_region3 (fun W => Kept no wr W) [(0, true), (1, true), (2, true), (3, false), (4, true), (5, true), (6, true), (7, true), (8, false), (9, true), (10, true), (11, false), (12, true), (13, true), (14, true), (15, false), (16, true), (17, true), (18, false), (19, true), (20, true), (21, true)] [22, 23] (by kernel_rfl) (by kernel_rfl) (fun _ _ d _ _ h => by cases d <;> exact h) ((Kept.refl _ _).drew) ?_
      repeat ((first | refine wpPre3_pure rfl rfl (fun W => (by go_simp; rfl)) ?_ | refine wpPre3_read rfl rfl (fun W hW => (by have h1 := hB0 W hW; have h2 := hgp W hW; go_simp; rfl)) ?_); simp only [Act.put, List.setIfInBounds_toArray, List.set])
      refine wpPre3_pure rfl rfl (v := .slice (some ⟨g2, o2 + (m - 1), none⟩) 1 (c2 - (m - 1))) (fun W => ?_) ?_
      · go_simp
        have hw : IntKind.i64.wrap ((m : Int) - 1) = (m : Int) - 1 := by rw [IntKind.wrap_i64]; omega
        have ht : ((m : Int) - 1).toNat = m - 1 := by omega
        rw [hw, ht, if_pos ⟨by omega, by omega⟩, if_neg (by omega), show m - (m - 1) = 1 by omega]
      simp only [Act.put, List.setIfInBounds_toArray, List.set]
      refine wpPre3_nil ?_
      have hk12 : Kept no wr wr.drew := (Kept.refl _ _).drew
      generalize wr.drew = w2 at hk12 ⊢
      have hd2 := hd.kept hk12 (fun _ _ h => h)
      have hrow2 := hd2.row
      rw [hvl, hvs] at hrow2
      obtain ⟨cur, hcur, hcs⟩ := hrow2.heap
      obtain ⟨hcg, hfg⟩ := cells_of hcur
      have hcg2 : w2.cell? ⟨g, k, none⟩ = some (cur[k]'(by omega)) := by rw [hcg]; simp [show k < cur.size by omega]
      have hfg2 := hfg k
      clear hcg hfg hcur
      have hsl : SecAt w2 (.slice (some ⟨g2, o2 + (m - 1), none⟩) 1 (c2 - (m - 1))) [lastOf l] bl := by
        refine ⟨g2, o2 + (m - 1), c2 - (m - 1), by simp, hg2, by simp; omega, by unfold maxLen; omega, fun j s hs => ?_⟩
        match j, hs with
        | 0, hs =>
          simp only [List.getElem?_cons_zero, Option.some.injEq] at hs
          have := hs2.kept hk12 (fun h => h) (m - 1) s (by
            rw [← hs]; unfold lastOf
            rw [← hm, List.getLastD_eq_getLast?, List.getLast?_eq_getElem?, List.getElem?_eq_getElem (by omega)]; rfl)
          simpa using this
      have hput := hd2.put (Kept.refl _ _) (p := k) (g := g) (c := c) (by rw [hvl]; exact hvs) (by omega) hsl (fun _ h => h) hd2.low (fun x hx => ⟨fun e => hd2.b_bl (e ▸ hx), fun e => hd2.vs_bl g (by rw [hvs, fpv_some]; simp) (e ▸ hx)⟩)
      refine wpTail3_last (by kernel_rfl) rfl rfl (fun K hK => ?_)
      go_wp2_with fail
      refine wpTail3_last (by kernel_rfl) rfl rfl (fun K hK => ?_)
      go_wp2_with fail
      refine wpTail3_nil ?_
      go_wp2
      refine ⟨⟨k + 1, vals'.set k (.slice (some ⟨g2, o2 + (m - 1), none⟩) 1 (c2 - (m - 1))), by omega, by go_num, by simp [hvl], ?_, ?_⟩, by simp [intOf]; omega⟩
      · have e := HSET.out
        simp only [e] at hput
        exact hput
      · exact ((hkw.step (hk12.mono (fun _ h _ => h.elim))).setCell (p := ⟨g, k, none⟩) (fun _ => by rw [hvs, fpv_some]; simp) _)
    · obtain rfl : k = d.sw.length := by omega
      rw [syncTo_end d.sw (Nat.le_refl _)] at hd
      go_wp2
      go_end0
      exact ⟨rfl, ⟨_, ⟨_, _, _, hd, rfl⟩, fun x hx => .inl hx⟩, hkw⟩
end Go.Proofs.YtdpfohgkikjeaaaGreat
/- Do, whole; Now. -/
namespace Go.Proofs.YtdpfohgkikjeaaaGreat
open Go.RowKit
set_option linter.unusedVariables false
set_option linter.unusedSimpArgs false

theorem do_any {w b d fp} (h : DiskR w b d fp) {N L : Nat} (hL : d.Lens N L) (hN : N ≤ 8000000000000) (a : PAct) (hr : RightA a) (hn : a.kind = 4 → d.new.length + a.data.length ≤ 1099511627776) :
    Calls Tryz.prog 44 #[.pointer (some ⟨b, 0, none⟩), a.val] w fun e w' => e = .returned (.tuple #[]) ∧ DiskTo w w' b fp (d.act a) := by
  obtain ⟨vs, vals, bl, h, rfl⟩ := h
  obtain ⟨kind, at_, data⟩ := a
  simp only [RightA] at hr hn
  rcases hr with ⟨rfl, h1, h2⟩ | ⟨rfl, rfl⟩ | ⟨hk, rfl, rfl⟩
  · have hlt : at_ < d.sw.length := by rw [hL.sw]; exact h1
    have hl : d.sw[at_]? = some d.sw[at_] := by simp [hlt]
    have hm : d.sw[at_] ∈ d.sw := by simp
    have e : d.act ⟨1, at_, data⟩ = { d with sw := d.sw.set at_ (d.sw[at_] ++ [data]) } := by
      simp [DiskS.act, List.getD_eq_getElem?_getD, hlt]
    rw [e]
    exact do_write h at_ data _ hl (Nat.le_trans (hL.rows _ hm) hN) (hL.some _ hm)
  · exact do_append h data (hn rfl)
  · rcases hk with rfl | rfl | rfl | rfl | rfl
    · exact do_sync h hL.some (fun r hr => Nat.le_trans (hL.rows r hr) hN) (by rw [hL.sw]; decide)
    · exact do_begin h
    · exact do_syncFile h
    · exact do_rename h
    · exact do_syncDir h

set_option maxRecDepth 100000 in
set_option maxHeartbeats 2000000 in
theorem now_any {w b d fp} (h : DiskR w b d fp) {N L : Nat} (hL : d.Lens N L) (hN : N ≤ 8000000000000) :
    Calls Tryz.prog 21 #[.pointer (some ⟨b, 0, none⟩)] w fun e w' => ∃ v, e = .returned v ∧ Row w' 9 1 v 400 (d.now.map sv) ∧ (∀ x ∈ fpv v, w.heap.size ≤ x) ∧ Kept no w w' := by
  obtain ⟨vs, vals, bl, h, rfl⟩ := h
  have hlen := h.len
  have hsw := hL.sw
  obtain ⟨pv, c, hvs⟩ := h.row.slice
  have hV : vals.length = 400 := by omega
  rw [hV] at hvs
  have hbw : b < w.heap.size := lt_of_heap h.cells
  go_enter Tryz.func21, Tryz.ntmps21
  go_wp2_with fail
  go_loopw [3, 4] (fun s3 s4 wr => ∃ (k : Nat), k ≤ 400 ∧ s4 = .int .i64 ((k : Nat) : Int) ∧ Row wr 9 1 s3 k ((d.now.take k).map sv) ∧ (∀ x ∈ fpv s3, w.heap.size ≤ x) ∧ Kept no w wr) (fun _ s4 _ => 400 - (intOf s4).toNat)
  case atStart => exact ⟨0, Nat.zero_le _, rfl, ⟨rfl, .inl ⟨rfl, rfl⟩⟩, by simp [fpv_nil], Kept.refl _ _⟩
  case round =>
    obtain ⟨k, hk, rfl, hr, hnew, hkw⟩ := hrel
    have hSn : ∀ x, x ∈ fpv u3 → x < w.heap.size → no x := fun x hx hlt => by have := hnew x hx; omega
    have hB0 : ∀ W, Kept (fun x => x ∈ fpv u3) wr W → W.cell? ⟨b, 0, none⟩ = some (.slice pv 400 c) := fun W hW => (hkw.step' hW hSn).read (by rw [(cells_of h.cells).1, hvs]; rfl) (fun h => h)
    have hB := hB0 wr (Kept.refl _ _)
    by_cases hlt : k < 400
    · obtain ⟨l, hl⟩ : ∃ l, d.sw[k]? = some l := ⟨d.sw[k], by simp [hsw, hlt]⟩
      have hlm : l ∈ d.sw := List.mem_of_getElem? hl
      have hll := hL.rows l hlm
      have hlp : 0 < l.length := List.length_pos_iff.2 (hL.some l hlm)
      obtain ⟨g, c', g2, o2, c2, hvs', hpv, hc1, hc2, hgb, hgl', hcp, hg2, hg2l, h21, h22, hs2⟩ := h.sec (p := k) hl
      rw [hvs, hV] at hvs'
      simp only [Value.slice.injEq, true_and] at hvs'
      obtain ⟨rfl, rfl⟩ := hvs'
      have hgp : ∀ W, Kept (fun x => x ∈ fpv u3) wr W → W.cell? ⟨g, k, none⟩ = some (.slice (some ⟨g2, o2, none⟩) l.length c2) := fun W hW => (hkw.step' hW hSn).read hcp (fun h => h)
      have hlast : ∀ W, Kept (fun x => x ∈ fpv u3) wr W → W.cell? ⟨g2, o2 + (l.length - 1), none⟩ = some (sv (lastOf l)) := fun W hW => (hkw.step' hW hSn).read (hs2 (l.length - 1) (lastOf l) (by
        unfold lastOf
        rw [List.getLastD_eq_getLast?, List.getLast?_eq_getElem?, List.getElem?_eq_getElem (by omega)]; rfl)) (fun h => h)
      have hnow : (d.now.take (k + 1)).map sv = (d.now.take k).map sv ++ [sv (lastOf l)] := by
        have e : d.now[k]? = some (lastOf l) := by simp [DiskS.now, hl]
        rw [List.take_add_one, e]; simp
      have HNOW : Hid ((d.now.take (k + 1)).map sv = (d.now.take k).map sv ++ [sv (lastOf l)]) := hnow
      clear hnow
      generalize lastOf l = s at hlast HNOW
      generalize hm : l.length = m at *
      have hwm : IntKind.i64.wrap ((m : Int) - 1) = (m : Int) - 1 := by rw [IntKind.wrap_i64]; omega
      have htm : ((m : Int) - 1).toNat = m - 1 := by omega
      have hm0 : 0 ≤ (m : Int) - 1 := by omega
      have hm1 : (m : Int) - 1 < (m : Int) := by omega
      go_wp2_with fail
      refine wp_region3 (fun W => Kept (fun x => x ∈ fpv u3) wr W) [(0, true), (1, true), (2, true), (3, true), (4, false), (5, true), (6, true), (7, false), (8, true), (9, true), (10, true), (11, false), (12, true), (13, true), (14, false), (15, true), (16, true), (17, true), (18, false)] [19, 20, 21] (by kernel_rfl) (by kernel_rfl) (fun _ _ d _ _ h => by cases d <;> exact h) ((Kept.refl _ _).drew) ?_
      repeat ((first | refine wpPre3_pure rfl rfl (fun W => (by go_simp; rfl)) ?_ | refine wpPre3_read rfl rfl (fun W hW => (by have h1 := hB0 W hW; have h2 := hgp W hW; have h3 := hlast W hW; go_simp; rfl)) ?_); simp only [Act.put, List.setIfInBounds_toArray, List.set])
      refine wpPre3_pure rfl rfl (v := .pointer (some ⟨g2, o2 + (m - 1), none⟩)) (fun W => ?_) ?_
      · go_simp
        intro hh; omega
      simp only [Act.put, List.setIfInBounds_toArray, List.set]
      refine wpPre3_read rfl rfl (v := sv s) (fun W hW => by have h3 := hlast W hW; go_simp) ?_
      simp only [Act.put, List.setIfInBounds_toArray, List.set]
      refine wpPre3_nil ?_
      have hk12 : Kept no wr wr.drew := (Kept.refl _ _).drew
      have hr2 := hr.drew
      generalize wr.drew = w2 at hk12 hr2 ⊢
      refine wpTail3_cons rfl rfl (fun K hK => ?_)
      go_wp2_with fail
      refine ⟨fun h => h.alloc _, ?_⟩
      obtain ⟨hn5, hsz5, hk5⟩ := new1 w2 (Obj.cells #[sv s] 9)
      generalize hG5 : w2.heap.size = G5 at hn5 hsz5 ⊢
      generalize w2.alloc (Obj.cells #[sv s] 9) = w5 at hn5 hsz5 hk5 ⊢
      refine wpTail3_cons rfl rfl (fun K hK => ?_)
      refine wp_push _ _ 34 rfl tyStr u3 _ _ rfl (hr2.kept hk5 (fun _ _ h => h)) G5 1 (sv s) rfl (by rw [(cells_of hn5).1]; rfl) rfl (by decide) (by omega) ?_
      intro v6 w6 hr6 hG6
      refine hK _ _ ⟨fun hh => hh.step hG6.1, ?_⟩
      clear hK
      refine wpTail3_last (by kernel_rfl) rfl rfl (fun K hK => ?_)
      go_wp2_with fail
      refine wpTail3_nil ?_
      have hs1 := hkw.size
      have hs2' := hk12.size
      have hs5 := hk5.size
      go_wp2
      refine ⟨⟨k + 1, by omega, by go_num, ?_, fun x hx => ?_, ?_⟩, by simp [intOf]; omega⟩
      · rw [HNOW.out]; exact hr6
      · rcases hG6.2 x hx with hx | hx
        · exact hnew x hx
        · omega
      · exact ((hkw.step hk12).step hk5).step' hG6.1 (fun x hx hlt => by have := hnew x hx; omega)
    · obtain rfl : k = 400 := by omega
      go_wp2
      go_ret
      refine ⟨u3, rfl, ?_, hnew, hkw⟩
      have e : d.now.take 400 = d.now := List.take_of_length_le (by simp [DiskS.now, hsw])
      rw [e] at hr
      exact hr
end Go.Proofs.YtdpfohgkikjeaaaGreat

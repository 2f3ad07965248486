/- Part 23 of the proof: see its parts. -/
import Derived.Test.YtdpfohgkikjeaaaGreatV22
/- The document's own answer: a sync is begun. -/
namespace Go.Proofs.YtdpfohgkikjeaaaGreat
open Go.RowKit
set_option linter.unusedVariables false
set_option linter.unusedSimpArgs false

theorem wp_ch {w : World} {o : Oper} {a : Act} {Q : Exit → Act → World → Prop} {K : Act → World → Prop} (s x : Operand) (ho : o.op = .call { callee := .builtin .append, args := #[s, x], argTypes := #[122, 122] })
    (v : Value) (l : List (Str × Mark)) (hs : a.eval s = v) (hown : ChRow w v l) (g at' m c : Nat) (news : List (Str × Mark)) (hx : a.eval x = .slice (some ⟨g, at', none⟩) m c) (hl : news.length = m) (hg : ∀ j u, (chsCells news)[j]? = some u → w.cell? ⟨g, at' + j, none⟩ = some u) (hn : l.length + m ≤ 1099511627776)
    (h : ∀ v' w', ChRow w' v' (l ++ news) → Grew w w' v v' → K (a.put o.dst v') w') : o.wp Tryz.prog a w K Q := by
  obtain ⟨v', w', hr, h2, h3, _⟩ := run_app tyCh o.type w v l.length (chsCells l) hown g at' m c (chsCells news) (by rw [chsCells_length, hl]) hg (chsCells_one _) (by omega) (by omega)
  unfold Oper.wp execOp
  simp only [ho, resolve, invoke, builtin, Sem.run_bind, Sem.run_pure, Result.andThen_ok, List.map_toArray, List.map_cons, List.map_nil, hs, hx, hr]
  refine h v' w' ?_ h3
  show Row w' chT 3 v' (l ++ news).length (chsCells (l ++ news))
  rw [List.length_append, hl, chsCells_append]; exact h2

/-- The row of the texts that were begun grows. -/
theorem RefAt.grewS {w w' : World} {b : Nat} {r : RefS} {vl va vq vs vs' : Value} {fa fq : List Nat} (h : RefAt w b r vl va vq vs fa fq) (g : Grew w w' vs vs') :
    w'.heap[b]? = some (.cells (refCells r vl va vq vs) refT (0, 0)) ∧ Row w' 9 1 vl r.lines.length (r.lines.map sv) ∧ Seen w' va r.acts.length (actsCells r.acts) fa ∧ Seen w' vq r.last.length (chsCells r.last) fq ∧ Apart [[b], fpv vl, fa, fq, fpv vs'] := by
  obtain ⟨⟨a1, a2, a3, a4⟩, ⟨b1, b2, b3⟩, ⟨c1, c2⟩, d1⟩ := h.ap
  have hn : ∀ l : List Nat, (∀ x ∈ l, x < w.heap.size) → (∀ x ∈ l, x ∉ fpv vs) → ∀ x ∈ l, x ∉ fpv vs' := fun l hl ha x hx hx' => by
    rcases g.2 x hx' with h1 | h1
    · exact ha x hx h1
    · have := hl x hx; omega
  have hk := g.1
  refine ⟨hk.get h.cells a4, h.lines.kept hk (fun x hx hs => b3 x hx hs), h.acts.kept hk (fun x hx hs => c2 x hx hs), h.last.kept hk (fun x hx hs => d1 x hx hs), apart_mk ⟨a1, a2, a3, fun hx => ?_⟩ ⟨b1, b2, hn _ h.lines.lt b3⟩ ⟨c1, hn _ h.acts.lt c2⟩ (hn _ h.last.lt d1)⟩
  exact hn [b] (fun x hx => by rw [List.mem_singleton.1 hx]; exact lt_of_heap h.cells) (fun x hx => by rw [List.mem_singleton.1 hx]; exact a4) b (by simp) hx

set_option maxRecDepth 100000 in
set_option maxHeartbeats 4000000 in
theorem ref_sync {w : World} {b : Nat} {r : RefS} {vl va vq vs : Value} {fa fq : List Nat} (h : RefAt w b r vl va vq vs fa fq) (hok : TextOk r.lines) (hfl : r.file.length ≤ 1099511627776) (hsn : r.since.length ≤ 1000000000000) :
    Calls Tryz.prog 95 #[.pointer (some ⟨b, 0, none⟩)] w fun e w' => e = .returned (.tuple #[]) ∧ RefTo w w' b (refFp b vl fa fq vs) r.sync := by
  obtain ⟨hc, hf⟩ := cells_of h.cells
  have hbw : b < w.heap.size := lt_of_heap h.cells
  have hlt := h.lt
  go_enter Tryz.func95, Tryz.ntmps95
  go_wp2_with fail
  have hk1 : Kept (fun x => x = b) w ((w.setCell ⟨b, 6, none⟩ (.int .i64 1)).setCell ⟨b, 3, none⟩ (.int .i64 0)) := Kept.cell1.step Kept.cell1
  have h1 := h.store (r' := { r with job := 1, begun := 0 }) hk1 (by rw [heap_set_same (heap_set_same h.cells)]; simp) rfl rfl rfl rfl
  generalize (w.setCell ⟨b, 6, none⟩ (.int .i64 1)).setCell ⟨b, 3, none⟩ (.int .i64 0) = w1 at hk1 h1 ⊢
  clear hc hf
  refine (ref_text h1 hok).mono ?_
  rintro e w2 ⟨rfl, hk2⟩
  have h2 := h1.kept hk2 (fun _ _ h => h)
  have hfp2 : w2.cell? ⟨b, 1, none⟩ = some (sv r.file) := by rw [(cells_of h2.cells).1]; rfl
  go_wp2_with fail
  refine (sum_ref r.file w2 hfl).mono ?_
  rintro e w3 ⟨rfl, hw⟩
  rw [hw]
  clear hw hfp2
  have hvs : ∃ p c, vs = .slice p r.since.length c := h.since.slice
  obtain ⟨ps, cs, rfl⟩ := hvs
  obtain ⟨⟨a1, a2, a3, a4⟩, ⟨b1, b2, b3⟩, ⟨c1, c2⟩, d1⟩ := h.ap
  have hF : ∀ W, Kept (fun x => x ∈ fpv (.slice ps r.since.length cs)) w2 W → W.cell? ⟨b, 1, none⟩ = some (sv r.file) := fun W hW => hW.read (by rw [(cells_of h2.cells).1]; rfl) a4
  have hS : ∀ W, Kept (fun x => x ∈ fpv (.slice ps r.since.length cs)) w2 W → W.cell? ⟨b, 10, none⟩ = some (.slice ps r.since.length cs) := fun W hW => hW.read (by rw [(cells_of h2.cells).1]; rfl) a4
  go_wp2_with fail
  refine wp_region3 (fun W => Kept (fun x => x ∈ fpv (.slice ps r.since.length cs)) w2 W) [(0, true), (1, true), (2, true), (3, true), (4, false), (5, true), (6, true), (7, true), (8, true), (9, false), (10, true), (11, true), (12, true)] [13, 14, 15, 16, 17] (by kernel_rfl) (by kernel_rfl) (fun _ _ d _ _ h => by cases d <;> exact h) ((Kept.refl _ _).drew) ?_
  repeat ((first | refine wpPre3_pure rfl rfl (fun W => (by go_simp; rfl)) ?_ | refine wpPre3_read rfl rfl (fun W hW => (by have h1 := hF W hW; have h2 := hS W hW; go_simp; rfl)) ?_); simp only [Act.put, List.setIfInBounds_toArray, List.set])
  refine wpPre3_nil ?_
  have hk3 : Kept no w2 w2.drew := (Kept.refl _ _).drew
  have h3 := h2.kept hk3 (fun _ _ h => h)
  generalize w2.drew = w3 at hk3 h3 ⊢
  refine wpTail3_cons rfl rfl (fun K hK => ?_)
  go_wp2_with fail
  refine ⟨fun hh => hh.alloc _, ?_⟩
  obtain ⟨hn4, hsz4, hk4⟩ := new1 w3 (Obj.cells #[sv (textOf r.lines), Value.int IntKind.i64 (r.file.length : Int), Value.int IntKind.i64 ((crc r.file : Nat) : Int)] 188)
  have h4 := h3.kept hk4 (fun _ _ h => h)
  generalize hG : w3.heap.size = G at hn4 hsz4 ⊢
  generalize w3.alloc (Obj.cells #[sv (textOf r.lines), Value.int IntKind.i64 (r.file.length : Int), Value.int IntKind.i64 ((crc r.file : Nat) : Int)] 188) = w4 at hn4 hsz4 hk4 h4 ⊢
  refine wpTail3_cons rfl rfl (fun K hK => ?_)
  refine wp_ch _ _ rfl (.slice ps r.since.length cs) r.since rfl h4.since G 0 1 1 [r.chance] rfl rfl (fun j u hj => ?_) (by omega) ?_
  · rw [Nat.zero_add, (cells_of hn4).1, ← hj]
    match j with
    | 0 => rfl
    | 1 => rfl
    | 2 => rfl
    | j + 3 => rfl
  intro vs' w5 hrow5 hg5
  obtain ⟨pv, cv, rfl⟩ : ∃ p c, vs' = .slice p (r.since ++ [r.chance]).length c := hrow5.slice
  have hrow5' : Row w5 chT 3 (.slice pv (r.since ++ [r.chance]).length cv) (r.since ++ [r.chance]).length (chsCells (r.since ++ [r.chance])) := hrow5
  clear hrow5
  generalize hN : (r.since ++ [r.chance]).length = m at hrow5' hg5 ⊢
  have HN : Hid ((r.since ++ [r.chance]).length = m) := hN
  clear hN
  refine hK _ _ ⟨fun hh => hh.step hg5.1, ?_⟩
  clear hK
  obtain ⟨hb5, hl5, ha5, hq5, hap5⟩ := h4.grewS hg5
  obtain ⟨hc5, hfz5⟩ := cells_of hb5
  have hkw : Kept (fun x => x = b) w w4 := hk1.step (((hk2.step hk3).step hk4).mono (fun _ h _ => h.elim))
  clear hF hS h1 h2 h3
  refine wpTail3_last (by kernel_rfl) rfl rfl (fun K hK => ?_)
  go_wp2_with fail
  refine wpTail3_last (by kernel_rfl) rfl rfl (fun K hK => ?_)
  go_wp2_with fail
  refine wpTail3_last (by kernel_rfl) rfl rfl (fun K hK => ?_)
  go_wp2_with fail
  refine wpTail3_nil ?_
  go_wp2
  go_end0
  have hks : Kept (fun x => x = b) w5 (w5.setCell ⟨b, 10, none⟩ (.slice pv m cv)) := Kept.cell1
  have hcs : (w5.setCell ⟨b, 10, none⟩ (.slice pv m cv)).heap[b]? = some (.cells (refCells r.sync vl va vq (.slice pv m cv)) refT (0, 0)) := by
    rw [heap_set_same hb5]; simp [RefS.sync]
  obtain ⟨e1, e2, e3, e4⟩ : b ∉ fpv vl ∧ b ∉ fa ∧ b ∉ fq ∧ b ∉ fpv (.slice pv m cv) := by
    have := hap5
    simp only [Apart, List.pairwise_cons, List.mem_cons, List.not_mem_nil, or_false, forall_eq_or_imp, forall_eq] at this
    exact this.1
  refine ⟨rfl, ⟨refFp b vl fa fq (.slice pv m cv), ⟨vl, va, vq, (.slice pv m cv), fa, fq, ⟨hcs, hl5.kept hks (fun x hx e => e1 (e ▸ hx)), ha5.kept hks (fun x hx e => e2 (e ▸ hx)), hq5.kept hks (fun x hx e => e3 (e ▸ hx)), Row.kept (xs := chsCells r.sync.since) (n := r.sync.since.length) ?_ hks (fun x hx e => e4 (e ▸ hx)), hap5⟩, rfl⟩, fun x hx => ?_⟩, ?_⟩
  · show Row w5 chT 3 (.slice pv m cv) (r.since ++ [r.chance]).length (chsCells (r.since ++ [r.chance]))
    rw [HN.out]
    exact hrow5'
  · simp only [refFp, List.mem_cons, List.mem_append] at hx ⊢
    rcases hx with hx | hx | hx | hx | hx
    · exact .inl (.inl hx)
    · exact .inl (.inr (.inl hx))
    · exact .inl (.inr (.inr (.inl hx)))
    · exact .inl (.inr (.inr (.inr (.inl hx))))
    · rcases hg5.2 x hx with h1 | h1
      · exact .inl (.inr (.inr (.inr (.inr h1))))
      · have := hkw.size; exact .inr (by omega)
  · exact ((hkw.mono (T := fun x => x ∈ refFp b vl fa fq (.slice ps r.since.length cs)) (fun x e _ => by have e : x = b := e; show x ∈ refFp b vl fa fq _; simp [e])).step' hg5.1 (fun x hx _ => by show x ∈ refFp b vl fa fq _; simp [hx])).step' hks (fun x e _ => by have e : x = b := e; show x ∈ refFp b vl fa fq _; simp [e])
end Go.Proofs.YtdpfohgkikjeaaaGreat
/- The document's own answer: an edit. -/
namespace Go.Proofs.YtdpfohgkikjeaaaGreat
open Go.RowKit
set_option linter.unusedVariables false
set_option linter.unusedSimpArgs false

theorem RefTo.of_at {w w' : World} {b : Nat} {fp : List Nat} {r' : RefS} {vl va vq vs : Value} {fa fq : List Nat} (h : RefAt w' b r' vl va vq vs fa fq) (hx : ∀ x ∈ refFp b vl fa fq vs, x ∈ fp ∨ w.heap.size ≤ x) (hk : Kept (fun x => x ∈ fp) w w') : RefTo w w' b fp r' :=
  ⟨⟨_, ⟨_, _, _, _, _, _, h, rfl⟩, hx⟩, hk⟩

theorem RefTo.step {w w1 w2 : World} {b : Nat} {fp fp1 : List Nat} {r' : RefS} (h : RefTo w1 w2 b fp1 r') (hk : Kept (fun x => x ∈ fp) w w1) (hx : ∀ x ∈ fp1, x ∈ fp ∨ w.heap.size ≤ x) : RefTo w w2 b fp r' := by
  obtain ⟨⟨fp', hr, hx'⟩, hk'⟩ := h
  refine ⟨⟨fp', hr, fun x hx1 => ?_⟩, hk.step' hk' (fun x hx1 hlt => (hx x hx1).resolve_right (by omega))⟩
  rcases hx' x hx1 with h1 | h1
  · exact hx x h1
  · have := hk.size; exact .inr (by omega)

set_option maxRecDepth 100000 in
set_option maxHeartbeats 4000000 in
theorem ref_edit {w : World} {b : Nat} {r : RefS} {vl va vq vs : Value} {fa fq : List Nat} (h : RefAt w b r vl va vq vs fa fq) (hok : TextOk r.lines) (hfl : r.file.length ≤ 1099511627776) (hsn : r.since.length ≤ 1000000000000) (hed : r.edits ≤ 1000000000000) (hbe : r.begun ≤ 1000000000000) (hev : r.every ≤ 1000) :
    Calls Tryz.prog 143 #[.pointer (some ⟨b, 0, none⟩)] w fun e w' => e = .returned (.tuple #[]) ∧ RefTo w w' b (refFp b vl fa fq vs) r.edit := by
  obtain ⟨hc, hf⟩ := cells_of h.cells
  have hbw : b < w.heap.size := lt_of_heap h.cells
  have hlt := h.lt
  go_enter Tryz.func143, Tryz.ntmps143
  go_wp2_with fail
  have hk1 : Kept (fun x => x = b) w (((w.setCell ⟨b, 4, none⟩ (.int .i64 ((r.edits : Int) + 1))).setCell ⟨b, 3, none⟩ (.int .i64 ((r.begun : Int) + 1))).setCell ⟨b, 5, none⟩ (.bool false)) := (Kept.cell1.step Kept.cell1).step Kept.cell1
  have h1 := h.store (r' := { r with edits := r.edits + 1, begun := r.begun + 1, idle := false }) hk1 (by rw [heap_set_same (heap_set_same (heap_set_same h.cells))]; simp) rfl rfl rfl rfl
  generalize ((w.setCell ⟨b, 4, none⟩ (.int .i64 ((r.edits : Int) + 1))).setCell ⟨b, 3, none⟩ (.int .i64 ((r.begun : Int) + 1))).setCell ⟨b, 5, none⟩ (.bool false) = w1 at hk1 h1 ⊢
  clear hc hf
  obtain ⟨hc1, hf1⟩ := cells_of h1.cells
  have hc3 : w1.cell? ⟨b, 3, none⟩ = some (.int .i64 ((r.begun : Int) + 1)) := by rw [hc1]; simp
  have hc2 : w1.cell? ⟨b, 2, none⟩ = some (.int .i64 (r.every : Int)) := by rw [hc1]; rfl
  clear hc1 hf1
  have hkk : Kept (fun x => x ∈ refFp b vl fa fq vs) w w1 := hk1.mono (fun x e _ => by have e : x = b := e; show x ∈ refFp b vl fa fq vs; simp [e])
  go_quiet (fail)
  have h1d : ∀ n, RefAt (w1.drewN n) b { r with edits := r.edits + 1, begun := r.begun + 1, idle := false } vl va vq vs fa fq := fun n => h1.kept ((Kept.refl no w1).drewN n) (fun _ _ h => h)
  have hkd : ∀ n, Kept (fun x => x ∈ refFp b vl fa fq vs) w (w1.drewN n) := fun n => hkk.drewN n
  clear hc2 hc3
  by_cases hcc : r.every ≤ r.begun + 1
  · have hcc' : (r.begun : Int) + 1 ≥ (r.every : Int) := by omega
    have hE : r.edit = RefS.sync { r with edits := r.edits + 1, begun := r.begun + 1, idle := false } := by unfold RefS.edit; rw [if_pos hcc]
    have HE : Hid (r.edit = _) := hE
    clear hE
    go_wp2_with fail
    refine (ref_sync (h1d _) hok hfl hsn).mono ?_
    rintro e w2 ⟨rfl, hT⟩
    go_wp2
    go_end0
    exact ⟨rfl, by rw [HE.out]; exact hT.step (hkd _) (fun x hx => .inl hx)⟩
  · have hcc' : ¬ (r.begun : Int) + 1 ≥ (r.every : Int) := by omega
    have hE : r.edit = { r with edits := r.edits + 1, begun := r.begun + 1, idle := false } := by unfold RefS.edit; rw [if_neg hcc]
    have HE : Hid (r.edit = _) := hE
    clear hE
    go_wp2
    go_end0
    exact ⟨rfl, by rw [HE.out]; exact .of_at (h1d _) (fun x hx => .inl hx) (hkd _)⟩
end Go.Proofs.YtdpfohgkikjeaaaGreat
/- The document's own answer: put. -/
namespace Go.Proofs.YtdpfohgkikjeaaaGreat
open Go.RowKit
set_option linter.unusedVariables false
set_option linter.unusedSimpArgs false

theorem run_append_nothing {P : Program} {t e : TypeId} {size bytes : Nat} (T : SliceTy P t e size bytes) (ty : TypeId) (w : World) (v : Value) (n : Nat) (xs : List Value) (hown : Row w e size v n xs) :
    (Builtin.append_ #[t, t] ty #[v, .slice none 0 0]).run P w = .ok v w := by
  obtain ⟨i, z, hi, hz, hs, hb, hzs⟩ := T.info
  rcases hown.shape with ⟨rfl, rfl, rfl⟩ | ⟨g, c, rfl, h1, h2⟩
  · simp [Builtin.append_, run_underlying T.under, sizeOf, typeInfo, hi, hs, Builtin.lenOf, Builtin.firstCells]
  · simp [Builtin.append_, run_underlying T.under, sizeOf, typeInfo, hi, hs, Builtin.lenOf, Builtin.firstCells, h1, storeCells]

/-- append(v, u..), where u is read from some place on, or is nil. -/
theorem run_seen {P : Program} {t e : TypeId} {size bytes : Nat} (T : SliceTy P t e size bytes) (ty : TypeId) (w : World) (v : Value) (n : Nat) (xs : List Value) (hown : Row w e size v n xs)
    (u : Value) (m : Nat) (ys : List Value) (fp : List Nat) (hu : Seen w u m ys fp) (hl : ys.length = m * size) (h1 : ∀ y ∈ ys, y.oneCell' = true) (hbytes : (n + m) * bytes ≤ 140737488355328) (hn : n + m ≤ 140737488355328) :
    ∃ v' w', (Builtin.append_ #[t, t] ty #[v, u]).run P w = .ok v' w' ∧ Row w' e size v' (n + m) (xs ++ ys) ∧ Grew w w' v v' := by
  rcases hu with ⟨rfl, rfl, rfl, rfl⟩ | ⟨g, o, c, rfl, h2, h3, rfl, hg, hc⟩
  · exact ⟨v, w, run_append_nothing T ty w v n xs hown, by simpa using hown, Grew.refl _ _⟩
  · obtain ⟨v', w', hr, h4, h5, _⟩ := run_app T ty w v n xs hown g o m c ys hl hc h1 hbytes hn
    exact ⟨v', w', hr, h4, h5⟩

theorem svs_one (l : List Str) : ∀ y ∈ l.map sv, y.oneCell' = true := fun y hy => by
  obtain ⟨s, _, rfl⟩ := List.mem_map.1 hy
  rfl

/-- At the operation: append(v, u..). -/
theorem wpList_seen {P : Program} {w : World} {ops : Array Oper} {rest : List Oper} {o : Oper} {a : Act} {Q : Exit → Act → World → Prop} (hgd : o.guard = none) (s x : Operand) (t : TypeId) (ho : o.op = .call { callee := .builtin .append, args := #[s, x], argTypes := #[t, t] })
    {e : TypeId} {size bytes : Nat} (T : SliceTy P t e size bytes) (v : Value) (n : Nat) (xs : List Value) (hs : a.eval s = v) (hown : Row w e size v n xs)
    (u : Value) (m : Nat) (ys : List Value) (fp : List Nat) (hx : a.eval x = u) (hu : Seen w u m ys fp) (hl : ys.length = m * size) (h1 : ∀ y ∈ ys, y.oneCell' = true) (hbytes : (n + m) * bytes ≤ 140737488355328) (hn : n + m ≤ 140737488355328)
    (h : ∀ v' w', Row w' e size v' (n + m) (xs ++ ys) → Grew w w' v v' → wpList P ops Q rest (a.put o.dst v') w') : wpList P ops Q (o :: rest) a w := by
  refine wpList_plain hgd fun K hK => ?_
  obtain ⟨v', w', hr, h2, h3⟩ := run_seen T o.type w v n xs hown u m ys fp hu hl h1 hbytes hn
  unfold Oper.wp execOp
  simp only [ho, resolve, invoke, builtin, Sem.run_bind, Sem.run_pure, Result.andThen_ok, List.map_toArray, List.map_cons, List.map_nil, hs, hx, hr]
  exact hK _ _ (h v' w' h2 h3)

/-- A row of texts that was made since. -/
structure SR (w0 wx : World) (v : Value) (l : List Str) : Prop where
  row : Row wx 9 1 v l.length (l.map sv)
  fresh : ∀ x ∈ fpv v, w0.heap.size ≤ x
  kept : Kept no w0 wx
theorem SR.nil (w : World) : SR w w (.slice none 0 0) [] := ⟨Row.nilrow _ _, by simp [fpv_nil], Kept.refl _ _⟩
theorem SR.call {w0 wx wy : World} {v : Value} {l : List Str} (h : SR w0 wx v l) (k : Kept no wx wy) : SR w0 wy v l := ⟨h.row.kept k (fun _ _ h => h), h.fresh, h.kept.step k⟩

theorem wpList_sr {w0 w : World} {ops : Array Oper} {rest : List Oper} {o : Oper} {a : Act} {Q : Exit → Act → World → Prop} (hgd : o.guard = none) (s x : Operand) (ho : o.op = .call { callee := .builtin .append, args := #[s, x], argTypes := #[34, 34] })
    {v : Value} {l : List Str} (hs : a.eval s = v) (h : SR w0 w v l) {u : Value} {news : List Str} {fp : List Nat} (hx : a.eval x = u) (hu : Seen w u news.length (news.map sv) fp) (hn : l.length + news.length ≤ 1000000)
    (k : ∀ v' w', SR w0 w' v' (l ++ news) → wpList Tryz.prog ops Q rest (a.put o.dst v') w') : wpList Tryz.prog ops Q (o :: rest) a w := by
  refine wpList_seen hgd s x _ ho tyS v l.length (l.map sv) hs h.row u news.length (news.map sv) fp hx hu (by simp) (svs_one _) (by omega) (by omega) (fun v' w' hr hg => k v' w' ⟨?_, fun y hy => ?_, ?_⟩)
  · rw [List.length_append, List.map_append]; exact hr
  · rcases hg.2 y hy with h1 | h1
    · exact h.fresh y h1
    · have := h.kept.size; omega
  · exact h.kept.step' hg.1 (fun y hy hlt => by have := h.fresh y hy; omega)

/-- The lines of an answer, ahead of a place, and from it on. -/
theorem RefAt.linesSeen {w : World} {b : Nat} {r : RefS} {vl va vq vs : Value} {fa fq : List Nat} (h : RefAt w b r vl va vq vs fa fq) {a : Nat} (ha : a ≤ r.lines.length) :
    (vl = .slice none 0 0 ∧ r.lines = []) ∨ ∃ g c, vl = .slice (some ⟨g, 0, none⟩) r.lines.length c ∧ r.lines.length ≤ c ∧ c ≤ 9223372036854775807 ∧ Seen w (.slice (some ⟨g, 0, none⟩) a c) (r.lines.take a).length ((r.lines.take a).map sv) [g] ∧ ∀ b', b' ≤ r.lines.length → Seen w (.slice (some ⟨g, b', none⟩) (r.lines.length - b') (c - b')) (r.lines.drop b').length ((r.lines.drop b').map sv) [g] := by
  rcases h.lines.shape with ⟨h1, h2, _⟩ | ⟨g, c, rfl, h1, h2⟩
  · exact .inl ⟨h1, List.eq_nil_of_length_eq_zero h2⟩
  · have hc := h.lines.cell
    have hg := h.lines.lt g (by rw [fpv_some]; simp)
    unfold maxLen at h2
    have hta : (r.lines.take a).length = a := by rw [List.length_take]; omega
    refine .inr ⟨g, c, rfl, h1, by omega, .inr ⟨g, 0, c, by rw [hta], by omega, by omega, rfl, hg, fun j u hj => ?_⟩, fun b' hb' => .inr ⟨g, b', c - b', by rw [List.length_drop], by rw [List.length_drop]; omega, by omega, rfl, hg, fun j u hj => ?_⟩⟩
    · rw [Nat.zero_add]
      refine hc.2.2.2 j u ?_
      rw [List.map_take, List.getElem?_take] at hj
      split at hj
      · exact hj
      · cases hj
    · refine hc.2.2.2 (b' + j) u ?_
      rwa [List.map_drop, List.getElem?_drop] at hj

set_option maxRecDepth 100000 in
set_option maxHeartbeats 8000000 in
theorem ref_put {w : World} {b : Nat} {r : RefS} {vl va vq vs : Value} {fa fq : List Nat} (h : RefAt w b r vl va vq vs fa fq) (frm til : Nat) (fI tI : Int) (hfI : fI = (frm : Int)) (htI : tI = (til : Int)) (hft : frm ≤ til) (hto : til ≤ r.lines.length) (news : List Str) (vn : Value) (fn : List Nat) (hN : Seen w vn news.length (news.map sv) fn) (hok : TextOk r.lines) (ls : List Str) (hls : r.lines.take frm ++ news ++ r.lines.drop til = ls) (hok2 : TextOk ls) (hfl : r.file.length ≤ 1099511627776) (hsn : r.since.length ≤ 1000000000000) (hed : r.edits ≤ 1000000000000) (hbe : r.begun ≤ 1000000000000) (hev : r.every ≤ 1000) :
    Calls Tryz.prog 125 #[.pointer (some ⟨b, 0, none⟩), .int .i64 fI, .int .i64 tI, vn] w fun e w' => e = .returned (.tuple #[]) ∧ RefTo w w' b (refFp b vl fa fq vs) (r.put ls) := by
  subst hfI
  subst htI
  have h60 := hok.few
  have hn60 : news.length ≤ 60 := by
    have := hok2.few
    rw [← hls] at this
    simp only [List.length_append] at this
    omega
  have hAt := h
  obtain ⟨hc, hf⟩ := cells_of h.cells
  have hbw : b < w.heap.size := lt_of_heap h.cells
  have hrest : ∀ (v3 : Value) (w3 : World), SR w w3 v3 ls → RefAt (w3.setCell ⟨b, 0, none⟩ v3) b { r with lines := ls } v3 va vq vs fa fq ∧ Kept (fun x => x ∈ refFp b vl fa fq vs) w (w3.setCell ⟨b, 0, none⟩ v3) ∧ ∀ x ∈ refFp b v3 fa fq vs, x ∈ refFp b vl fa fq vs ∨ w.heap.size ≤ x := fun v3 w3 hs => by
    have h3 := h.kept hs.kept (fun _ _ h => h)
    obtain ⟨⟨a1, a2, a3, a4⟩, ⟨b1, b2, b3⟩, ⟨c1, c2⟩, d1⟩ := h.ap
    have hk : Kept (fun x => x = b) w3 (w3.setCell ⟨b, 0, none⟩ v3) := Kept.cell1
    have hlt := h.lt
    have hfr := hs.fresh
    have hap : ∀ l : List Nat, (∀ x ∈ l, x < w.heap.size) → ∀ x ∈ fpv v3, x ∉ l := fun l hl x hx hx2 => by have := hfr x hx; have := hl x hx2; omega
    refine ⟨⟨?_, hs.row.kept hk (fun x hx e => by have := hfr x hx; have e : x = b := e; omega), h3.acts.kept hk (fun x hx e => a2 (e ▸ hx)), h3.last.kept hk (fun x hx e => a3 (e ▸ hx)), h3.since.kept hk (fun x hx e => a4 (e ▸ hx)), ?_⟩, ?_, ?_⟩
    · rw [heap_set_same h3.cells]; simp
    · refine apart_mk ⟨fun hx => by have := hfr b hx; omega, a2, a3, a4⟩ ⟨hap _ h.acts.lt, hap _ h.last.lt, hap _ h.since.lt⟩ ⟨c1, c2⟩ d1
    · exact (hs.kept.mono (T := fun x => x ∈ refFp b vl fa fq vs) (fun _ h _ => h.elim)).step' hk (fun x e _ => by have e : x = b := e; show x ∈ refFp b vl fa fq vs; simp [e])
    · intro x hx
      simp only [refFp, List.mem_cons, List.mem_append] at hx ⊢
      rcases hx with hx | hx | hx | hx | hx
      · exact .inl (.inl hx)
      · exact .inr (hfr x hx)
      · exact .inl (.inr (.inr (.inl hx)))
      · exact .inl (.inr (.inr (.inr (.inl hx))))
      · exact .inl (.inr (.inr (.inr (.inr hx))))
  have hedit : ∀ (v3 : Value) (w4 : World), RefAt w4 b { r with lines := ls } v3 va vq vs fa fq → Calls Tryz.prog 143 #[.pointer (some ⟨b, 0, none⟩)] w4 fun e w' => e = .returned (.tuple #[]) ∧ RefTo w4 w' b (refFp b v3 fa fq vs) (RefS.edit { r with lines := ls }) := fun v3 w4 h4 =>
    ref_edit h4 hok2 hfl hsn hed hbe hev
  rcases h.linesSeen (a := frm) (by omega) with ⟨rfl, hnil⟩ | ⟨g, c, rfl, hc1, hc2, hS1, hS2⟩
  · rw [hnil] at hto hls
    simp only [List.length_nil] at hto
    obtain rfl : til = 0 := by omega
    obtain rfl : frm = 0 := by omega
    have hSN := hN
    simp only [List.take_nil, List.drop_nil, List.nil_append, List.append_nil] at hls
    subst hls
    go_enter Tryz.func125, Tryz.ntmps125
    have h0 : SR w w (.slice none 0 0) [] := SR.nil w
    have hln : ([] ++ news).length + ([] : List Str).length ≤ 1000000 := by simp; omega
    go_upto_region 2 with fail
    generalize Value.slice none 0 0 = v0 at h0 ⊢
    go_wp2_with (at_builtin; apply hold)
    delta Hid
    refine wpList_sr rfl _ _ rfl rfl h0 rfl hSN (by simp; omega) (fun v2 w2 h2 => ?_)
    have hc2 : w2.cell? ⟨b, 0, none⟩ = some (.slice none 0 0) := h2.kept.read (by rw [hc]; simp) (fun h => h)
    clear hc hf
    go_wp2_with (at_builtin; apply hold)
    delta Hid
    refine wpList_sr rfl _ _ rfl rfl h2 (news := []) (fp := []) rfl (Seen.nil w2) hln (fun v3 w3 h3 => ?_)
    rw [List.nil_append, List.append_nil] at h3
    obtain ⟨h4, hk4, hx4⟩ := hrest v3 w3 h3
    obtain ⟨p3, c3, rfl⟩ := h3.row.slice
    obtain ⟨hc3, hf3⟩ := cells_of (hAt.kept h3.kept (fun _ _ h => h)).cells
    go_wp2_with fail
    refine (hedit _ _ h4).mono ?_
    rintro e w5 ⟨rfl, hT⟩
    go_wp2
    go_end0
    exact ⟨rfl, hT.step hk4 hx4⟩
  · have hS2' := hS2 til hto
    clear hS2
    have h0 := SR.nil w
    have HLS : Hid (r.lines.take frm ++ news ++ r.lines.drop til = ls) := hls
    clear hls
    generalize hn : r.lines.length = n at *
    go_enter Tryz.func125, Tryz.ntmps125
    go_upto_region 1 with fail
    generalize Value.slice none 0 0 = v0 at h0 ⊢
    go_wp2_with (at_builtin; apply hold)
    delta Hid
    refine wpList_sr rfl _ _ rfl rfl h0 rfl hS1 (by simp only [List.length_take, List.length_nil]; omega) (fun v1 w1 h1 => ?_)
    go_wp2_with (at_builtin; apply hold)
    delta Hid
    refine wpList_sr rfl _ _ rfl rfl h1 rfl (hN.kept h1.kept (fun _ _ h => h)) (by simp only [List.nil_append, List.length_take]; omega) (fun v2 w2 h2 => ?_)
    have hc2 : w2.cell? ⟨b, 0, none⟩ = some (.slice (some ⟨g, 0, none⟩) n c) := h2.kept.read (by rw [hc]; simp [hn]) (fun h => h)
    have hS3 := hS2'.kept h2.kept (fun _ _ h => h)
    have hSa : c = til → Seen w2 (.slice (some ⟨g, 0, none⟩) (n - til) 0) (r.lines.drop til).length ((r.lines.drop til).map sv) [g] := fun e => by
      have hz : r.lines.drop til = [] := List.drop_eq_nil_of_le (by omega)
      rw [hz, show n - til = 0 by omega]
      exact .inr ⟨g, 0, 0, rfl, Nat.le_refl _, by decide, rfl, Nat.lt_of_lt_of_le (hAt.lines.lt g (by simp [fpv_some])) h2.kept.size, fun j u hj => by simp at hj⟩
    have hln : ([] ++ r.lines.take frm ++ news).length + (r.lines.drop til).length ≤ 1000000 := by simp only [List.nil_append, List.length_take, List.length_append, List.length_drop]; omega
    clear hc hf
    go_wp2_with (at_builtin; apply hold)
    all_goals
      delta Hid
      refine wpList_sr rfl _ _ rfl rfl h2 (news := r.lines.drop til) (fp := [g]) rfl ?_ hln (fun v3 w3 h3 => ?_)
      ·
        first | exact hSa (by assumption) | exact hSa (Eq.symm (by assumption)) | exact hS3
      rw [List.nil_append, HLS.out] at h3
      obtain ⟨h4, hk4, hx4⟩ := hrest v3 w3 h3
      obtain ⟨p3, c3, rfl⟩ := h3.row.slice
      obtain ⟨hc3, hf3⟩ := cells_of (hAt.kept h3.kept (fun _ _ h => h)).cells
      go_wp2_with fail
      refine (hedit _ _ h4).mono ?_
      rintro e w5 ⟨rfl, hT⟩
      go_wp2
      go_end0
      exact ⟨rfl, hT.step hk4 hx4⟩
end Go.Proofs.YtdpfohgkikjeaaaGreat
/- begun. -/
namespace Go.Proofs.YtdpfohgkikjeaaaGreat
open Go.RowKit
set_option linter.unusedVariables false
set_option linter.unusedSimpArgs false

abbrev viewT : TypeId := 44
theorem look_doc {w b d fp} (h : DocR w b d fp) : Calls Tryz.prog 19 #[.pointer (some ⟨b, 0, none⟩)] w fun e w' => e = .returned (.agg #[.int .i64 (d.lines.length : Int), .int .i64 (d.edits : Int), .int .i64 (d.kind : Int)]) ∧ Kept no w w' := by
  obtain ⟨va, tfp, afp, h, rfl⟩ := h
  exact look_any h

/-- A view that lies in a block of its own. -/
theorem view_new (w : World) (a b c : Int) : ∃ w', ((((w.alloc (Obj.cells #[.int .i64 0, .int .i64 0, .int .i64 0] viewT)).setCell ⟨w.heap.size, 0, none⟩ (.int .i64 a)).setCell ⟨w.heap.size, 1, none⟩ (.int .i64 b)).setCell ⟨w.heap.size, 2, none⟩ (.int .i64 c)) = w' ∧ w'.heap[w.heap.size]? = some (.cells #[.int .i64 a, .int .i64 b, .int .i64 c] viewT (0, 0)) ∧ Kept no w w' ∧ w'.heap.size = w.heap.size + 1 := by
  obtain ⟨h1, h2, h3⟩ := new1 w (Obj.cells #[.int .i64 0, .int .i64 0, .int .i64 0] viewT)
  obtain ⟨hs1, hs2⟩ := stored3 (v0 := .int .i64 a) (v1 := .int .i64 b) (v2 := .int .i64 c) h1
  exact ⟨_, rfl, hs1, h3.step' hs2 (fun x hx hlt => by omega), by simp⟩

set_option maxRecDepth 100000 in
set_option maxHeartbeats 1000000 in
theorem begun_no {w b d k texts files n bx bd vt vf fx fd ft ff} (h : DeskM w b d k texts files n bx bd vt vf fx fd ft ff) (hk : d.kind ≠ 1) :
    Calls Tryz.prog 41 #[.pointer (some ⟨b, 0, none⟩)] w fun e w' => e = .returned (.tuple #[]) ∧ Kept no w w' := by
  obtain ⟨hc, hf⟩ := cells_of h.cells
  have hkk : ¬ (d.kind : Int) = 1 := by omega
  go_enter Tryz.func41, Tryz.ntmps41
  go_wp2_with fail
  refine (look_doc h.doc).mono ?_
  rintro e w1 ⟨rfl, hk1⟩
  go_wp2_with fail
  go_end0
  exact ⟨rfl, hk1.alloc _⟩

set_option maxRecDepth 100000 in
set_option maxHeartbeats 1000000 in
theorem begun_yes {w b d k texts files n bx bd vt vf fx fd ft ff} (h : DeskM w b d k texts files n bx bd vt vf fx fd ft ff) (hk : d.kind = 1) (hn : texts.length ≤ 1000000000000) :
    Calls Tryz.prog 41 #[.pointer (some ⟨b, 0, none⟩)] w fun e w' => e = .returned (.tuple #[]) ∧ ∃ vt' ft', DeskM w' b d k (texts ++ [n.now]) files { n with since := 0 } bx bd vt' vf fx fd ft' ff ∧ (∀ x ∈ ft', x ∈ ft ∨ w.heap.size ≤ x) ∧ Kept (fun x => x ∈ deskFp b fx fd ft ff) w w' := by
  obtain ⟨hc, hf⟩ := cells_of h.cells
  have hkk : (d.kind : Int) = 1 := by omega
  go_enter Tryz.func41, Tryz.ntmps41
  go_wp2_with fail
  refine (look_doc h.doc).mono ?_
  rintro e w1 ⟨rfl, hk1⟩
  go_wp2_with fail
  have hk2 := hk1.alloc (Obj.cells #[.int .i64 (d.lines.length : Int), .int .i64 (d.edits : Int), .int .i64 1] viewT)
  generalize hW : w1.alloc (Obj.cells #[.int .i64 (d.lines.length : Int), .int .i64 (d.edits : Int), .int .i64 1] viewT) = w2 at hk2 ⊢
  clear hW hc hf
  have h2 := h.kept hk2 (fun _ _ h => h)
  obtain ⟨hc2, _⟩ := cells_of h2.cells
  have hbt : b ∉ ft := h.ap.1.2.2.1
  have hT : ∀ W, Kept (fun x => x ∈ ft) w2 W → W.cell? ⟨b, 2, none⟩ = some vt := fun W hW => hW.read (by rw [hc2]; rfl) hbt
  have hN : ∀ W, Kept (fun x => x ∈ ft) w2 W → W.cell? ⟨b, 4, none⟩ = some (sv n.now) := fun W hW => hW.read (by rw [hc2]; rfl) hbt
  refine wp_region3 (fun W => Kept (fun x => x ∈ ft) w2 W) [(0, true), (1, true), (2, true), (3, true), (4, false), (5, true), (6, true), (7, true), (8, false)] [9, 10, 11, 12, 13] (by kernel_rfl) (by kernel_rfl) (fun _ _ d _ _ h => by cases d <;> exact h) ((Kept.refl _ _).drew) ?_
  repeat ((first | refine wpPre3_pure rfl rfl (fun W => (by go_simp; rfl)) ?_ | refine wpPre3_read rfl rfl (fun W hW => (by have h1 := hT W hW; have h2 := hN W hW; go_simp; rfl)) ?_); simp only [Act.put, List.setIfInBounds_toArray, List.set])
  refine wpPre3_nil ?_
  have hk3 : Kept no w2 w2.drew := (Kept.refl _ _).drew
  have h3 := h2.kept hk3 (fun _ _ h => h)
  generalize w2.drew = w3 at hk3 h3 ⊢
  refine wpTail3_cons rfl rfl (fun K hK => ?_)
  go_wp2_with fail
  refine ⟨fun hh => hh.alloc _, ?_⟩
  obtain ⟨hn4, hsz4, hk4⟩ := new1 w3 (Obj.cells #[sv n.now] strT)
  have h4 := h3.kept hk4 (fun _ _ h => h)
  generalize hG : w3.heap.size = G at hn4 hsz4 ⊢
  generalize w3.alloc (Obj.cells #[sv n.now] strT) = w4 at hn4 hsz4 hk4 h4 ⊢
  refine wpTail3_cons rfl rfl (fun K hK => ?_)
  refine wp_push_text _ _ rfl vt texts ft rfl h4.texts G 1 n.now rfl (by rw [(cells_of hn4).1]; rfl) (by omega) ?_
  intro vt' w5 ft' ht5 hk5 hx5 hvt
  refine hK _ _ ⟨fun hh => hh.step hk5, ?_⟩
  clear hK
  obtain ⟨pv, cv, rfl⟩ := hvt
  obtain ⟨hb5, hd5, hk5', hf5, hap5⟩ := h4.grewT hk5 hx5
  have h5 : DeskM w5 b d k texts files n bx bd vt vf fx fd ft ff → True := fun _ => trivial
  obtain ⟨hc5, hfz5⟩ := cells_of hb5
  refine wpTail3_last (by kernel_rfl) rfl rfl (fun K hK => ?_)
  go_wp2_with fail
  refine wpTail3_last (by kernel_rfl) rfl rfl (fun K hK => ?_)
  go_wp2_with fail
  refine wpTail3_last (by kernel_rfl) rfl rfl (fun K hK => ?_)
  go_wp2_with fail
  refine wpTail3_nil ?_
  go_wp2
  go_end0
  have hks : Kept (fun x => x = b) w5 ((w5.setCell ⟨b, 2, none⟩ (.slice pv (texts.length + 1) cv)).setCell ⟨b, 6, none⟩ (.int .i64 0)) := Kept.cell1.step Kept.cell1
  have hcs : ((w5.setCell ⟨b, 2, none⟩ (.slice pv (texts.length + 1) cv)).setCell ⟨b, 6, none⟩ (.int .i64 0)).heap[b]? = some (.cells (deskCells bx bd (.slice pv (texts.length + 1) cv) vf { n with since := 0 }) deskT (0, 0)) := by
    rw [heap_set_same (heap_set_same hb5)]; simp
  have hkw : Kept no w w4 := (hk2.step hk3).step hk4
  have ha : b ∉ fx ∧ b ∉ fd ∧ b ∉ ft' ∧ b ∉ ff := by
    have := hap5
    simp [Apart, List.pairwise_cons] at this
    exact this.1
  refine ⟨rfl, _, ft', ⟨hcs, hd5.kept hks (fun x hx e => ha.1 (e ▸ hx)), hk5'.kept hks (fun x hx e => ha.2.1 (e ▸ hx)), ht5.kept hks (fun x hx e => ha.2.2.1 (e ▸ hx)), hf5.kept hks (fun x hx e => ha.2.2.2 (e ▸ hx)), hap5⟩, fun x hx => ?_, ?_⟩
  · rcases hx5 x hx with hx | hx
    · exact .inl hx
    · have := hkw.size; exact .inr (by omega)
  · exact ((hkw.mono (T := fun x => x ∈ deskFp b fx fd ft ff) (fun _ h _ => h.elim)).step' hk5 (fun x hx _ => by have hx : x ∈ ft := hx; show x ∈ deskFp b fx fd ft ff; simp [hx])).step' hks (fun x e _ => by have e : x = b := e; show x ∈ deskFp b fx fd ft ff; simp [e])
end Go.Proofs.YtdpfohgkikjeaaaGreat

/- Part 5 of the proof: see its parts. -/
import Derived.Lib.Overlaps
import Derived.Laws.Externs
import Derived.Laws.IdiomCopy
import Derived.Lib.AppendZerosOnto
import Derived.Test.YtdpfohgkikjeaaaGreatU2
import Derived.Test.YtdpfohgkikjeaaaGreatU4
/- The library's Insert, Delete and Clone on rows that are owned, twice: of strings and of nodes' addresses. -/
namespace Go.Proofs.YtdpfohgkikjeaaaGreat
open Go.RowKit
set_option linter.unusedVariables false
set_option linter.unusedSimpArgs false

theorem heap_setCells_other {g : Nat} {k : Nat} (hk : g ≠ k) : ∀ (vs : List Value) (o : Nat) (w : World), (w.setCells g o vs).heap[k]? = w.heap[k]?
  | [], _, _ => rfl
  | v :: r, o, w => by rw [World.setCells, heap_setCells_other hk r, heap_set_other hk]

theorem heap_setCells {g : Nat} {e : TypeId} {f : Nat × Nat} : ∀ (vs : List Value) (o : Nat) (w : World) (cur : List Value), w.heap[g]? = some (.cells cur.toArray e f) → o + vs.length ≤ cur.length →
    (w.setCells g o vs).heap[g]? = some (.cells (cur.take o ++ vs ++ cur.drop (o + vs.length)).toArray e f)
  | [], o, w, cur, h, _ => by simpa [World.setCells] using h
  | v :: r, o, w, cur, h, hl => by
    simp only [List.length_cons] at hl
    have hq := heap_setCells (e := e) (f := f) r (o + 1) (w.setCell ⟨g, o, none⟩ v) (cur.set o v) (by rw [heap_set_same h]; simp) (by simp; omega)
    rw [World.setCells, hq]
    have e1 : (cur.set o v).take (o + 1) = cur.take o ++ [v] := by
      rw [List.take_add_one, List.take_set_of_le (by omega)]
      simp [List.getElem?_set_self (show o < cur.length by omega)]
    have e2 : (cur.set o v).drop (o + 1 + r.length) = cur.drop (o + 1 + r.length) := by rw [List.drop_set_of_lt (by omega)]
    rw [e1, e2]
    simp [Nat.add_comm, Nat.add_left_comm]

theorem Kept.setCells {S : Blocks} {a : World} {g : Nat} (hg : g < a.heap.size → S g) : ∀ (vs : List Value) (o : Nat) {b : World}, Kept S a b → Kept S a (b.setCells g o vs)
  | [], _, _, h => h
  | v :: r, o, b, h => by rw [World.setCells]; exact Kept.setCells hg r (o + 1) (h.setCell (p := ⟨g, o, none⟩) hg v)

/-- What a copy into a row leaves. -/
structure Copied (w w' : World) (g o : Nat) (cur cs : List Value) (e : TypeId) : Prop where
  row : w'.heap[g]? = some (.cells (cur.take o ++ cs ++ cur.drop (o + cs.length)).toArray e (0, 0))
  kept : Kept (fun k => k = g) w w'

theorem run_copy_row {P : Program} {t e : TypeId} {bytes : Nat} (T : SliceTy P t e 1 bytes) (ty : TypeId) (w : World) (g o dl dc : Nat) (cur : List Value) (hg : w.heap[g]? = some (.cells cur.toArray e (0, 0)))
    (g' o' sl sc : Nat) (cs : List Value) (hn : cs.length = min sl dl) (hsrc : ∀ j v, cs[j]? = some v → w.cell? ⟨g', o' + j, none⟩ = some v) (hin : o + cs.length ≤ cur.length) (h1 : ∀ v ∈ cs, v.oneCell' = true) :
    ∃ w', (Builtin.copy_ #[t, t] ty #[.slice (some ⟨g, o, none⟩) dl dc, .slice (some ⟨g', o', none⟩) sl sc]).run P w = .ok (goInt cs.length) w' ∧ Copied w w' g o cur cs e := by
  obtain ⟨i, z, hi, hz, hs, hb, hzs⟩ := T.info
  obtain ⟨hc, hf⟩ := cells_of hg
  refine ⟨_, run_copy_cells w t t ty e g o dl dc ⟨g', o', none⟩ sl sc cs T.under (by rw [hi]; simp [hs]) hn (fun j v hj => by rw [add_at]; exact hsrc j v hj) (fun j hj => ?_) (fun j _ => hf _) h1, heap_setCells cs o w cur hg hin, Kept.setCells (S := fun k => k = g) (fun _ => rfl) cs o (Kept.refl _ _)⟩
  rw [hc, List.getElem?_toArray, List.getElem?_eq_getElem (by omega)]; rfl

section
variable {P : Program} {w : World} {ops : Array Oper} {rest : List Oper} {o : Oper} {a : Act} {Q : Exit → Act → World → Prop}
theorem wp_copy_row {K : Act → World → Prop} (d s : Operand) (t : TypeId) (ho : o.op = .call { callee := .builtin .copy, args := #[d, s], argTypes := #[t, t] })
    {e : TypeId} {bytes : Nat} (T : SliceTy P t e 1 bytes) {g at' dl dc : Nat} (hd : a.eval d = .slice (some ⟨g, at', none⟩) dl dc) (cur : List Value) (hg : w.heap[g]? = some (.cells cur.toArray e (0, 0)))
    {g' o' sl sc : Nat} (hs : a.eval s = .slice (some ⟨g', o', none⟩) sl sc) (cs : List Value) (hn : cs.length = min sl dl) (hsrc : ∀ j v, cs[j]? = some v → w.cell? ⟨g', o' + j, none⟩ = some v) (hin : at' + cs.length ≤ cur.length) (h1 : ∀ v ∈ cs, v.oneCell' = true)
    (h : ∀ w', Copied w w' g at' cur cs e → K (a.put o.dst (goInt cs.length)) w') : o.wp P a w K Q := by
  obtain ⟨w', hr, hw⟩ := run_copy_row T o.type w g at' dl dc cur hg g' o' sl sc cs hn hsrc hin h1
  unfold Oper.wp execOp
  simp only [ho, resolve, invoke, builtin, Sem.run_bind, Sem.run_pure, Result.andThen_ok, List.map_toArray, List.map_cons, List.map_nil, hd, hs, hr]
  exact h w' hw

theorem wpList_copy_row (hgd : o.guard = none) (d s : Operand) (t : TypeId) (ho : o.op = .call { callee := .builtin .copy, args := #[d, s], argTypes := #[t, t] })
    {e : TypeId} {bytes : Nat} (T : SliceTy P t e 1 bytes) {g at' dl dc : Nat} (hd : a.eval d = .slice (some ⟨g, at', none⟩) dl dc) (cur : List Value) (hg : w.heap[g]? = some (.cells cur.toArray e (0, 0)))
    {g' o' sl sc : Nat} (hs : a.eval s = .slice (some ⟨g', o', none⟩) sl sc) (cs : List Value) (hn : cs.length = min sl dl) (hsrc : ∀ j v, cs[j]? = some v → w.cell? ⟨g', o' + j, none⟩ = some v) (hin : at' + cs.length ≤ cur.length) (h1 : ∀ v ∈ cs, v.oneCell' = true)
    (h : ∀ w', Copied w w' g at' cur cs e → wpList P ops Q rest (a.put o.dst (goInt cs.length)) w') : wpList P ops Q (o :: rest) a w :=
  wpList_plain hgd fun _ hK => wp_copy_row d s t ho T hd cur hg hs cs hn hsrc hin h1 (fun w' hw => hK _ _ (h w' hw))

/-- append(v, make([]T, k)..), where there is no room. -/
theorem wpList_zeros (hgd : o.guard = none) (s x : Operand) (t tn : TypeId) (ho : o.op = .call { callee := .builtin .append, args := #[s, x], argTypes := #[t, tn] })
    {e : TypeId} {bytes : Nat} (T : SliceTy P t e 1 bytes) (htn : P.underlying tn = some (.int .i64)) {g n c : Nat} (hs : a.eval s = .slice (some ⟨g, 0, none⟩) n c) (k : Nat) (hx : a.eval x = .int .i64 (k : Int)) (xs : List Value) (hl : xs.length = n)
    (hxs : ∀ j u, xs[j]? = some u → w.cell? ⟨g, j, none⟩ = some u) (h0 : 0 < k) (hg : c < n + k) (hb : bytes ≤ 64) (hn : n + k ≤ 1099511627776) (m : Nat) (hm : n + k = m)
    (h : ∀ w' c', n + k ≤ c' → c' ≤ maxLen → ∀ zs : List Value, zs.length = c' - n → w'.heap[w.heap.size]? = some (.cells (xs ++ zs).toArray e (0, 0)) → Kept no w w' → w.heap.size < w'.heap.size → wpList P ops Q rest (a.put o.dst (.slice (some ⟨w.heap.size, 0, none⟩) m c')) w') : wpList P ops Q (o :: rest) a w := by
  subst hm
  obtain ⟨i, z, hi, hz, hsz, hby, hzs⟩ := T.info
  have hbb : (n + k) * bytes ≤ 140737488355328 := Nat.le_trans (Nat.mul_le_mul hn hb) (by omega)
  have hr := fun ty => Lib.run_append_grow_zeros w t tn ty e i z .i64 .i64 T.under htn hi hz (some ⟨g, 0, none⟩) n c xs (by rw [hsz]; exact run_firstCells_some w.drew 1 n ⟨g, 0, none⟩ n c xs (by omega) (fun j u hj => by rw [add_at, Nat.zero_add]; exact hxs j u hj)) k h0 (by omega) hg (by omega)
    (by rw [hby]; have : k * bytes ≤ (n + k) * bytes := Nat.mul_le_mul (by omega) (Nat.le_refl _); omega) (by rw [hby]; exact growslice_fits (by omega) hbb)
  refine wpList_plain hgd fun K hK => ?_
  unfold Oper.wp execOp
  simp only [ho, resolve, invoke, builtin, Sem.run_bind, Sem.run_pure, Result.andThen_ok, List.map_toArray, List.map_cons, List.map_nil, hs, hx, hr]
  have hge := grownCap_ge w (n + k) c e
  refine hK _ _ (h _ _ hge (grownCap_le_maxLen w (n + k) c e (by simp only [maxLen]; omega)) (Builtin.zeroCells z.cells k ++ Builtin.zeroCells z.cells (grownCap w (n + k) c e - (n + k))).toList (by simp [size_zeroCells, hzs, hsz]; omega) ?_ (((Kept.refl _ _).drew).alloc _) (by simp))
  refine (heap_alloc_same (w := w.drew)).trans ?_
  simp [Array.append_assoc]
end

theorem tyS : SliceTy Tryz.prog 34 9 1 16 := SliceTy.mk' (z := (Value.string ⟨#[]⟩)) (by kernel_rfl) (by kernel_rfl) rfl (by decide)
theorem tyK : SliceTy Tryz.prog 86 141 1 8 := SliceTy.mk' (z := (Value.pointer none)) (by kernel_rfl) (by kernel_rfl) rfl (by decide)

theorem get1 {w : World} {g : Nat} {x : Value} (h : w.cell? ⟨g, 0, none⟩ = some x) : ∀ j v, [x][j]? = some v → w.cell? ⟨g, 0 + j, none⟩ = some v := fun j v hj => by
  match j, hj with
  | 0, hj => simp at hj; subst hj; simpa using h

section
variable {P : Program} {w : World} {ops : Array Oper} {rest : List Oper} {o : Oper} {a : Act} {Q : Exit → Act → World → Prop}
/-- append where there is room. -/
theorem wp_app_room {K : Act → World → Prop} (s x : Operand) (t : TypeId) (ho : o.op = .call { callee := .builtin .append, args := #[s, x], argTypes := #[t, t] })
    {e : TypeId} {bytes : Nat} (T : SliceTy P t e 1 bytes) {g n c : Nat} (hs : a.eval s = .slice (some ⟨g, 0, none⟩) n c) (cur : List Value) (hg : w.heap[g]? = some (.cells cur.toArray e (0, 0))) (hcl : cur.length = c)
    {g' o' m c' : Nat} (hx : a.eval x = .slice (some ⟨g', o', none⟩) m c') (cs : List Value) (hl : cs.length = m) (hsrc : ∀ j v, cs[j]? = some v → w.cell? ⟨g', o' + j, none⟩ = some v) (hroom : n + m ≤ c) (h1 : ∀ v ∈ cs, v.oneCell' = true)
    (h : ∀ w', Copied w w' g n cur cs e → K (a.put o.dst (.slice (some ⟨g, 0, none⟩) (n + m) c)) w') : o.wp P a w K Q := by
  obtain ⟨i, z, hi, hz, hsz, hb, hzs⟩ := T.info
  obtain ⟨hc, hf⟩ := cells_of hg
  have hr := fun ty => run_append_room_cells (P := P) (w := w) t ty e i T.under hi g 0 n c ⟨g', o', none⟩ m c' cs (by rw [hsz]; omega) (fun j v hj => by rw [add_at]; exact hsrc j v hj) h1 hroom (fun j hj => by rw [hc, List.getElem?_toArray, hsz, List.getElem?_eq_getElem (by omega)]; rfl) (fun j _ => hf _)
  simp only [hsz, Nat.mul_one, Nat.zero_add] at hr
  unfold Oper.wp execOp
  simp only [ho, resolve, invoke, builtin, Sem.run_bind, Sem.run_pure, Result.andThen_ok, List.map_toArray, List.map_cons, List.map_nil, hs, hx, hr]
  exact h _ ⟨heap_setCells cs n w cur hg (by omega), Kept.setCells (S := fun k => k = g) (fun _ => rfl) cs n (Kept.refl _ _)⟩

theorem wpList_clear_row (hgd : o.guard = none) (s : Operand) (t : TypeId) (ho : o.op = .call { callee := .builtin .clear, args := #[s], argTypes := #[t] })
    {e : TypeId} (ht : P.underlying t = some (.slice e)) {z : Value} (hv : ∀ w, (zeroValue e).run P w = .ok z w) (hz : z.cells = #[z]) (h1 : z.oneCell' = true) {g at' n c : Nat} (hs : a.eval s = .slice (some ⟨g, at', none⟩) n c) (h0 : 0 < n)
    (cur : List Value) (hg : w.heap[g]? = some (.cells cur.toArray e (0, 0))) (hin : at' + n ≤ cur.length)
    (h : ∀ w', Copied w w' g at' cur (List.replicate n z) e → wpList P ops Q rest (a.put o.dst (.tuple #[])) w') : wpList P ops Q (o :: rest) a w := by
  obtain ⟨hc, hf⟩ := cells_of hg
  have hr := fun ty => Lib.run_clear_slice (P := P) w t e ty z ht hv hz h1 g at' n c h0 (fun j hj => by rw [hc, List.getElem?_toArray, List.getElem?_eq_getElem (by omega)]; rfl) (fun j _ => hf _)
  refine wpList_plain hgd fun K hK => ?_
  unfold Oper.wp execOp
  simp only [ho, resolve, invoke, builtin, Sem.run_bind, Sem.run_pure, Result.andThen_ok, List.map_toArray, List.map_cons, List.map_nil, hs, hr]
  exact hK _ _ (h _ ⟨heap_setCells _ at' w cur hg (by simp; omega), Kept.setCells (S := fun k => k = g) (fun _ => rfl) _ at' (Kept.refl _ _)⟩)
end

theorem splice_shift (cur xs : List Value) (x : Value) (i n : Nat) (hi : i < n) (hxs : cur.take n = xs) (hl : n + 1 ≤ cur.length) :
    ((cur.take (i + 1) ++ xs.drop i ++ cur.drop (i + 1 + (xs.drop i).length)).take i ++ [x] ++ (cur.take (i + 1) ++ xs.drop i ++ cur.drop (i + 1 + (xs.drop i).length)).drop (i + [x].length)) = xs.take i ++ x :: xs.drop i ++ cur.drop (n + 1) := by
  have h1 : xs.length = n := by rw [← hxs, List.length_take]; omega
  have h2 : (cur.take (i + 1)).length = i + 1 := by rw [List.length_take]; omega
  have h3 : (xs.drop i).length = n - i := by rw [List.length_drop, h1]
  have h4 : i + 1 + (n - i) = n + 1 := by omega
  rw [h3, h4, List.append_assoc, List.append_assoc, List.take_append_of_le_length (by omega), List.take_take, show min i (i + 1) = i by omega]
  rw [show i + [x].length = (cur.take (i + 1)).length by rw [h2]; rfl, List.drop_left]
  have h5 : cur.take i = xs.take i := by rw [← hxs, List.take_take, show min i n = i by omega]
  rw [h5]; simp

theorem splice_grow (xs : List Value) (x : Value) (i c : Nat) (zs : List Value) (hi : i < c) (hxl : xs.length = c) (hz : c + 1 - i ≤ zs.length) :
    (((xs.take i ++ zs).take i ++ [x] ++ (xs.take i ++ zs).drop (i + [x].length)).take (i + 1) ++ xs.drop i ++ ((xs.take i ++ zs).take i ++ [x] ++ (xs.take i ++ zs).drop (i + [x].length)).drop (i + 1 + (xs.drop i).length)) = xs.take i ++ x :: xs.drop i ++ zs.drop (c + 1 - i) := by
  have h1 : (xs.take i).length = i := by rw [List.length_take]; omega
  have h2 : (xs.drop i).length = c - i := by rw [List.length_drop, hxl]
  have e1 : (xs.take i ++ zs).take i = xs.take i := List.take_left' h1
  have e2 : (xs.take i ++ zs).drop (i + [x].length) = zs.drop 1 := by
    rw [List.drop_append, h1, List.drop_eq_nil_of_le (by simp; omega)]; simp
  rw [e1, e2, h2]
  have h3 : (xs.take i ++ [x]).length = i + 1 := by simp [h1]
  rw [List.take_left' h3, List.drop_append, h3, List.drop_eq_nil_of_le (show (xs.take i ++ [x]).length ≤ i + 1 + (c - i) by rw [h3]; omega), List.drop_drop, show 1 + (i + 1 + (c - i) - (i + 1)) = c + 1 - i by omega]
  simp

set_option maxHeartbeats 2000000 in
theorem insert_endS (v : Value) (n : Nat) (xs : List Value) (x : Value) (g : Nat) (w : World) (hr : Row w 9 1 v n xs) (hg : w.heap[g]? = some (.cells #[x] 9 (0, 0))) (hx : x.oneCell' = true) (hn : n ≤ 1000000) :
    Calls Tryz.prog 138 #[v, .int .i64 (n : Int), .slice (some ⟨g, 0, none⟩) 1 1] w fun e w' => ∃ v', e = .returned v' ∧ Row w' 9 1 v' (n + 1) (xs ++ [x]) ∧ Grew w w' v v' := by
  have hc : w.cell? ⟨g, 0, none⟩ = some x := by obtain ⟨hc, _⟩ := cells_of hg; rw [hc]; rfl
  rcases hr.shape with ⟨rfl, rfl, rfl⟩ | ⟨gv, c, rfl, h1, h2⟩
  · go_enter Tryz.func138, Tryz.ntmps138
    go_wp2_with (at_builtin; refine wpList_push rfl _ _ 34 rfl tyS _ 0 [] rfl hr g 1 x rfl hc hx (by decide) (by omega) (fun v' w' hr' hg' => ?_))
    go_ret
    exact ⟨v', rfl, hr', hg'⟩
  · go_enter Tryz.func138, Tryz.ntmps138
    go_wp2_with (at_builtin; refine wpList_push rfl _ _ 34 rfl tyS _ n xs rfl hr g 1 x rfl hc hx (by decide) (by omega) (fun v' w' hr' hg' => ?_))
    all_goals (go_ret; exact ⟨_, rfl, hr', hg'⟩)
set_option maxHeartbeats 2000000 in
theorem insert_endK (v : Value) (n : Nat) (xs : List Value) (x : Value) (g : Nat) (w : World) (hr : Row w 141 1 v n xs) (hg : w.heap[g]? = some (.cells #[x] 141 (0, 0))) (hx : x.oneCell' = true) (hn : n ≤ 1000000) :
    Calls Tryz.prog 136 #[v, .int .i64 (n : Int), .slice (some ⟨g, 0, none⟩) 1 1] w fun e w' => ∃ v', e = .returned v' ∧ Row w' 141 1 v' (n + 1) (xs ++ [x]) ∧ Grew w w' v v' := by
  have hc : w.cell? ⟨g, 0, none⟩ = some x := by obtain ⟨hc, _⟩ := cells_of hg; rw [hc]; rfl
  rcases hr.shape with ⟨rfl, rfl, rfl⟩ | ⟨gv, c, rfl, h1, h2⟩
  · go_enter Tryz.func136, Tryz.ntmps136
    go_wp2_with (at_builtin; refine wpList_push rfl _ _ 86 rfl tyK _ 0 [] rfl hr g 1 x rfl hc hx (by decide) (by omega) (fun v' w' hr' hg' => ?_))
    go_ret
    exact ⟨v', rfl, hr', hg'⟩
  · go_enter Tryz.func136, Tryz.ntmps136
    go_wp2_with (at_builtin; refine wpList_push rfl _ _ 86 rfl tyK _ n xs rfl hr g 1 x rfl hc hx (by decide) (by omega) (fun v' w' hr' hg' => ?_))
    all_goals (go_ret; exact ⟨_, rfl, hr', hg'⟩)

set_option maxHeartbeats 4000000 in
set_option maxRecDepth 100000 in
theorem insert_shiftS (b n c i : Nat) (xs cur : List Value) (x : Value) (g : Nat) (w : World) (hb : w.heap[b]? = some (.cells cur.toArray 9 (0, 0))) (hcur : cur.length = c) (hxs : cur.take n = xs) (hgb : g ≠ b) (hg : w.heap[g]? = some (.cells #[x] 9 (0, 0))) (hx : x.oneCell' = true) (hone : ∀ u ∈ xs, u.oneCell' = true) (hi : i < n) (hroom : n + 1 ≤ c) (hn : n ≤ 1000000) (hc : c ≤ maxLen) :
    Calls Tryz.prog 138 #[.slice (some ⟨b, 0, none⟩) n c, .int .i64 (i : Int), .slice (some ⟨g, 0, none⟩) 1 1] w fun e w' => e = .returned (.slice (some ⟨b, 0, none⟩) (n + 1) c) ∧ w'.heap[b]? = some (.cells (xs.take i ++ x :: xs.drop i ++ cur.drop (n + 1)).toArray 9 (0, 0)) ∧ Kept (fun k => k = b) w w' := by
  simp only [maxLen] at hc
  have hov : ∀ lb cb, (callFunc 151 #[.slice (some ⟨g, 0, none⟩) 1 1, .slice (some ⟨b, i + 1, none⟩) lb cb]).run Tryz.prog w = .ok (.value (.bool false)) w := fun lb cb => by
    obtain ⟨_, hf⟩ := cells_of hg
    rw [run_callFunc_extern Tryz.func151 (by kernel_rfl) (by kernel_rfl) (by kernel_rfl) (e := Extern.SlicesOverlaps.overlaps #[34, 34] #[4]) (by kernel_rfl),
      Lib.run_overlaps_apart w 34 4 9 tyS.under 1 Tryz.sizeOf9 ⟨g, 0, none⟩ ⟨b, i + 1, none⟩ 1 1 lb cb hgb 9 9 1 c (by simp [World.shape?, hg]) (by simp [World.shape?, hb, hcur]) (by omega) (hf 0) (hf 1)]
    rfl
  have hw1 : IntKind.i64.wrap ((i : Int) + 1) = (i : Int) + 1 := by rw [IntKind.wrap_i64]; omega
  have hw2 : IntKind.i64.wrap ((n : Int) + 1) = (n : Int) + 1 := by rw [IntKind.wrap_i64]; omega
  have hne : ¬ ((i : Int) = (n : Int)) := by omega
  have hb1 : (0 : Int) ≤ (i : Int) + 1 := by omega
  have htn : ((i : Int) + 1).toNat = i + 1 := by omega
  have hb2 : ¬ (c = i + 1) := by omega
  have hb3 : (i : Int) ≤ (n : Int) + 1 := by omega
  have hb4 : ¬ (c = i) := by omega
  have hin : i ≤ n := by omega
  go_enter Tryz.func138, Tryz.ntmps138
  go_wp2_with (simp only [hov])
  refine wp_region_loud (fun _ => True) [0, 1, 2, 3, 4, 5, 6, 7] [8] (by kernel_rfl) (by kernel_rfl) (fun _ _ d _ _ h => by cases d <;> exact h) trivial ?_
  repeat (refine wpPre_cons rfl rfl (fun w' _ => (by go_simp; rfl)) ?_; simp only [Act.put, List.setIfInBounds_toArray, List.set])
  refine wpPre_nil ?_
  refine wpTail_cons rfl rfl (fun K hK => ?_)
  have hxl : xs.length = n := by rw [← hxs, List.length_take]; omega
  have hcell : ∀ j v, (xs.drop i)[j]? = some v → w.drew.cell? ⟨b, i + j, none⟩ = some v := fun j v hj => by
    obtain ⟨hcs, _⟩ := cells_of hb
    show w.cell? _ = _
    rw [hcs, List.getElem?_toArray]
    rw [List.getElem?_drop, ← hxs, List.getElem?_take] at hj
    split at hj
    · exact hj
    · cases hj
  refine wp_copy_row _ _ 34 rfl tyS rfl cur hb rfl (xs.drop i) (by simp; omega) hcell (by simp; omega) (fun v hv => hone v (List.mem_of_mem_drop hv)) (fun w1 h1 => hK _ _ ⟨trivial, ?_⟩)
  clear hK
  refine wpTail_nil ?_
  have hg1 : w1.heap[g]? = some (.cells #[x] 9 (0, 0)) := h1.kept.get (w := w.drew) hg hgb
  have hcx : w1.cell? ⟨g, 0, none⟩ = some x := by obtain ⟨hc, _⟩ := cells_of hg1; rw [hc]; rfl
  go_wp2_with (refine wpList_copy_row rfl _ _ 34 rfl tyS rfl _ h1.row rfl [x] (by simp only [List.length_cons, List.length_nil]; omega) (get1 hcx) (by simp only [List.length_append, List.length_take, List.length_drop, List.length_cons, List.length_nil]; omega) (by simpa using hx) (fun w2 h2 => ?_))
  go_ret
  refine ⟨rfl, ?_, (h1.kept.step h2.kept).of_drew⟩
  have e := h2.row
  rw [splice_shift cur xs x i n hi hxs (by omega)] at e
  exact e
set_option maxHeartbeats 4000000 in
set_option maxRecDepth 100000 in
theorem insert_shiftK (b n c i : Nat) (xs cur : List Value) (x : Value) (g : Nat) (w : World) (hb : w.heap[b]? = some (.cells cur.toArray 141 (0, 0))) (hcur : cur.length = c) (hxs : cur.take n = xs) (hgb : g ≠ b) (hg : w.heap[g]? = some (.cells #[x] 141 (0, 0))) (hx : x.oneCell' = true) (hone : ∀ u ∈ xs, u.oneCell' = true) (hi : i < n) (hroom : n + 1 ≤ c) (hn : n ≤ 1000000) (hc : c ≤ maxLen) :
    Calls Tryz.prog 136 #[.slice (some ⟨b, 0, none⟩) n c, .int .i64 (i : Int), .slice (some ⟨g, 0, none⟩) 1 1] w fun e w' => e = .returned (.slice (some ⟨b, 0, none⟩) (n + 1) c) ∧ w'.heap[b]? = some (.cells (xs.take i ++ x :: xs.drop i ++ cur.drop (n + 1)).toArray 141 (0, 0)) ∧ Kept (fun k => k = b) w w' := by
  simp only [maxLen] at hc
  have hov : ∀ lb cb, (callFunc 145 #[.slice (some ⟨g, 0, none⟩) 1 1, .slice (some ⟨b, i + 1, none⟩) lb cb]).run Tryz.prog w = .ok (.value (.bool false)) w := fun lb cb => by
    obtain ⟨_, hf⟩ := cells_of hg
    rw [run_callFunc_extern Tryz.func145 (by kernel_rfl) (by kernel_rfl) (by kernel_rfl) (e := Extern.SlicesOverlaps.overlaps #[86, 86] #[4]) (by kernel_rfl),
      Lib.run_overlaps_apart w 86 4 141 tyK.under 1 Tryz.sizeOf141 ⟨g, 0, none⟩ ⟨b, i + 1, none⟩ 1 1 lb cb hgb 141 141 1 c (by simp [World.shape?, hg]) (by simp [World.shape?, hb, hcur]) (by omega) (hf 0) (hf 1)]
    rfl
  have hw1 : IntKind.i64.wrap ((i : Int) + 1) = (i : Int) + 1 := by rw [IntKind.wrap_i64]; omega
  have hw2 : IntKind.i64.wrap ((n : Int) + 1) = (n : Int) + 1 := by rw [IntKind.wrap_i64]; omega
  have hne : ¬ ((i : Int) = (n : Int)) := by omega
  have hb1 : (0 : Int) ≤ (i : Int) + 1 := by omega
  have htn : ((i : Int) + 1).toNat = i + 1 := by omega
  have hb2 : ¬ (c = i + 1) := by omega
  have hb3 : (i : Int) ≤ (n : Int) + 1 := by omega
  have hb4 : ¬ (c = i) := by omega
  have hin : i ≤ n := by omega
  go_enter Tryz.func136, Tryz.ntmps136
  go_wp2_with (simp only [hov])
  refine wp_region_loud (fun _ => True) [0, 1, 2, 3, 4, 5, 6, 7] [8] (by kernel_rfl) (by kernel_rfl) (fun _ _ d _ _ h => by cases d <;> exact h) trivial ?_
  repeat (refine wpPre_cons rfl rfl (fun w' _ => (by go_simp; rfl)) ?_; simp only [Act.put, List.setIfInBounds_toArray, List.set])
  refine wpPre_nil ?_
  refine wpTail_cons rfl rfl (fun K hK => ?_)
  have hxl : xs.length = n := by rw [← hxs, List.length_take]; omega
  have hcell : ∀ j v, (xs.drop i)[j]? = some v → w.drew.cell? ⟨b, i + j, none⟩ = some v := fun j v hj => by
    obtain ⟨hcs, _⟩ := cells_of hb
    show w.cell? _ = _
    rw [hcs, List.getElem?_toArray]
    rw [List.getElem?_drop, ← hxs, List.getElem?_take] at hj
    split at hj
    · exact hj
    · cases hj
  refine wp_copy_row _ _ 86 rfl tyK rfl cur hb rfl (xs.drop i) (by simp; omega) hcell (by simp; omega) (fun v hv => hone v (List.mem_of_mem_drop hv)) (fun w1 h1 => hK _ _ ⟨trivial, ?_⟩)
  clear hK
  refine wpTail_nil ?_
  have hg1 : w1.heap[g]? = some (.cells #[x] 141 (0, 0)) := h1.kept.get (w := w.drew) hg hgb
  have hcx : w1.cell? ⟨g, 0, none⟩ = some x := by obtain ⟨hc, _⟩ := cells_of hg1; rw [hc]; rfl
  go_wp2_with (refine wpList_copy_row rfl _ _ 86 rfl tyK rfl _ h1.row rfl [x] (by simp only [List.length_cons, List.length_nil]; omega) (get1 hcx) (by simp only [List.length_append, List.length_take, List.length_drop, List.length_cons, List.length_nil]; omega) (by simpa using hx) (fun w2 h2 => ?_))
  go_ret
  refine ⟨rfl, ?_, (h1.kept.step h2.kept).of_drew⟩
  have e := h2.row
  rw [splice_shift cur xs x i n hi hxs (by omega)] at e
  exact e

set_option maxHeartbeats 4000000 in
set_option maxRecDepth 100000 in
theorem insert_growS (b n c i : Nat) (xs cur : List Value) (x : Value) (g : Nat) (w : World) (hb : w.heap[b]? = some (.cells cur.toArray 9 (0, 0))) (hcur : cur.length = c) (hxs : cur.take n = xs) (hg : w.heap[g]? = some (.cells #[x] 9 (0, 0))) (hx : x.oneCell' = true) (hone : ∀ u ∈ xs, u.oneCell' = true) (hi : i < n) (hnc : n ≤ c) (hroom : c < n + 1) (hn : n ≤ 1000000) :
    Calls Tryz.prog 138 #[.slice (some ⟨b, 0, none⟩) n c, .int .i64 (i : Int), .slice (some ⟨g, 0, none⟩) 1 1] w fun e w' => ∃ c' zs, e = .returned (.slice (some ⟨w.heap.size, 0, none⟩) (n + 1) c') ∧ n + 1 ≤ c' ∧ c' ≤ maxLen ∧ zs.length = c' - (n + 1) ∧ w'.heap[w.heap.size]? = some (.cells (xs.take i ++ x :: xs.drop i ++ zs).toArray 9 (0, 0)) ∧ Kept no w w' := by
  have hcn : c = n := by omega
  subst hcn
  have hbl := lt_of_heap hb
  have hgl := lt_of_heap hg
  have hw1 : IntKind.i64.wrap ((i : Int) + 1) = (i : Int) + 1 := by rw [IntKind.wrap_i64]; omega
  have hw2 : IntKind.i64.wrap ((c : Int) + 1) = (c : Int) + 1 := by rw [IntKind.wrap_i64]; omega
  have hw3 : IntKind.i64.wrap ((c : Int) + 1 - (i : Int)) = ((c + 1 - i : Nat) : Int) := by rw [IntKind.wrap_i64]; omega
  have hne : ¬ ((i : Int) = (c : Int)) := by omega
  have hb1 : (0 : Int) ≤ (i : Int) + 1 := by omega
  have htn : ((i : Int) + 1).toNat = i + 1 := by omega
  have hb4 : ¬ (c = i) := by omega
  have hin : i ≤ c := by omega
  have hxl : xs.length = c := by rw [← hxs, List.length_take]; omega
  have hcell : ∀ j v, (xs.take i)[j]? = some v → w.cell? ⟨b, j, none⟩ = some v := fun j v hj => by
    obtain ⟨hcs, _⟩ := cells_of hb
    rw [hcs, List.getElem?_toArray]
    rw [← hxs, List.getElem?_take, List.getElem?_take] at hj
    split at hj
    · split at hj
      · exact hj
      · cases hj
    · cases hj
  go_enter Tryz.func138, Tryz.ntmps138
  have htl : (xs.take i).length = i := by rw [List.length_take]; omega
  have hdl : (xs.drop i).length = c - i := by rw [List.length_drop, hxl]
  go_wp2_with (first
    | (at_builtin
       refine wpList_zeros rfl _ _ 34 3 rfl tyS Tryz.underlying3 rfl (c + 1 - i) rfl (xs.take i) (by rw [List.length_take]; omega) hcell (by omega) (by omega) (by decide) (by omega) (c + 1) (by omega) (fun w1 c' hc1 hc2 zs hz hh hk hlt => ?_)
       simp only [maxLen] at hc2
       have hb2 : ¬ (c' = i + 1) := by omega
       have hb5 : ¬ (c' = i) := by omega
       have hg1 : w1.heap[g]? = some (.cells #[x] 9 (0, 0)) := hk.get hg (fun h => h)
       have hcx : w1.cell? ⟨g, 0, none⟩ = some x := by obtain ⟨hc, _⟩ := cells_of hg1; rw [hc]; rfl)
    | (refine wpList_copy_row rfl _ _ 34 rfl tyS rfl _ hh rfl [x] (by simp only [List.length_cons, List.length_nil]; omega) (get1 hcx) (by simp only [List.length_append, List.length_cons, List.length_nil]; omega) (by simpa using hx) (fun w2 h2 => ?_)))
  simp only [Act.put, List.setIfInBounds_toArray, List.set]
  refine wp_region_loud (fun _ => True) [0, 1, 2, 3, 4, 5, 6, 7] [8] (by kernel_rfl) (by kernel_rfl) (fun _ _ d _ _ h => by cases d <;> exact h) trivial ?_
  repeat (refine wpPre_cons rfl rfl (fun w' _ => (by go_simp; rfl)) ?_; simp only [Act.put, List.setIfInBounds_toArray, List.set])
  refine wpPre_nil ?_
  refine wpTail_cons rfl rfl (fun K hK => ?_)
  have hb2' : w2.heap[b]? = some (.cells cur.toArray 9 (0, 0)) := (h2.kept.get (hk.get hb (fun h => h)) (fun h => by omega))
  have hcell2 : ∀ j v, (xs.drop i)[j]? = some v → w2.drew.cell? ⟨b, i + j, none⟩ = some v := fun j v hj => by
    obtain ⟨hcs, _⟩ := cells_of hb2'
    show w2.cell? _ = _
    rw [hcs, List.getElem?_toArray]
    rw [List.getElem?_drop, ← hxs, List.getElem?_take] at hj
    split at hj
    · exact hj
    · cases hj
  refine wp_copy_row _ _ 34 rfl tyS rfl _ h2.row rfl (xs.drop i) (by simp; omega) hcell2 (by simp only [List.length_append, List.length_take, List.length_drop, List.length_cons, List.length_nil]; omega) (fun v hv => hone v (List.mem_of_mem_drop hv)) (fun w3 h3 => hK _ _ ⟨trivial, ?_⟩)
  clear hK
  refine wpTail_nil ?_
  go_wp2
  go_ret
  refine ⟨c', zs.drop (c + 1 - i), rfl, by omega, by simp only [maxLen]; omega, by rw [List.length_drop]; omega, ?_, ?_⟩
  · have e := h3.row
    rw [splice_grow xs x i c zs hi hxl (by omega)] at e
    exact e
  · exact (hk.step' h2.kept (fun k hk' hlt => by omega)).step' h3.kept.of_drew (fun k hk' hlt => by omega)
set_option maxHeartbeats 4000000 in
set_option maxRecDepth 100000 in
theorem insert_growK (b n c i : Nat) (xs cur : List Value) (x : Value) (g : Nat) (w : World) (hb : w.heap[b]? = some (.cells cur.toArray 141 (0, 0))) (hcur : cur.length = c) (hxs : cur.take n = xs) (hg : w.heap[g]? = some (.cells #[x] 141 (0, 0))) (hx : x.oneCell' = true) (hone : ∀ u ∈ xs, u.oneCell' = true) (hi : i < n) (hnc : n ≤ c) (hroom : c < n + 1) (hn : n ≤ 1000000) :
    Calls Tryz.prog 136 #[.slice (some ⟨b, 0, none⟩) n c, .int .i64 (i : Int), .slice (some ⟨g, 0, none⟩) 1 1] w fun e w' => ∃ c' zs, e = .returned (.slice (some ⟨w.heap.size, 0, none⟩) (n + 1) c') ∧ n + 1 ≤ c' ∧ c' ≤ maxLen ∧ zs.length = c' - (n + 1) ∧ w'.heap[w.heap.size]? = some (.cells (xs.take i ++ x :: xs.drop i ++ zs).toArray 141 (0, 0)) ∧ Kept no w w' := by
  have hcn : c = n := by omega
  subst hcn
  have hbl := lt_of_heap hb
  have hgl := lt_of_heap hg
  have hw1 : IntKind.i64.wrap ((i : Int) + 1) = (i : Int) + 1 := by rw [IntKind.wrap_i64]; omega
  have hw2 : IntKind.i64.wrap ((c : Int) + 1) = (c : Int) + 1 := by rw [IntKind.wrap_i64]; omega
  have hw3 : IntKind.i64.wrap ((c : Int) + 1 - (i : Int)) = ((c + 1 - i : Nat) : Int) := by rw [IntKind.wrap_i64]; omega
  have hne : ¬ ((i : Int) = (c : Int)) := by omega
  have hb1 : (0 : Int) ≤ (i : Int) + 1 := by omega
  have htn : ((i : Int) + 1).toNat = i + 1 := by omega
  have hb4 : ¬ (c = i) := by omega
  have hin : i ≤ c := by omega
  have hxl : xs.length = c := by rw [← hxs, List.length_take]; omega
  have hcell : ∀ j v, (xs.take i)[j]? = some v → w.cell? ⟨b, j, none⟩ = some v := fun j v hj => by
    obtain ⟨hcs, _⟩ := cells_of hb
    rw [hcs, List.getElem?_toArray]
    rw [← hxs, List.getElem?_take, List.getElem?_take] at hj
    split at hj
    · split at hj
      · exact hj
      · cases hj
    · cases hj
  go_enter Tryz.func136, Tryz.ntmps136
  have htl : (xs.take i).length = i := by rw [List.length_take]; omega
  have hdl : (xs.drop i).length = c - i := by rw [List.length_drop, hxl]
  go_wp2_with (first
    | (at_builtin
       refine wpList_zeros rfl _ _ 86 3 rfl tyK Tryz.underlying3 rfl (c + 1 - i) rfl (xs.take i) (by rw [List.length_take]; omega) hcell (by omega) (by omega) (by decide) (by omega) (c + 1) (by omega) (fun w1 c' hc1 hc2 zs hz hh hk hlt => ?_)
       simp only [maxLen] at hc2
       have hb2 : ¬ (c' = i + 1) := by omega
       have hb5 : ¬ (c' = i) := by omega
       have hg1 : w1.heap[g]? = some (.cells #[x] 141 (0, 0)) := hk.get hg (fun h => h)
       have hcx : w1.cell? ⟨g, 0, none⟩ = some x := by obtain ⟨hc, _⟩ := cells_of hg1; rw [hc]; rfl)
    | (refine wpList_copy_row rfl _ _ 86 rfl tyK rfl _ hh rfl [x] (by simp only [List.length_cons, List.length_nil]; omega) (get1 hcx) (by simp only [List.length_append, List.length_cons, List.length_nil]; omega) (by simpa using hx) (fun w2 h2 => ?_)))
  simp only [Act.put, List.setIfInBounds_toArray, List.set]
  refine wp_region_loud (fun _ => True) [0, 1, 2, 3, 4, 5, 6, 7] [8] (by kernel_rfl) (by kernel_rfl) (fun _ _ d _ _ h => by cases d <;> exact h) trivial ?_
  repeat (refine wpPre_cons rfl rfl (fun w' _ => (by go_simp; rfl)) ?_; simp only [Act.put, List.setIfInBounds_toArray, List.set])
  refine wpPre_nil ?_
  refine wpTail_cons rfl rfl (fun K hK => ?_)
  have hb2' : w2.heap[b]? = some (.cells cur.toArray 141 (0, 0)) := (h2.kept.get (hk.get hb (fun h => h)) (fun h => by omega))
  have hcell2 : ∀ j v, (xs.drop i)[j]? = some v → w2.drew.cell? ⟨b, i + j, none⟩ = some v := fun j v hj => by
    obtain ⟨hcs, _⟩ := cells_of hb2'
    show w2.cell? _ = _
    rw [hcs, List.getElem?_toArray]
    rw [List.getElem?_drop, ← hxs, List.getElem?_take] at hj
    split at hj
    · exact hj
    · cases hj
  refine wp_copy_row _ _ 86 rfl tyK rfl _ h2.row rfl (xs.drop i) (by simp; omega) hcell2 (by simp only [List.length_append, List.length_take, List.length_drop, List.length_cons, List.length_nil]; omega) (fun v hv => hone v (List.mem_of_mem_drop hv)) (fun w3 h3 => hK _ _ ⟨trivial, ?_⟩)
  clear hK
  refine wpTail_nil ?_
  go_wp2
  go_ret
  refine ⟨c', zs.drop (c + 1 - i), rfl, by omega, by simp only [maxLen]; omega, by rw [List.length_drop]; omega, ?_, ?_⟩
  · have e := h3.row
    rw [splice_grow xs x i c zs hi hxl (by omega)] at e
    exact e
  · exact (hk.step' h2.kept (fun k hk' hlt => by omega)).step' h3.kept.of_drew (fun k hk' hlt => by omega)

set_option maxHeartbeats 4000000 in
set_option maxRecDepth 100000 in
theorem delete_rowS (b n c i j : Nat) (xs cur : List Value) (w : World) (hb : w.heap[b]? = some (.cells cur.toArray 9 (0, 0))) (hcur : cur.length = c) (hxs : cur.take n = xs) (hone : ∀ u ∈ xs, u.oneCell' = true) (hij : i < j) (hj : j ≤ n) (hnc : n ≤ c) (hc : c ≤ maxLen) :
    Calls Tryz.prog 108 #[.slice (some ⟨b, 0, none⟩) n c, .int .i64 (i : Int), .int .i64 (j : Int)] w fun e w' => ∃ cur' : List Value, e = .returned (.slice (some ⟨b, 0, none⟩) (i + (n - j)) c) ∧ w'.heap[b]? = some (.cells cur'.toArray 9 (0, 0)) ∧ cur'.length = c ∧ cur'.take (i + (n - j)) = xs.take i ++ xs.drop j ∧ Kept (fun k => k = b) w w' := by
  simp only [maxLen] at hc
  have hne : ¬ ((i : Int) = (j : Int)) := by omega
  have hb2 : ¬ (c = i + (n - j)) := by omega
  have hin : i ≤ n := by omega
  have hic : i ≤ c := by omega
  have hij' : i ≤ j := by omega
  have hjc : j ≤ c := by omega
  have hxl : xs.length = n := by rw [← hxs, List.length_take]; omega
  have hdl : (xs.drop j).length = n - j := by rw [List.length_drop, hxl]
  obtain ⟨A, hA, hA'⟩ : ∃ A : Nat, (if c = j then (some ⟨b, 0, none⟩ : Option Addr) else some ⟨b, j, none⟩) = some ⟨b, A, none⟩ ∧ Hid (∀ t v, (xs.drop j)[t]? = some v → w.drew.cell? ⟨b, A + t, none⟩ = some v) := by
    by_cases h : c = j
    · refine ⟨0, by rw [if_pos h], fun t v ht => ?_⟩
      have := (List.getElem?_eq_some_iff.1 ht).1
      omega
    · refine ⟨j, by rw [if_neg h], fun t v ht => ?_⟩
      obtain ⟨hcs, _⟩ := cells_of hb
      show w.cell? _ = _
      rw [hcs, List.getElem?_toArray]
      rw [List.getElem?_drop, ← hxs, List.getElem?_take] at ht
      split at ht
      · exact ht
      · cases ht
  go_enter Tryz.func108, Tryz.ntmps108
  go_wp2
  refine wp_region_loud (fun _ => True) [0, 1, 2, 3, 4, 5] [6, 7] (by kernel_rfl) (by kernel_rfl) (fun _ _ d _ _ h => by cases d <;> exact h) trivial ?_
  repeat (refine wpPre_cons rfl rfl (fun w' _ => (by go_simp; rfl)) ?_; simp only [Act.put, List.setIfInBounds_toArray, List.set])
  refine wpPre_nil ?_
  refine wpTail_cons rfl rfl (fun K hK => ?_)
  refine wp_app_room _ _ 34 rfl tyS rfl cur hb hcur rfl (xs.drop j) hdl hA'.out (by omega) (fun v hv => hone v (List.mem_of_mem_drop hv)) (fun w1 h1 => hK _ _ ⟨trivial, ?_⟩)
  clear hK
  refine wpTail_read rfl rfl trivial (by go_simp; rfl) ?_
  simp only [Act.put, List.setIfInBounds_toArray, List.set]
  refine wpTail_nil ?_
  go_wp2_with (refine wpList_clear_row rfl _ 34 rfl tyS.under Tryz.zeroValue9 rfl rfl rfl (by omega) _ h1.row (by simp only [List.length_append, List.length_take, List.length_drop]; omega) (fun w2 h2 => ?_))
  go_ret
  refine ⟨_, rfl, h2.row, ?_, ?_, (h1.kept.step h2.kept).of_drew⟩
  · simp only [List.length_append, List.length_take, List.length_drop, List.length_replicate]; omega
  · have e1 : (cur.take i ++ xs.drop j).length = i + (n - j) := by rw [List.length_append, List.length_take, hdl]; omega
    have e2 : cur.take i = xs.take i := by rw [← hxs, List.take_take, show min i n = i by omega]
    rw [List.append_assoc, List.take_append_of_le_length (by simp only [List.length_append, List.length_take, List.length_drop]; omega), List.take_take, Nat.min_self, List.take_left' e1, e2]
set_option maxHeartbeats 4000000 in
set_option maxRecDepth 100000 in
theorem delete_rowK (b n c i j : Nat) (xs cur : List Value) (w : World) (hb : w.heap[b]? = some (.cells cur.toArray 141 (0, 0))) (hcur : cur.length = c) (hxs : cur.take n = xs) (hone : ∀ u ∈ xs, u.oneCell' = true) (hij : i < j) (hj : j ≤ n) (hnc : n ≤ c) (hc : c ≤ maxLen) :
    Calls Tryz.prog 135 #[.slice (some ⟨b, 0, none⟩) n c, .int .i64 (i : Int), .int .i64 (j : Int)] w fun e w' => ∃ cur' : List Value, e = .returned (.slice (some ⟨b, 0, none⟩) (i + (n - j)) c) ∧ w'.heap[b]? = some (.cells cur'.toArray 141 (0, 0)) ∧ cur'.length = c ∧ cur'.take (i + (n - j)) = xs.take i ++ xs.drop j ∧ Kept (fun k => k = b) w w' := by
  simp only [maxLen] at hc
  have hne : ¬ ((i : Int) = (j : Int)) := by omega
  have hb2 : ¬ (c = i + (n - j)) := by omega
  have hin : i ≤ n := by omega
  have hic : i ≤ c := by omega
  have hij' : i ≤ j := by omega
  have hjc : j ≤ c := by omega
  have hxl : xs.length = n := by rw [← hxs, List.length_take]; omega
  have hdl : (xs.drop j).length = n - j := by rw [List.length_drop, hxl]
  obtain ⟨A, hA, hA'⟩ : ∃ A : Nat, (if c = j then (some ⟨b, 0, none⟩ : Option Addr) else some ⟨b, j, none⟩) = some ⟨b, A, none⟩ ∧ Hid (∀ t v, (xs.drop j)[t]? = some v → w.drew.cell? ⟨b, A + t, none⟩ = some v) := by
    by_cases h : c = j
    · refine ⟨0, by rw [if_pos h], fun t v ht => ?_⟩
      have := (List.getElem?_eq_some_iff.1 ht).1
      omega
    · refine ⟨j, by rw [if_neg h], fun t v ht => ?_⟩
      obtain ⟨hcs, _⟩ := cells_of hb
      show w.cell? _ = _
      rw [hcs, List.getElem?_toArray]
      rw [List.getElem?_drop, ← hxs, List.getElem?_take] at ht
      split at ht
      · exact ht
      · cases ht
  go_enter Tryz.func135, Tryz.ntmps135
  go_wp2
  refine wp_region_loud (fun _ => True) [0, 1, 2, 3, 4, 5] [6, 7] (by kernel_rfl) (by kernel_rfl) (fun _ _ d _ _ h => by cases d <;> exact h) trivial ?_
  repeat (refine wpPre_cons rfl rfl (fun w' _ => (by go_simp; rfl)) ?_; simp only [Act.put, List.setIfInBounds_toArray, List.set])
  refine wpPre_nil ?_
  refine wpTail_cons rfl rfl (fun K hK => ?_)
  refine wp_app_room _ _ 86 rfl tyK rfl cur hb hcur rfl (xs.drop j) hdl hA'.out (by omega) (fun v hv => hone v (List.mem_of_mem_drop hv)) (fun w1 h1 => hK _ _ ⟨trivial, ?_⟩)
  clear hK
  refine wpTail_read rfl rfl trivial (by go_simp; rfl) ?_
  simp only [Act.put, List.setIfInBounds_toArray, List.set]
  refine wpTail_nil ?_
  go_wp2_with (refine wpList_clear_row rfl _ 86 rfl tyK.under Tryz.zeroValue141 rfl rfl rfl (by omega) _ h1.row (by simp only [List.length_append, List.length_take, List.length_drop]; omega) (fun w2 h2 => ?_))
  go_ret
  refine ⟨_, rfl, h2.row, ?_, ?_, (h1.kept.step h2.kept).of_drew⟩
  · simp only [List.length_append, List.length_take, List.length_drop, List.length_replicate]; omega
  · have e1 : (cur.take i ++ xs.drop j).length = i + (n - j) := by rw [List.length_append, List.length_take, hdl]; omega
    have e2 : cur.take i = xs.take i := by rw [← hxs, List.take_take, show min i n = i by omega]
    rw [List.append_assoc, List.take_append_of_le_length (by simp only [List.length_append, List.length_take, List.length_drop]; omega), List.take_take, Nat.min_self, List.take_left' e1, e2]

theorem Row.of_block {w : World} {e : TypeId} {g n c : Nat} {cur xs : List Value} (h : w.heap[g]? = some (.cells cur.toArray e (0, 0))) (hl : cur.length = c) (hx : cur.take n = xs) (hn : n ≤ c) (hc : c ≤ maxLen) : Row w e 1 (.slice (some ⟨g, 0, none⟩) n c) n xs := by
  refine ⟨by rw [← hx, List.length_take]; omega, .inr ⟨g, c, _, rfl, Nat.zero_le _, h, hn, hc, by simp [hl], by simpa using hx⟩⟩

theorem Row.block {w : World} {e : TypeId} {g o n c : Nat} {xs : List Value} (h : Row w e 1 (.slice (some ⟨g, o, none⟩) n c) n xs) : o = 0 ∧ ∃ cur : List Value, w.heap[g]? = some (.cells cur.toArray e (0, 0)) ∧ cur.length = c ∧ cur.take n = xs ∧ n ≤ c ∧ c ≤ maxLen := by
  rcases h.2 with ⟨h0, _⟩ | ⟨g', cap, cur, hv, _, hh, h1, h2, h3, h4⟩
  · cases h0
  · simp only [Value.slice.injEq, Option.some.injEq, Addr.mk.injEq, and_true, true_and] at hv
    obtain ⟨⟨rfl, rfl⟩, rfl⟩ := hv
    exact ⟨rfl, cur.toList, hh, by simpa using h3, by simpa using h4, h1, h2⟩

/-- Insert of one element. -/
theorem insertS (v : Value) (n i : Nat) (iI : Int) (xs : List Value) (x : Value) (g : Nat) (w : World) (hr : Row w 9 1 v n xs) (hiI : iI = (i : Int)) (hi : i ≤ n) (hg : w.heap[g]? = some (.cells #[x] 9 (0, 0))) (hgv : g ∉ fpv v) (hx : x.oneCell' = true) (hone : ∀ u ∈ xs, u.oneCell' = true) (hn : n ≤ 1000000) :
    Calls Tryz.prog 138 #[v, .int .i64 iI, .slice (some ⟨g, 0, none⟩) 1 1] w fun e w' => ∃ v', e = .returned v' ∧ Row w' 9 1 v' (n + 1) (xs.take i ++ x :: xs.drop i) ∧ Grew w w' v v' := by
  subst hiI
  have hxl := hr.len
  rcases Nat.lt_or_ge i n with hlt | hge
  · rcases hr.shape with ⟨rfl, rfl, rfl⟩ | ⟨gv, c, rfl, _, _⟩
    · omega
    obtain ⟨_, cur, hb, hcl, hct, hnc, hcm⟩ := hr.block
    have hne : g ≠ gv := fun e => hgv (by rw [e]; simp [fpv_some])
    rcases Nat.lt_or_ge n c with h1 | h1
    · refine (insert_shiftS gv n c i xs cur x g w hb hcl hct hne hg hx hone hlt h1 hn hcm).mono fun e w' ⟨he, hw, hk⟩ => ⟨_, he, ?_, hk.mono fun k hk' _ => by rw [hk']; simp [fpv_some], fun k hk' => .inl hk'⟩
      have hl : (xs.take i ++ x :: xs.drop i).length = n + 1 := by simp; omega
      refine Row.of_block hw ?_ (List.take_left' hl) h1 hcm
      rw [List.length_append, hl, List.length_drop]; omega
    · refine (insert_growS gv n c i xs cur x g w hb hcl hct hg hx hone hlt hnc (by omega) hn).mono fun e w' ⟨c', zs, he, h2, h3, h4, hw, hk⟩ => ⟨_, he, ?_, hk.mono fun k hk' _ => hk'.elim, fun k hk' => .inr (by simp [fpv_some] at hk'; omega)⟩
      have hl : (xs.take i ++ x :: xs.drop i).length = n + 1 := by simp; omega
      exact Row.of_block hw (by rw [List.length_append, hl]; omega) (List.take_left' hl) h2 h3
  · have hin : i = n := by omega
    subst hin
    rw [List.take_of_length_le (by omega), List.drop_eq_nil_of_le (by omega)]
    exact insert_endS v i xs x g w hr hg hx hn

/-- Delete. -/
theorem deleteS (v : Value) (n i j : Nat) (iI jI : Int) (xs : List Value) (w : World) (hr : Row w 9 1 v n xs) (hiI : iI = (i : Int)) (hjI : jI = (j : Int)) (hij : i ≤ j) (hj : j ≤ n) (hone : ∀ u ∈ xs, u.oneCell' = true) :
    Calls Tryz.prog 108 #[v, .int .i64 iI, .int .i64 jI] w fun e w' => ∃ v', e = .returned v' ∧ Row w' 9 1 v' (i + (n - j)) (xs.take i ++ xs.drop j) ∧ Grew w w' v v' ∧ fpv v' = fpv v ∧ (v = .slice none 0 0 → v' = .slice none 0 0) := by
  subst hiI hjI
  rcases Nat.lt_or_ge i j with hlt | hge
  · rcases hr.shape with ⟨rfl, rfl, rfl⟩ | ⟨gv, c, rfl, _, _⟩
    · omega
    obtain ⟨_, cur, hb, hcl, hct, hnc, hcm⟩ := hr.block
    refine (delete_rowS gv n c i j xs cur w hb hcl hct hone hlt hj hnc hcm).mono fun e w' ⟨cur', he, hw, h1, h2, hk⟩ => ⟨_, he, Row.of_block hw h1 h2 (by omega) hcm, ⟨hk.mono fun k hk' _ => by rw [hk']; simp [fpv_some], fun k hk' => .inl hk'⟩, rfl, fun h => by cases h⟩
  · have hji : j = i := by omega
    subst hji
    have h0 : Calls Tryz.prog 108 #[v, .int .i64 (j : Int), .int .i64 (j : Int)] w fun e w' => e = .returned v ∧ w' = w := by
      have hxl := hr.len
      rcases hr.shape with ⟨rfl, rfl, rfl⟩ | ⟨gv, c, rfl, h1, h2⟩
      · have hj0 : j = 0 := by omega
        subst hj0
        go_enter Tryz.func108, Tryz.ntmps108
        go_wp2
        go_ret
        exact ⟨rfl, rfl⟩
      · simp only [maxLen] at h2
        have hjc : j ≤ c := by omega
        clear hr
        go_enter Tryz.func108, Tryz.ntmps108
        go_wp2
        all_goals (go_ret; exact ⟨rfl, rfl⟩)
    refine h0.mono ?_
    rintro e w' ⟨rfl, rfl⟩
    refine ⟨v, rfl, ?_, Grew.refl _ _, rfl, fun h => h⟩
    rw [show j + (n - j) = n by omega, List.take_append_drop]
    exact hr
/-- Insert of one element. -/
theorem insertK (v : Value) (n i : Nat) (iI : Int) (xs : List Value) (x : Value) (g : Nat) (w : World) (hr : Row w 141 1 v n xs) (hiI : iI = (i : Int)) (hi : i ≤ n) (hg : w.heap[g]? = some (.cells #[x] 141 (0, 0))) (hgv : g ∉ fpv v) (hx : x.oneCell' = true) (hone : ∀ u ∈ xs, u.oneCell' = true) (hn : n ≤ 1000000) :
    Calls Tryz.prog 136 #[v, .int .i64 iI, .slice (some ⟨g, 0, none⟩) 1 1] w fun e w' => ∃ v', e = .returned v' ∧ Row w' 141 1 v' (n + 1) (xs.take i ++ x :: xs.drop i) ∧ Grew w w' v v' := by
  subst hiI
  have hxl := hr.len
  rcases Nat.lt_or_ge i n with hlt | hge
  · rcases hr.shape with ⟨rfl, rfl, rfl⟩ | ⟨gv, c, rfl, _, _⟩
    · omega
    obtain ⟨_, cur, hb, hcl, hct, hnc, hcm⟩ := hr.block
    have hne : g ≠ gv := fun e => hgv (by rw [e]; simp [fpv_some])
    rcases Nat.lt_or_ge n c with h1 | h1
    · refine (insert_shiftK gv n c i xs cur x g w hb hcl hct hne hg hx hone hlt h1 hn hcm).mono fun e w' ⟨he, hw, hk⟩ => ⟨_, he, ?_, hk.mono fun k hk' _ => by rw [hk']; simp [fpv_some], fun k hk' => .inl hk'⟩
      have hl : (xs.take i ++ x :: xs.drop i).length = n + 1 := by simp; omega
      refine Row.of_block hw ?_ (List.take_left' hl) h1 hcm
      rw [List.length_append, hl, List.length_drop]; omega
    · refine (insert_growK gv n c i xs cur x g w hb hcl hct hg hx hone hlt hnc (by omega) hn).mono fun e w' ⟨c', zs, he, h2, h3, h4, hw, hk⟩ => ⟨_, he, ?_, hk.mono fun k hk' _ => hk'.elim, fun k hk' => .inr (by simp [fpv_some] at hk'; omega)⟩
      have hl : (xs.take i ++ x :: xs.drop i).length = n + 1 := by simp; omega
      exact Row.of_block hw (by rw [List.length_append, hl]; omega) (List.take_left' hl) h2 h3
  · have hin : i = n := by omega
    subst hin
    rw [List.take_of_length_le (by omega), List.drop_eq_nil_of_le (by omega)]
    exact insert_endK v i xs x g w hr hg hx hn

/-- Delete. -/
theorem deleteK (v : Value) (n i j : Nat) (iI jI : Int) (xs : List Value) (w : World) (hr : Row w 141 1 v n xs) (hiI : iI = (i : Int)) (hjI : jI = (j : Int)) (hij : i ≤ j) (hj : j ≤ n) (hone : ∀ u ∈ xs, u.oneCell' = true) :
    Calls Tryz.prog 135 #[v, .int .i64 iI, .int .i64 jI] w fun e w' => ∃ v', e = .returned v' ∧ Row w' 141 1 v' (i + (n - j)) (xs.take i ++ xs.drop j) ∧ Grew w w' v v' ∧ fpv v' = fpv v ∧ (v = .slice none 0 0 → v' = .slice none 0 0) := by
  subst hiI hjI
  rcases Nat.lt_or_ge i j with hlt | hge
  · rcases hr.shape with ⟨rfl, rfl, rfl⟩ | ⟨gv, c, rfl, _, _⟩
    · omega
    obtain ⟨_, cur, hb, hcl, hct, hnc, hcm⟩ := hr.block
    refine (delete_rowK gv n c i j xs cur w hb hcl hct hone hlt hj hnc hcm).mono fun e w' ⟨cur', he, hw, h1, h2, hk⟩ => ⟨_, he, Row.of_block hw h1 h2 (by omega) hcm, ⟨hk.mono fun k hk' _ => by rw [hk']; simp [fpv_some], fun k hk' => .inl hk'⟩, rfl, fun h => by cases h⟩
  · have hji : j = i := by omega
    subst hji
    have h0 : Calls Tryz.prog 135 #[v, .int .i64 (j : Int), .int .i64 (j : Int)] w fun e w' => e = .returned v ∧ w' = w := by
      have hxl := hr.len
      rcases hr.shape with ⟨rfl, rfl, rfl⟩ | ⟨gv, c, rfl, h1, h2⟩
      · have hj0 : j = 0 := by omega
        subst hj0
        go_enter Tryz.func135, Tryz.ntmps135
        go_wp2
        go_ret
        exact ⟨rfl, rfl⟩
      · simp only [maxLen] at h2
        have hjc : j ≤ c := by omega
        clear hr
        go_enter Tryz.func135, Tryz.ntmps135
        go_wp2
        all_goals (go_ret; exact ⟨rfl, rfl⟩)
    refine h0.mono ?_
    rintro e w' ⟨rfl, rfl⟩
    refine ⟨v, rfl, ?_, Grew.refl _ _, rfl, fun h => h⟩
    rw [show j + (n - j) = n by omega, List.take_append_drop]
    exact hr
end Go.Proofs.YtdpfohgkikjeaaaGreat

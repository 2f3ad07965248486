/- Part 28 of the proof: see its parts. -/
import Derived.Test.YtdpfohgkikjeaaaGreatV22
import Derived.Test.YtdpfohgkikjeaaaGreatV27
/- The document's own answer: Recovered. -/
namespace Go.Proofs.YtdpfohgkikjeaaaGreat
open Go.RowKit
set_option linter.unusedVariables false
set_option linter.unusedSimpArgs false

/-- A row of chances that was made since. -/
structure CR (w0 wx : World) (v : Value) (l : List (Str × Mark)) : Prop where
  row : ChRow wx v l
  fresh : ∀ x ∈ fpv v, w0.heap.size ≤ x
  kept : Kept no w0 wx
theorem CR.nil (w : World) : CR w w (.slice none 0 0) [] := ⟨⟨rfl, .inl ⟨rfl, rfl⟩⟩, by simp [fpv_nil], Kept.refl _ _⟩
theorem CR.call {w0 wx wy : World} {v : Value} {l : List (Str × Mark)} (h : CR w0 wx v l) (k : Kept no wx wy) : CR w0 wy v l := ⟨h.row.kept k (fun _ _ h => h), h.fresh, h.kept.step k⟩

theorem wpList_cr {w0 w : World} {ops : Array Oper} {rest : List Oper} {o : Oper} {a : Act} {Q : Exit → Act → World → Prop} (hgd : o.guard = none) (s x : Operand) (ho : o.op = .call { callee := .builtin .append, args := #[s, x], argTypes := #[122, 122] })
    {v : Value} {l : List (Str × Mark)} (hs : a.eval s = v) (h : CR w0 w v l) {u : Value} {news : List (Str × Mark)} {fp : List Nat} (hx : a.eval x = u) (hu : Seen w u news.length (chsCells news) fp) (hn : l.length + news.length ≤ 4000000000000)
    (k : ∀ v' w', CR w0 w' v' (l ++ news) → wpList Tryz.prog ops Q rest (a.put o.dst v') w') : wpList Tryz.prog ops Q (o :: rest) a w := by
  refine wpList_seen hgd s x _ ho tyCh v l.length (chsCells l) hs h.row u news.length (chsCells news) fp hx hu (chsCells_length _) (chsCells_one _) (by omega) (by omega) (fun v' w' hr hg => k v' w' ⟨?_, fun y hy => ?_, ?_⟩)
  · show Row w' chT 3 v' (l ++ news).length (chsCells (l ++ news))
    rw [List.length_append, chsCells_append]; exact hr
  · rcases hg.2 y hy with h1 | h1
    · exact h.fresh y h1
    · have := h.kept.size; omega
  · exact h.kept.step' hg.1 (fun y hy hlt => by have := h.fresh y hy; omega)

theorem chsCells_get : ∀ (l : List (Str × Mark)) (i : Nat) (c : Str × Mark), l[i]? = some c → (chsCells l)[i * 3]? = some (sv c.1) ∧ (chsCells l)[i * 3 + 1]? = some (.int .i64 c.2.len) ∧ (chsCells l)[i * 3 + 2]? = some (.int .i64 (c.2.sum : Int))
  | [], i, c, h => by simp at h
  | a :: l, 0, c, h => by
    simp at h
    subst h
    exact ⟨rfl, rfl, rfl⟩
  | a :: l, i + 1, c, h => by
    have h' : l[i]? = some c := by simpa using h
    obtain ⟨h1, h2, h3⟩ := chsCells_get l i c h'
    have e : chsCells (a :: l) = chCells a ++ chsCells l := rfl
    have e2 : (chCells a).length = 3 := rfl
    rw [e]
    refine ⟨?_, ?_, ?_⟩
    · rw [List.getElem?_append_right (by omega), e2, show (i + 1) * 3 - 3 = i * 3 by omega]; exact h1
    · rw [List.getElem?_append_right (by omega), e2, show (i + 1) * 3 + 1 - 3 = i * 3 + 1 by omega]; exact h2
    · rw [List.getElem?_append_right (by omega), e2, show (i + 1) * 3 + 2 - 3 = i * 3 + 2 by omega]; exact h3

/-- Is a chance one that may have been? -/
def keepB (t : Str) (n cs : Nat) (same : Bool) (c : Str × Mark) : Bool := c.1 == t && (decide (c.2.len = (n : Int) ∧ c.2.sum = cs) == same)

theorem filter_take {α : Type} (p : α → Bool) (l : List α) (i : Nat) (c : α) (h : l[i]? = some c) : (l.take (i + 1)).filter p = (l.take i).filter p ++ (if p c then [c] else []) := by
  rw [List.take_add_one, h, List.filter_append]
  simp only [Option.toList_some, List.filter_cons, List.filter_nil]

theorem wp_ch2 {w : World} {o : Oper} {a : Act} {Q : Exit → Act → World → Prop} {K : Act → World → Prop} (s x : Operand) (ho : o.op = .call { callee := .builtin .append, args := #[s, x], argTypes := #[122, 122] })
    (v : Value) (l : List (Str × Mark)) (hs : a.eval s = v) (hown : ChRow w v l) (g at' m c : Nat) (news : List (Str × Mark)) (hx : a.eval x = .slice (some ⟨g, at', none⟩) m c) (hl : news.length = m) (hg : ∀ j u, (chsCells news)[j]? = some u → w.cell? ⟨g, at' + j, none⟩ = some u) (hn : l.length + news.length ≤ 4100000000000)
    (h : ∀ v' w', ChRow w' v' (l ++ news) → Grew w w' v v' → K (a.put o.dst v') w') : o.wp Tryz.prog a w K Q := by
  obtain ⟨v', w', hr, h2, h3, _⟩ := run_app tyCh o.type w v l.length (chsCells l) hown g at' m c (chsCells news) (by rw [chsCells_length, hl]) hg (chsCells_one _) (by omega) (by omega)
  unfold Oper.wp execOp
  simp only [ho, resolve, invoke, builtin, Sem.run_bind, Sem.run_pure, Result.andThen_ok, List.map_toArray, List.map_cons, List.map_nil, hs, hx, hr]
  refine h v' w' ?_ h3
  show Row w' chT 3 v' (l ++ news).length (chsCells (l ++ news))
  rw [List.length_append, hl, chsCells_append]; exact h2

/-- An answer that is being read back: the chances A are looked at. -/
structure RecAt (w0 wx : World) (B : Nat) (r : RefS) (vL vA vq : Value) (A : List (Str × Mark)) : Prop where
  cells : wx.heap[B]? = some (.cells (refCells r vL (.slice none 0 0) vq (.slice none 0 0)) refT (0, 0))
  lines : Row wx 9 1 vL r.lines.length (r.lines.map sv)
  all : ChRow wx vA A
  last : ChRow wx vq r.last
  nb : B ∉ fpv vL ∧ B ∉ fpv vA ∧ B ∉ fpv vq
  nq : (∀ x ∈ fpv vq, x ∉ fpv vL) ∧ (∀ x ∈ fpv vq, x ∉ fpv vA)
  fresh : w0.heap.size ≤ B ∧ (∀ x ∈ fpv vL, w0.heap.size ≤ x) ∧ (∀ x ∈ fpv vA, w0.heap.size ≤ x) ∧ (∀ x ∈ fpv vq, w0.heap.size ≤ x)
  kept : Kept no w0 wx

theorem RecAt.call {w0 wx wy : World} {B : Nat} {r : RefS} {vL vA vq : Value} {A : List (Str × Mark)} (h : RecAt w0 wx B r vL vA vq A) (k : Kept no wx wy) : RecAt w0 wy B r vL vA vq A :=
  ⟨k.get h.cells (fun h => h), h.lines.kept k (fun _ _ h => h), h.all.kept k (fun _ _ h => h), h.last.kept k (fun _ _ h => h), h.nb, h.nq, h.fresh, h.kept.step k⟩

theorem RecAt.app {w0 wx wz : World} {B : Nat} {r : RefS} {vL vA vq vq' : Value} {A l' : List (Str × Mark)} (h : RecAt w0 wx B r vL vA vq A) (hr : ChRow wz vq' l') (hg : Grew wx wz vq vq') : wz.heap[B]? = some (.cells (refCells r vL (.slice none 0 0) vq (.slice none 0 0)) refT (0, 0)) ∧ RecAt w0 (wz.setCell ⟨B, 9, none⟩ vq') B { r with last := l' } vL vA vq' A := by
  obtain ⟨n1, n2, n3⟩ := h.nb
  obtain ⟨q1, q2⟩ := h.nq
  obtain ⟨f1, f2, f3, f4⟩ := h.fresh
  have hk := hg.1
  have hb := hk.get h.cells n3
  have hbl := lt_of_heap h.cells
  have hs : Kept (fun x => x = B) wz (wz.setCell ⟨B, 9, none⟩ vq') := Kept.cell1
  have hn : ∀ l : List Nat, (∀ x ∈ l, x < wx.heap.size) → (∀ x ∈ fpv vq, x ∉ l) → ∀ x ∈ fpv vq', x ∉ l := fun l hl ha x hx hx' => by
    rcases hg.2 x hx with h2 | h2
    · exact ha x h2 hx'
    · have := hl x hx'; omega
  have hB : B ∉ fpv vq' := fun hx => hn [B] (fun x hx => by rw [List.mem_singleton.1 hx]; exact hbl) (fun x hx e => n3 (List.mem_singleton.1 e ▸ hx)) B hx (by simp)
  refine ⟨hb, ?_, (h.lines.kept hk (fun x hx hx2 => q1 x hx2 hx)).kept hs (fun x hx e => n1 (e ▸ hx)), (h.all.kept hk (fun x hx hx2 => q2 x hx2 hx)).kept hs (fun x hx e => n2 (e ▸ hx)), hr.kept hs (fun x hx e => hB (e ▸ hx)), ⟨n1, n2, hB⟩, ⟨hn _ h.lines.lt q1, hn _ h.all.lt q2⟩, ⟨f1, f2, f3, fun x hx => ?_⟩, ?_⟩
  · rw [heap_set_same hb]; simp
  · rcases hg.2 x hx with h2 | h2
    · exact f4 x h2
    · have := h.kept.size; omega
  · exact (h.kept.step' hk (fun x hx hlt => by have := f4 x hx; omega)).step' hs (fun x e hlt => by have e : x = B := e; omega)

theorem RecAt.at_ {w0 wx : World} {B : Nat} {r : RefS} {vL vA vq : Value} {A : List (Str × Mark)} (h : RecAt w0 wx B r vL vA vq A) {i : Nat} {c : Str × Mark} (hc : A[i]? = some c) : ∃ g cA, vA = .slice (some ⟨g, 0, none⟩) A.length cA ∧ A.length ≤ cA ∧ cA ≤ 9223372036854775807 ∧ wx.cell? ⟨g, i * 3, none⟩ = some (sv c.1) ∧ wx.cell? ⟨g, i * 3 + 1, none⟩ = some (.int .i64 c.2.len) ∧ wx.cell? ⟨g, i * 3 + 2, none⟩ = some (.int .i64 (c.2.sum : Int)) := by
  have hil := (List.getElem?_eq_some_iff.1 hc).1
  rcases h.all.shape with ⟨_, h0, _⟩ | ⟨g, cA, rfl, h1, h2⟩
  · omega
  · have hcl := h.all.cell.2.2.2
    obtain ⟨g1, g2, g3⟩ := chsCells_get A i c hc
    unfold maxLen at h2
    exact ⟨g, cA, rfl, h1, by omega, hcl _ _ g1, hcl _ _ g2, hcl _ _ g3⟩

set_option maxRecDepth 100000 in
set_option maxHeartbeats 8000000 in
theorem recovered_ref {w : World} {b : Nat} {r : RefS} {fp : List Nat} {N L : Nat} (h : RefR w b r fp) (ok : r.Ok N L) (hN : N ≤ 1000000000000) (hL : L ≤ 1000000000000) (ls : List Str) (hok : TextOk ls) (file : Str) (hfl : file.length ≤ L) (same : Bool) (n : Nat) (nI : Int) (hn : nI = (n : Int)) (hne : r.keeps (textOf ls) file same ≠ []) :
    Calls Tryz.prog 96 #[.pointer (some ⟨b, 0, none⟩), sv (textOf ls), sv file, .bool same, .int .i64 nI] w fun e w' => ∃ B fp', e = .returned (.tuple #[.pointer (some ⟨B, 0, none⟩), .bool true]) ∧ RefR w' B (r.recovered ls file same n) fp' ∧ (∀ x ∈ fp', w.heap.size ≤ x) ∧ Kept no w w' := by
  subst hn
  obtain ⟨vl, va, vq, vs, fa, fq, h, rfl⟩ := h
  obtain ⟨hc, hf⟩ := cells_of h.cells
  have hlast := ok.last
  have hsince := ok.since
  have htl := hok.length
  have hcut := fun w' => (cut_ref (textOf ls) w' (by omega)).mono (R' := fun e w'' => ∃ v, e = .returned (.tuple #[v, .bool true]) ∧ Row w'' 9 1 v ls.length (ls.map sv) ∧ (∀ x ∈ fpv v, w'.heap.size ≤ x) ∧ Kept no w' w'') (fun e w'' ⟨hh, hk⟩ => by
    rcases hh with ⟨ls', v, hok', hls, he, hr, hx⟩ | ⟨hno, _⟩
    · obtain rfl : ls' = ls := textOf_inj (fun l hl => (hok'.lines l hl).2) (fun l hl => (hok.lines l hl).2) hls
      exact ⟨v, he, hr, hx, hk⟩
    · exact absurd ⟨ls, hok, rfl⟩ hno)
  have hsum := fun w' => sum_ref file w' (by omega)
  have HK : Hid (r.keeps (textOf ls) file same = (r.last ++ r.since).filter (keepB (textOf ls) file.length (crc file) same)) := rfl
  have HR : Hid (r.recovered ls file same n = ⟨ls, file, n, 0, 0, true, 0, [], [], r.keeps (textOf ls) file same, []⟩) := rfl
  generalize textOf ls = t at *
  generalize crc file = cs at *
  have hsw := Seen.of_row h.since (chsCells_length _)
  have h0 := CR.nil w
  go_enter Tryz.func96, Tryz.ntmps96
  go_upto_region 2 with fail
  generalize Value.slice none 0 0 = v0 at h0 ⊢
  go_wp2_with (at_builtin; apply hold)
  delta Hid
  refine wpList_cr rfl _ _ rfl rfl h0 rfl h.last (by simp only [List.length_nil]; omega) (fun v1 w1 h1 => ?_)
  rw [List.nil_append] at h1
  have hcs : w1.cell? ⟨b, 10, none⟩ = some vs := h1.kept.read (by rw [hc]; rfl) (fun h => h)
  have hsw1 := hsw.kept h1.kept (fun _ _ h => h)
  clear hc hf
  go_wp2_with (at_builtin; apply hold)
  delta Hid
  refine wpList_cr rfl _ _ rfl rfl h1 rfl hsw1 (by omega) (fun v2 w2 h2 => ?_)
  clear hcs hsw1 hsw h1 h0
  have hAl : (r.last ++ r.since).length ≤ 4000000000000 := by rw [List.length_append]; omega
  generalize r.last ++ r.since = A at h2 hAl HK
  go_wp2_with fail
  refine (hcut _).mono ?_
  rintro e w3 ⟨vL, rfl, hrL, hxL, hk3⟩
  have h3 := h2.call hk3
  go_wp2_with fail
  refine (hsum _).mono ?_
  rintro e w4 ⟨rfl, hw⟩
  rw [hw]
  clear hw
  obtain ⟨pL, cL, rfl⟩ := hrL.slice
  obtain ⟨pA, cA, rfl⟩ := h3.row.slice
  have hxL' : ∀ x ∈ fpv (.slice pL ls.length cL), w.heap.size ≤ x := fun x hx => by have := hxL x hx; have := h2.kept.size; omega
  go_upto_region 7 with fail
  obtain ⟨hn5, hsz5, hk5⟩ := new1 w3 (Obj.cells (refCells ⟨ls, file, n, 0, 0, true, 0, [], [], [], []⟩ (.slice pL ls.length cL) (.slice none 0 0) (.slice none 0 0) (.slice none 0 0)) refT)
  have hR : RecAt w (w3.alloc (Obj.cells (refCells ⟨ls, file, n, 0, 0, true, 0, [], [], [], []⟩ (.slice pL ls.length cL) (.slice none 0 0) (.slice none 0 0) (.slice none 0 0)) refT)) w3.heap.size ⟨ls, file, n, 0, 0, true, 0, [], [], [], []⟩ (.slice pL ls.length cL) (.slice pA A.length cA) (.slice none 0 0) A := by
    have hlL := hrL.lt
    have hlA := h3.row.lt
    exact ⟨hn5, hrL.kept hk5 (fun _ _ h => h), h3.row.kept hk5 (fun _ _ h => h), ⟨rfl, .inl ⟨rfl, rfl⟩⟩, ⟨fun hx => by have := hlL _ hx; omega, fun hx => by have := hlA _ hx; omega, by simp [fpv_nil]⟩, ⟨by simp [fpv_nil], by simp [fpv_nil]⟩, ⟨h3.kept.size, hxL', h3.fresh, by simp [fpv_nil]⟩, h3.kept.step hk5⟩
  generalize w3.heap.size = B at hR ⊢
  generalize Value.slice pL ls.length cL = vL at hR ⊢
  clear hrL hxL hxL' h3 hk5 hn5 hsz5 hk3 h2 hcut hsum h
  generalize w3.alloc (Obj.cells (refCells ⟨ls, file, n, 0, 0, true, 0, [], [], [], []⟩ vL (.slice none 0 0) (.slice none 0 0) (.slice none 0 0)) refT) = w5 at hR ⊢
  have hA0 : A.length ≤ 9223372036854775807 := by omega
  go_wp2_with fail
  go_loopw [17] (fun s17 wr => ∃ (i : Nat) (vq : Value), i ≤ A.length ∧ s17 = .int .i64 ((i : Nat) : Int) ∧ RecAt w wr B ⟨ls, file, n, 0, 0, true, 0, [], [], (A.take i).filter (keepB t file.length cs same), []⟩ vL (.slice pA A.length cA) vq A) (fun s17 _ => A.length - (intOf s17).toNat)
  case atStart => exact ⟨0, _, Nat.zero_le _, rfl, by simpa using hR⟩
  case round =>
    obtain ⟨i, vq, hi, rfl, hr⟩ := hrel
    by_cases hlt : i < A.length
    · obtain ⟨c, hc⟩ : ∃ c, A[i]? = some c := ⟨A[i], by simp [hlt]⟩
      have hft := filter_take (keepB t file.length cs same) A i c hc
      obtain ⟨g, cA', hv, hg1, hg2, e0, e1, e2⟩ := hr.at_ hc
      simp only [Value.slice.injEq] at hv
      obtain ⟨rfl, hv2, rfl⟩ := hv
      clear hv2 hc
      have HF : Hid ((A.take (i + 1)).filter (keepB t file.length cs same) = (A.take i).filter (keepB t file.length cs same) ++ (if keepB t file.length cs same c then [c] else [])) := hft
      have hFl : ((A.take i).filter (keepB t file.length cs same)).length ≤ 4000000000000 := Nat.le_trans (List.length_filter_le _ _) (by rw [List.length_take]; omega)
      clear hft
      generalize (A.take i).filter (keepB t file.length cs same) = F at hr HF hFl
      go_upto_region 10 with fail
      go_cut [75] (fun s75 wx => s75 = .bool (keepB t file.length cs same c) ∧ wx = wr)
      case first =>
        have hKB : Hid (keepB t file.length cs same c = (c.1 == t && (decide (c.2.len = (file.length : Int) ∧ c.2.sum = cs) == same))) := rfl
        cases hT : (c.1 == t) with
        | false =>
          go_wp2
          go_meet
          case rel => exact ⟨by rw [hKB.out, hT]; rfl, rfl⟩
        | true =>
          by_cases hl : c.2.len = (file.length : Int)
          · by_cases hs : c.2.sum = cs
            · have hs' : (c.2.sum : Int) = (cs : Int) := by omega
              have hd : Hid (decide (c.2.len = (file.length : Int) ∧ c.2.sum = cs) = true) := decide_eq_true ⟨hl, hs⟩
              clear hs
              cases same
              all_goals
                go_wp2
                go_meet
                case rel => exact ⟨by rw [hKB.out, hd.out, hT]; rfl, rfl⟩
            · have hs' : ¬ (c.2.sum : Int) = (cs : Int) := by omega
              have hd : Hid (decide (c.2.len = (file.length : Int) ∧ c.2.sum = cs) = false) := decide_eq_false (fun h => hs h.2)
              have hs2 : Hid (((c.2.sum : Int) == (cs : Int)) = false) := by show _ = false; simpa using hs'
              clear hs
              cases same
              all_goals
                go_wp2
                go_meet
                case rel => exact ⟨by rw [hKB.out, hd.out, hT, hs2.out]; rfl, rfl⟩
          · have hd : Hid (decide (c.2.len = (file.length : Int) ∧ c.2.sum = cs) = false) := decide_eq_false (fun h => hl h.1)
            cases same
            all_goals
              go_wp2
              go_meet
              case rel => exact ⟨by rw [hKB.out, hd.out, hT]; rfl, rfl⟩
      case rest =>
        obtain ⟨rfl, rfl⟩ := hcut
        cases hk : keepB t file.length cs same c with
        | false =>
          rw [hk] at HF
          go_wp2
          exact ⟨⟨i + 1, vq, by omega, by go_num, by rw [HF.out]; simpa using hr⟩, by simp [intOf]; omega⟩
        | true =>
          rw [hk] at HF
          have hcB : ∀ W, Kept (fun x => x ∈ fpv vq) wc W → W.cell? ⟨B, 9, none⟩ = some vq := fun W hW => hW.read (by rw [(cells_of hr.cells).1]; rfl) hr.nb.2.2
          have hcg : ∀ W, Kept (fun x => x ∈ fpv vq) wc W → W.cell? ⟨g, i * 3, none⟩ = some (sv c.1) ∧ W.cell? ⟨g, i * 3 + 1, none⟩ = some (.int .i64 c.2.len) ∧ W.cell? ⟨g, i * 3 + 2, none⟩ = some (.int .i64 (c.2.sum : Int)) := fun W hW => ⟨hW.read e0 (fun h => hr.nq.2 g h (by simp [fpv_some])), hW.read e1 (fun h => hr.nq.2 g h (by simp [fpv_some])), hW.read e2 (fun h => hr.nq.2 g h (by simp [fpv_some]))⟩
          go_upto_region 11 with fail
          refine wp_region3 (fun W => Kept (fun x => x ∈ fpv vq) wc W) [(0, true), (1, true), (2, true), (3, true), (4, false), (5, true), (6, true), (7, true), (8, false)] [9, 10, 11, 12, 13] (by kernel_rfl) (by kernel_rfl) (fun _ _ d _ _ h => by cases d <;> exact h) ((Kept.refl _ _).drew) ?_
          repeat ((first | refine wpPre3_pure rfl rfl (fun W => (by go_simp; rfl)) ?_ | refine wpPre3_read rfl rfl (fun W hW => (by have h1 := hcB W hW; obtain ⟨h2, h3, h4⟩ := hcg W hW; go_simp; rfl)) ?_); simp only [Act.put, List.setIfInBounds_toArray, List.set])
          refine wpPre3_nil ?_
          have hr3 := hr.call (Kept.refl no wc).drew
          generalize wc.drew = w6 at hr3 ⊢
          refine wpTail3_cons rfl rfl (fun K hK => ?_)
          go_wp2_with fail
          refine ⟨fun hh => hh.alloc _, ?_⟩
          obtain ⟨hn7, hsz7, hk7⟩ := new1 w6 (Obj.cells #[sv c.1, .int .i64 c.2.len, .int .i64 (c.2.sum : Int)] 188)
          have hr4 := hr3.call hk7
          generalize hG : w6.heap.size = G at hn7 hsz7 ⊢
          generalize w6.alloc (Obj.cells #[sv c.1, .int .i64 c.2.len, .int .i64 (c.2.sum : Int)] 188) = w7 at hn7 hsz7 hk7 hr4 ⊢
          refine wpTail3_cons rfl rfl (fun K hK => ?_)
          refine wp_ch2 _ _ rfl vq F rfl hr4.last G 0 1 1 [c] rfl rfl (fun j u hj => ?_) (by simp only [List.length_cons, List.length_nil]; omega) ?_
          · rw [Nat.zero_add, (cells_of hn7).1, ← hj]
            match j with
            | 0 => rfl
            | 1 => rfl
            | 2 => rfl
            | j + 3 => rfl
          intro vq' w8 hrow8 hg8
          obtain ⟨hb8, hr8⟩ := hr4.app hrow8 hg8
          refine hK _ _ ⟨fun hh => hh.step hg8.1, ?_⟩
          clear hK
          obtain ⟨hc8, hf8⟩ := cells_of hb8
          have hb8l := lt_of_heap hb8
          obtain ⟨p8, c8, hv8⟩ := hrow8.slice
          generalize hN : (F ++ [c]).length = m8 at hv8
          subst hv8
          clear hN
          refine wpTail3_last (by kernel_rfl) rfl rfl (fun K hK => ?_)
          go_wp2_with fail
          refine wpTail3_last (by kernel_rfl) rfl rfl (fun K hK => ?_)
          go_wp2_with fail
          refine wpTail3_last (by kernel_rfl) rfl rfl (fun K hK => ?_)
          go_wp2_with fail
          refine wpTail3_nil ?_
          go_wp2
          exact ⟨⟨i + 1, _, by omega, by go_num, by rw [HF.out]; simpa using hr8⟩, by simp [intOf]; omega⟩
    · obtain rfl : i = A.length := by omega
      rw [List.take_length] at hr
      have hFl : (A.filter (keepB t file.length cs same)).length ≤ 4000000000000 := Nat.le_trans (List.length_filter_le _ _) hAl
      rw [HK.out] at hne
      have HKF : Hid (r.recovered ls file same n = ⟨ls, file, n, 0, 0, true, 0, [], [], A.filter (keepB t file.length cs same), []⟩) := by show _ = _; rw [HR.out, HK.out]
      clear HK HR
      generalize A.filter (keepB t file.length cs same) = F at hr hne hFl HKF
      have hF0 : 0 < F.length := List.length_pos_iff.2 hne
      clear hne
      obtain ⟨hc9, hf9⟩ := cells_of hr.cells
      obtain ⟨p9, c9, rfl⟩ := hr.last.slice
      have hbl9 := lt_of_heap hr.cells
      go_wp2_with fail
      go_quiet (fail)
      go_wp2
      go_ret2
      have hr' := hr.call ((Kept.refl no wr).drewN nq)
      obtain ⟨n1, n2, n3⟩ := hr'.nb
      obtain ⟨f1, f2, f3, f4⟩ := hr'.fresh
      refine ⟨B, _, rfl, ⟨vL, .slice none 0 0, .slice p9 F.length c9, .slice none 0 0, [], fpv (.slice p9 F.length c9), ?_, rfl⟩, fun x hx => ?_, hr'.kept⟩
      · rw [HKF.out]
        exact ⟨hr'.cells, hr'.lines, Seen.nil _, Seen.of_row hr'.last (chsCells_length _), ⟨rfl, .inl ⟨rfl, rfl⟩⟩, apart_mk ⟨n1, by simp, n3, by simp [fpv_nil]⟩ ⟨by simp, fun x hx hx2 => hr'.nq.1 x hx2 hx, by simp [fpv_nil]⟩ ⟨by simp, by simp⟩ (by simp [fpv_nil])⟩
      · simp only [refFp, List.mem_cons, List.mem_append, List.not_mem_nil, or_false, false_or, fpv_nil] at hx
        rcases hx with hx | hx | hx
        · omega
        · exact f2 x hx
        · exact f4 x hx
end Go.Proofs.YtdpfohgkikjeaaaGreat
/- A script of steps, as it is read. -/
namespace Go.Proofs.YtdpfohgkikjeaaaGreat
open Go.RowKit
set_option linter.unusedVariables false
set_option linter.unusedSimpArgs false

structure OpS where
  kind : Int
  on : Int
  a : Int
  s : Str
  raw : List Int

structure OpS.Ok (m : OpS) (L : Nat) : Prop where
  kind : RawOk m.kind
  on : RawOk m.on
  a : RawOk m.a
  s : m.s.length ≤ L

/-- One step, in a block from some cell on; its numbers lie below B. -/
structure OpAt (w : World) (B : Nat) (b o : Nat) (m : OpS) (r : Value) : Prop where
  c0 : w.cell? ⟨b, o, none⟩ = some (.int .i64 m.kind)
  c1 : w.cell? ⟨b, o + 1, none⟩ = some (.int .i64 m.on)
  c2 : w.cell? ⟨b, o + 2, none⟩ = some (.int .i64 m.a)
  c3 : w.cell? ⟨b, o + 3, none⟩ = some (sv m.s)
  c4 : w.cell? ⟨b, o + 4, none⟩ = some r
  raw : IntsAt w B r m.raw

structure OpsAt (w : World) (B L : Nat) (v : Value) (l : List OpS) : Prop where
  fits : ∀ m ∈ l, m.Ok L
  few : l.length < 9223372036854775808
  low : B ≤ w.heap.size
  at_ : (∃ a c, v = .slice a 0 c ∧ l = []) ∨ ∃ b o c, v = .slice (some ⟨b, o, none⟩) l.length c ∧ b < B ∧ ∀ j m, l[j]? = some m → ∃ r, OpAt w B b (o + j * 5) m r

theorem OpAt.kept {S : Blocks} {w w' : World} {B b o m r} (h : OpAt w B b o m r) (k : Kept S w w') (hb : b < B) (hn : ∀ x, S x → B ≤ x) : OpAt w' B b o m r := by
  have hnb : ¬ S b := fun hs => by have := hn b hs; omega
  exact ⟨k.read h.c0 hnb, k.read h.c1 hnb, k.read h.c2 hnb, k.read h.c3 hnb, k.read h.c4 hnb, h.raw.kept k hn⟩

theorem OpsAt.kept {S : Blocks} {w w' : World} {B L v l} (h : OpsAt w B L v l) (k : Kept S w w') (hn : ∀ x, S x → B ≤ x) : OpsAt w' B L v l := by
  refine ⟨h.fits, h.few, Nat.le_trans h.low k.size, ?_⟩
  rcases h.at_ with h1 | ⟨b, o, c, hv, hb, hc⟩
  · exact .inl h1
  · refine .inr ⟨b, o, c, hv, hb, fun j m hj => ?_⟩
    obtain ⟨r, hr⟩ := hc j m hj
    exact ⟨r, hr.kept k hb hn⟩
end Go.Proofs.YtdpfohgkikjeaaaGreat
/- The statements' own: pick, num; a twin in memory. -/
namespace Go.Proofs.YtdpfohgkikjeaaaGreat
open Go.RowKit
set_option linter.unusedVariables false
set_option linter.unusedSimpArgs false

theorem pick_law (c : Int) (n : Nat) (nI : Int) (hn : nI = (n : Int)) (hc : RawOk c) (h0 : 0 < n) (hsm : n ≤ 9223372036854775807) (w : World) :
    Calls Tryz.prog 63 #[.int .i64 c, .int .i64 nI] w fun e w' => e = .returned (.int .i64 (pickN c n : Nat)) ∧ w' = w := by
  subst hn
  have he := pick_eq c n hc h0
  obtain ⟨hc1, hc2⟩ := hc
  by_cases h : c < 0
  · rw [if_pos h] at he
    have HE : Hid (((pickN c n : Nat) : Int) = (-(c + 1)) % (n : Int)) := he
    clear he
    have hz : ((n : Int) == 0) = false := by rw [beq_eq_false_iff_ne]; omega
    go_enter Tryz.func63, Tryz.ntmps63
    go_wp2
    go_ret
    exact ⟨by rw [HE.out, neg_mod h]; rfl, rfl⟩
  · rw [if_neg h] at he
    have HE : Hid (((pickN c n : Nat) : Int) = c % (n : Int)) := he
    clear he
    have hz : ((n : Int) == 0) = false := by rw [beq_eq_false_iff_ne]; omega
    go_enter Tryz.func63, Tryz.ntmps63
    go_wp2
    go_ret
    exact ⟨by rw [HE.out]; rfl, rfl⟩

theorem delete_dd {w b d fp} (h : DocR w b d fp) (at_ : Int) (he : d.edits ≤ 1000000000000) :
    Calls Tryz.prog 24 #[.pointer (some ⟨b, 0, none⟩), .int .i64 at_] w fun e w' => e = .returned (.int .i64 ((d.delete at_).1 : Int)) ∧ DocTo w w' b fp (d.delete at_).2 := by
  obtain ⟨va, tfp, afp, h, rfl⟩ := h
  exact delete_doc h at_ he

theorem num_any (e : Int) (w : World) : Calls Tryz.prog 68 #[.int .i64 e] w fun x w' => x = .returned (.int .i64 e) ∧ w' = w := by
  go_enter Tryz.func68, Tryz.ntmps68
  go_wp2
  go_ret
  exact ⟨rfl, rfl⟩

abbrev twinT : TypeId := 120
abbrev ptrV (b : Nat) : Value := .pointer (some ⟨b, 0, none⟩)
abbrev twinCells (bx br bd n : Nat) : Array Value := #[ptrV bx, ptrV br, ptrV bd, .int .i64 (n : Int), .int .i64 0, .int .i64 0, .string ⟨#[]⟩]

/-- A twin in memory: the document d at bx, the document's own answer r at br, the disk k at bd, n acts. -/
structure TwinM (w : World) (b : Nat) (d : DocS) (r : RefS) (k : DiskS) (n : Nat) (bx br bd : Nat) (fx fr fd : List Nat) : Prop where
  cells : w.heap[b]? = some (.cells (twinCells bx br bd n) twinT (0, 0))
  doc : DocR w bx d fx
  ref : RefR w br r fr
  disk : DiskR w bd k fd
  nb : b ∉ fx ∧ b ∉ fr ∧ b ∉ fd
  ap : (∀ x ∈ fx, x ∉ fr) ∧ (∀ x ∈ fx, x ∉ fd) ∧ (∀ x ∈ fr, x ∉ fd)

abbrev twinFp (b : Nat) (fx fr fd : List Nat) : List Nat := b :: (fx ++ (fr ++ fd))

section
variable {w w' : World} {b : Nat} {d d' : DocS} {r r' : RefS} {k k' : DiskS} {n n' bx br bd : Nat} {fx fr fd : List Nat}

theorem TwinM.kept {S : Blocks} (h : TwinM w b d r k n bx br bd fx fr fd) (hk : Kept S w w') (hn : ∀ x ∈ twinFp b fx fr fd, ¬ S x) : TwinM w' b d r k n bx br bd fx fr fd :=
  ⟨hk.get h.cells (hn b (by simp)), h.doc.kept hk (fun x hx => hn x (by simp [hx])), h.ref.kept hk (fun x hx => hn x (by simp [hx])), h.disk.kept hk (fun x hx => hn x (by simp [hx])), h.nb, h.ap⟩

theorem TwinM.lt (h : TwinM w b d r k n bx br bd fx fr fd) : ∀ x ∈ twinFp b fx fr fd, x < w.heap.size := fun x hx => by
  simp only [twinFp, List.mem_cons, List.mem_append] at hx
  rcases hx with rfl | hx | hx | hx
  · exact lt_of_heap h.cells
  · exact h.doc.lt x hx
  · exact h.ref.lt x hx
  · exact h.disk.lt x hx

theorem TwinM.doc_to (h : TwinM w b d r k n bx br bd fx fr fd) (t : DocTo w w' bx fx d') : ∃ fx', TwinM w' b d' r k n bx br bd fx' fr fd ∧ (∀ x ∈ fx', x ∈ fx ∨ w.heap.size ≤ x) ∧ Kept (fun x => x ∈ twinFp b fx fr fd) w w' := by
  obtain ⟨⟨fx', hd, hx⟩, hk⟩ := t
  obtain ⟨n1, n2, n3⟩ := h.nb
  obtain ⟨a1, a2, a3⟩ := h.ap
  have hb := lt_of_heap h.cells
  refine ⟨fx', ⟨hk.get h.cells n1, hd, h.ref.kept hk (fun x hx hx2 => a1 x hx2 hx), h.disk.kept hk (fun x hx hx2 => a2 x hx2 hx), ⟨fun hbx => ?_, n2, n3⟩, ⟨apart_new hx h.ref.lt a1, apart_new hx h.disk.lt a2, a3⟩⟩, hx, hk.mono (fun x hx _ => by show x ∈ twinFp b fx fr fd; have hx : x ∈ fx := hx; simp [hx])⟩
  rcases hx b hbx with h1 | h1
  · exact n1 h1
  · omega

theorem TwinM.ref_to (h : TwinM w b d r k n bx br bd fx fr fd) (t : RefTo w w' br fr r') : ∃ fr', TwinM w' b d r' k n bx br bd fx fr' fd ∧ (∀ x ∈ fr', x ∈ fr ∨ w.heap.size ≤ x) ∧ Kept (fun x => x ∈ twinFp b fx fr fd) w w' := by
  obtain ⟨⟨fr', hd, hx⟩, hk⟩ := t
  obtain ⟨n1, n2, n3⟩ := h.nb
  obtain ⟨a1, a2, a3⟩ := h.ap
  have hb := lt_of_heap h.cells
  refine ⟨fr', ⟨hk.get h.cells n2, h.doc.kept hk (fun x hx hx2 => a1 x hx hx2), hd, h.disk.kept hk (fun x hx hx2 => a3 x hx2 hx), ⟨n1, fun hbx => ?_, n3⟩, ⟨fun x h1 h2 => ?_, a2, apart_new hx h.disk.lt a3⟩⟩, hx, hk.mono (fun x hx _ => by show x ∈ twinFp b fx fr fd; have hx : x ∈ fr := hx; simp [hx])⟩
  · rcases hx b hbx with h1 | h1
    · exact n2 h1
    · omega
  · rcases hx x h2 with h3 | h3
    · exact a1 x h1 h3
    · have := h.doc.lt x h1; omega

theorem TwinM.disk_to (h : TwinM w b d r k n bx br bd fx fr fd) (t : DiskTo w w' bd fd k') : ∃ fd', TwinM w' b d r k' n bx br bd fx fr fd' ∧ (∀ x ∈ fd', x ∈ fd ∨ w.heap.size ≤ x) ∧ Kept (fun x => x ∈ twinFp b fx fr fd) w w' := by
  obtain ⟨⟨fd', hd, hx⟩, hk⟩ := t
  obtain ⟨n1, n2, n3⟩ := h.nb
  obtain ⟨a1, a2, a3⟩ := h.ap
  have hb := lt_of_heap h.cells
  refine ⟨fd', ⟨hk.get h.cells n3, h.doc.kept hk (fun x hx hx2 => a2 x hx hx2), h.ref.kept hk (fun x hx hx2 => a3 x hx hx2), hd, ⟨n1, n2, fun hbx => ?_⟩, ⟨a1, fun x h1 h2 => ?_, fun x h1 h2 => ?_⟩⟩, hx, hk.mono (fun x hx _ => by show x ∈ twinFp b fx fr fd; have hx : x ∈ fd := hx; simp [hx])⟩
  · rcases hx b hbx with h1 | h1
    · exact n3 h1
    · omega
  · rcases hx x h2 with h3 | h3
    · exact a2 x h1 h3
    · have := h.doc.lt x h1; omega
  · rcases hx x h2 with h3 | h3
    · exact a3 x h1 h3
    · have := h.ref.lt x h1; omega

theorem TwinM.store (h : TwinM w b d r k n bx br bd fx fr fd) (hk : Kept (fun x => x = b) w w') (hc : w'.heap[b]? = some (.cells (twinCells bx br bd n') twinT (0, 0))) : TwinM w' b d r k n' bx br bd fx fr fd := by
  obtain ⟨n1, n2, n3⟩ := h.nb
  exact ⟨hc, h.doc.kept hk (fun x hx e => n1 (e ▸ hx)), h.ref.kept hk (fun x hx e => n2 (e ▸ hx)), h.disk.kept hk (fun x hx e => n3 (e ▸ hx)), h.nb, h.ap⟩
end

/-- The twin T lies at b; its blocks are fp. -/
def TwinR (w : World) (b : Nat) (T : TwinS) (fp : List Nat) : Prop := ∃ bx br bd fx fr fd, TwinM w b T.D.doc T.R T.D.disk T.acts bx br bd fx fr fd ∧ fp = twinFp b fx fr fd
theorem TwinR.kept {S : Blocks} {w w' : World} {b T fp} (h : TwinR w b T fp) (k : Kept S w w') (hn : ∀ x ∈ fp, ¬ S x) : TwinR w' b T fp := by
  obtain ⟨bx, br, bd, fx, fr, fd, h, rfl⟩ := h
  exact ⟨bx, br, bd, fx, fr, fd, h.kept k hn, rfl⟩
theorem TwinR.lt {w : World} {b T fp} (h : TwinR w b T fp) : ∀ x ∈ fp, x < w.heap.size := by
  obtain ⟨bx, br, bd, fx, fr, fd, h, rfl⟩ := h
  exact h.lt
theorem TwinR.mem {w : World} {b T fp} (h : TwinR w b T fp) : b ∈ fp := by
  obtain ⟨bx, br, bd, fx, fr, fd, h, rfl⟩ := h
  simp

/-- What a call leaves of a twin. -/
structure TwinTo (w w' : World) (b : Nat) (fp : List Nat) (T' : TwinS) : Prop where
  ex : ∃ fp', TwinR w' b T' fp' ∧ ∀ x ∈ fp', x ∈ fp ∨ w.heap.size ≤ x
  kept : Kept (fun x => x ∈ fp) w w'

theorem TwinTo.same {w w' : World} {b T fp} (h : TwinR w b T fp) (k : Kept no w w') : TwinTo w w' b fp T := ⟨⟨fp, h.kept k (fun _ _ h => h), fun _ hx => .inl hx⟩, k.mono (fun _ h _ => h.elim)⟩

/-- A twin behind a few calls: its blocks are of the old ones, or new; beside it other blocks lie as they lay. -/
structure TwinOn (w0 wx : World) (fp0 : List Nat) (av : List (Nat × Obj)) (b : Nat) (d : DocS) (r : RefS) (k : DiskS) (n : Nat) (bx br bd : Nat) (fx fr fd : List Nat) : Prop where
  at_ : TwinM wx b d r k n bx br bd fx fr fd
  old : ∀ x ∈ twinFp b fx fr fd, x ∈ fp0 ∨ w0.heap.size ≤ x
  kept : Kept (fun x => x ∈ fp0) w0 wx
  av : ∀ p ∈ av, wx.heap[p.1]? = some p.2 ∧ p.1 ∉ twinFp b fx fr fd

section
variable {w0 w w' : World} {fp0 : List Nat} {av : List (Nat × Obj)} {b : Nat} {d d' : DocS} {r r' : RefS} {k k' : DiskS} {n n' bx br bd : Nat} {fx fr fd : List Nat}
theorem TwinOn.start (h : TwinM w b d r k n bx br bd fx fr fd) : TwinOn w w (twinFp b fx fr fd) [] b d r k n bx br bd fx fr fd := ⟨h, fun _ hx => .inl hx, Kept.refl _ _, by simp⟩
theorem TwinOn.mono (h : TwinOn w0 w fp0 av b d r k n bx br bd fx fr fd) {fx' fr' fd' : List Nat} (hm : TwinM w' b d' r' k' n' bx br bd fx' fr' fd') (hx : ∀ x ∈ twinFp b fx' fr' fd', x ∈ twinFp b fx fr fd ∨ w.heap.size ≤ x) (hk : Kept (fun x => x ∈ twinFp b fx fr fd) w w') : TwinOn w0 w' fp0 av b d' r' k' n' bx br bd fx' fr' fd' := by
  refine ⟨hm, fun x hx' => ?_, h.kept.step' hk (fun x hx' hlt => (h.old x hx').resolve_right (by omega)), fun p hp => ?_⟩
  · rcases hx x hx' with h1 | h1
    · exact h.old x h1
    · have := h.kept.size; exact .inr (by omega)
  · obtain ⟨h1, h2⟩ := h.av p hp
    refine ⟨hk.get h1 h2, fun hx' => ?_⟩
    rcases hx _ hx' with h3 | h3
    · exact h2 h3
    · have := lt_of_heap h1; omega
theorem TwinOn.same (h : TwinOn w0 w fp0 av b d r k n bx br bd fx fr fd) (hk : Kept no w w') : TwinOn w0 w' fp0 av b d r k n bx br bd fx fr fd :=
  h.mono (h.at_.kept hk (fun _ _ h => h)) (fun x hx => .inl hx) (hk.mono (fun _ h _ => h.elim))
theorem TwinOn.drew (h : TwinOn w0 w fp0 av b d r k n bx br bd fx fr fd) : TwinOn w0 w.drew fp0 av b d r k n bx br bd fx fr fd := h.same (Kept.refl _ _).drew
theorem TwinOn.hold (h : TwinOn w0 w fp0 av b d r k n bx br bd fx fr fd) (hk : Kept no w w') {g : Nat} {o : Obj} (hg : w'.heap[g]? = some o) (hge : w.heap.size ≤ g) : TwinOn w0 w' fp0 ((g, o) :: av) b d r k n bx br bd fx fr fd := by
  have h1 := h.same hk
  refine ⟨h1.at_, h1.old, h1.kept, fun p hp => ?_⟩
  rcases List.mem_cons.1 hp with rfl | hp
  · exact ⟨hg, fun hx => by have := h.at_.lt _ hx; have : g < w.heap.size := this; omega⟩
  · exact h1.av p hp
theorem TwinOn.got (h : TwinOn w0 w fp0 av b d r k n bx br bd fx fr fd) {g : Nat} {o : Obj} (hm : (g, o) ∈ av) : w.heap[g]? = some o := (h.av _ hm).1
theorem TwinOn.doc_to (h : TwinOn w0 w fp0 av b d r k n bx br bd fx fr fd) (t : DocTo w w' bx fx d') : ∃ fx', TwinOn w0 w' fp0 av b d' r k n bx br bd fx' fr fd := by
  obtain ⟨fx', hm, hx, hk⟩ := h.at_.doc_to t
  refine ⟨fx', h.mono hm (fun x hx' => ?_) hk⟩
  simp only [twinFp, List.mem_cons, List.mem_append] at hx' ⊢
  rcases hx' with h1 | h1 | h1 | h1
  · simp [h1]
  · rcases hx x h1 with h2 | h2
    · simp [h2]
    · exact .inr h2
  · simp [h1]
  · simp [h1]
theorem TwinOn.ref_to (h : TwinOn w0 w fp0 av b d r k n bx br bd fx fr fd) (t : RefTo w w' br fr r') : ∃ fr', TwinOn w0 w' fp0 av b d r' k n bx br bd fx fr' fd := by
  obtain ⟨fx', hm, hx, hk⟩ := h.at_.ref_to t
  refine ⟨fx', h.mono hm (fun x hx' => ?_) hk⟩
  simp only [twinFp, List.mem_cons, List.mem_append] at hx' ⊢
  rcases hx' with h1 | h1 | h1 | h1
  · simp [h1]
  · simp [h1]
  · rcases hx x h1 with h2 | h2
    · simp [h2]
    · exact .inr h2
  · simp [h1]
theorem TwinOn.disk_to (h : TwinOn w0 w fp0 av b d r k n bx br bd fx fr fd) (t : DiskTo w w' bd fd k') : ∃ fd', TwinOn w0 w' fp0 av b d r k' n bx br bd fx fr fd' := by
  obtain ⟨fx', hm, hx, hk⟩ := h.at_.disk_to t
  refine ⟨fx', h.mono hm (fun x hx' => ?_) hk⟩
  simp only [twinFp, List.mem_cons, List.mem_append] at hx' ⊢
  rcases hx' with h1 | h1 | h1 | h1
  · simp [h1]
  · simp [h1]
  · simp [h1]
  · rcases hx x h1 with h2 | h2
    · simp [h2]
    · exact .inr h2
theorem TwinOn.store (h : TwinOn w0 w fp0 av b d r k n bx br bd fx fr fd) (hk : Kept (fun x => x = b) w w') (hc : w'.heap[b]? = some (.cells (twinCells bx br bd n') twinT (0, 0))) : TwinOn w0 w' fp0 av b d r k n' bx br bd fx fr fd :=
  h.mono (h.at_.store hk hc) (fun x hx => .inl hx) (hk.mono (fun x e _ => by have e : x = b := e; show x ∈ twinFp b fx fr fd; simp [e]))
theorem TwinOn.to {T' : TwinS} (h : TwinOn w0 w fp0 av b T'.D.doc T'.R T'.D.disk T'.acts bx br bd fx fr fd) : TwinTo w0 w b fp0 T' := ⟨⟨_, ⟨_, _, _, _, _, _, h.at_, rfl⟩, h.old⟩, h.kept⟩
end
end Go.Proofs.YtdpfohgkikjeaaaGreat
